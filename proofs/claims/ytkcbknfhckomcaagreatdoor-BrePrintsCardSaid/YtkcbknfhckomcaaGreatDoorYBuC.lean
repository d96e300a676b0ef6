/- The reference's byteAt: the walk. -/
import Derived.Test.YtkcbknfhckomcaaGreatDoorYRxT2
import Derived.Test.YtkcbknfhckomcaaGreatDoorYSetMn
import Derived.Test.YtkcbknfhckomcaaGreatDoorYSetH
import Derived.Test.YtkcbknfhckomcaaGreatDoorYSetCl
import Derived.Test.YtkcbknfhckomcaaGreatDoorYRxA
set_option linter.unusedVariables false
set_option linter.unusedSimpArgs false
set_option maxRecDepth 100000
set_option maxHeartbeats 40000000
namespace Go.Proofs.YtkcbknfhckomcaaGreatDoor
open Go.RowKit Go.Lib
theorem ixm_c (s : List UInt8) (p : Nat) (c : UInt8) (hc : s[p]? = some c) (W : World) : (Instr.index 9 (.string ⟨s.toArray⟩) (.int .i64 (p : Int))).run Tryz.prog W = .ok (.int .u8 (c.toNat : Int)) W := by
 have hsz : (⟨s.toArray⟩ : ByteArray).size = s.length := by simp [ByteArray.size]
 obtain ⟨hk, rfl⟩ := List.getElem?_eq_some_iff.1 hc
 rw [run_index_string (P := Tryz.prog) W 9 _ .i64 p Tryz.underlying9, dif_pos ⟨by omega, by rw [hsz]; omega⟩]
 simp
 rfl
theorem ixj_c (s : List UInt8) (p j : Nat) (c : UInt8) (hc : s[p + j]? = some c) (W : World) : (Instr.index 9 (.string ⟨s.toArray⟩) (.int .i64 ((p : Int) + (j : Int)))).run Tryz.prog W = .ok (.int .u8 (c.toNat : Int)) W := by
 have := ixm_c s (p + j) c hc W
 rwa [Int.natCast_add] at this
theorem u8_ne {c d : UInt8} (h : c ≠ d) : ((c.toNat : Int) == (d.toNat : Int)) = false := by
 rw [beq_eq_false_iff_ne]
 intro e
 exact h (UInt8.toNat_inj.1 (by omega))
def rbaV (r : UInt8 × Nat × Bool) : Value := .tuple #[.int .u8 (r.1.toNat : Int), .int .i64 (r.2.1 : Int), .bool r.2.2]
theorem rbyte_c (s : List UInt8) (hs : s.length ≤ 100000) (i : Nat) (hi : i ≤ s.length + 1) (f e : Bool) (w : World) :
  Calls Tryz.prog 103 #[.string ⟨s.toArray⟩, .int .i64 (i : Int), .bool f, .bool e] w fun x w' => x = .returned (rbaV (rba s i f e)) ∧ w' = w := by
 have hsz : (⟨s.toArray⟩ : ByteArray).size = s.length := by simp [ByteArray.size]
 have hw1 : IntKind.i64.wrap ((i : Int) + 1) = (i : Int) + 1 := by simp [IntKind.wrap, IntKind.signed, IntKind.bits]; omega
 have hw2 : IntKind.i64.wrap ((i : Int) + 2) = (i : Int) + 2 := by simp [IntKind.wrap, IntKind.signed, IntKind.bits]; omega
 have hw3 : IntKind.i64.wrap ((i : Int) + 3) = (i : Int) + 3 := by simp [IntKind.wrap, IntKind.signed, IntKind.bits]; omega
 have hw4 : IntKind.i64.wrap ((i : Int) + 4) = (i : Int) + 4 := by simp [IntKind.wrap, IntKind.signed, IntKind.bits]; omega
 obtain ⟨r, hr⟩ : ∃ r, r = rba s i f e := ⟨_, rfl⟩
 rw [← hr]
 have HR := Lib.hid hr
 clear hr
 by_cases hlt : s.length ≤ i
 ·have h0 : s[i]? = none := List.getElem?_eq_none hlt
  have g0 : ((s.length : Int) ≤ i) = True := by simp; omega
  have hv : rba s i f e = (0, 0, false) := by
   exact rba_none _ _ h0
  obtain rfl : r = (0, 0, false) := HR.out.trans hv
  clear HR hv h0
  unfold rbaV
  try simp only
  try generalize UInt8.toNat c = C at *
  try generalize UInt8.toNat d = D at *
  go_enter Tryz.func103, Tryz.ntmps103
  go_wp2
  refine bodyPost_ret (v := .tuple #[.int .u8 0, .int .i64 0, .bool false]) (by simp [results, Tryz.results103, go_sem]) rfl ?_
  exact ⟨rfl, rfl⟩
 have hlt : i < s.length := by omega
 obtain ⟨c, h0⟩ : ∃ c, s[i]? = some c := ⟨_, List.getElem?_eq_getElem hlt⟩
 have x0 := fun W => ixm_c s i c h0 W
 have g0 : ((s.length : Int) ≤ i) = False := by simp; omega
 by_cases k91 : c = 91
 ·subst k91
  by_cases h1l : i + 1 < s.length
  ·have g1 : ((i : Int) + 1 < s.length) = True := by simp; omega
   obtain ⟨d, h1⟩ : ∃ d, s[i + 1]? = some d := ⟨_, List.getElem?_eq_getElem h1l⟩
   have x1 : ∀ W : World, (Instr.index 9 (.string ⟨s.toArray⟩) (.int .i64 ((i : Int) + 1))).run Tryz.prog W = .ok (.int .u8 (d.toNat : Int)) W := fun W => ixj_c s i 1 d h1 W
   have hn : nxB s i = d := by unfold nxB; rw [h1]; rfl
   by_cases e46 : d = 46
   ·subst e46
    by_cases h4l : i + 4 < s.length
    ·have g4 : ((i : Int) + 4 < s.length) = True := by simp; omega
     obtain ⟨c2, h2⟩ : ∃ d, s[i + 2]? = some d := ⟨_, List.getElem?_eq_getElem (by omega)⟩
     obtain ⟨c3, h3⟩ : ∃ d, s[i + 3]? = some d := ⟨_, List.getElem?_eq_getElem (by omega)⟩
     obtain ⟨c4, h4⟩ : ∃ d, s[i + 4]? = some d := ⟨_, List.getElem?_eq_getElem (by omega)⟩
     have x2 : ∀ W : World, (Instr.index 9 (.string ⟨s.toArray⟩) (.int .i64 ((i : Int) + 2))).run Tryz.prog W = .ok (.int .u8 (c2.toNat : Int)) W := fun W => ixj_c s i 2 c2 h2 W
     have y2 : ∀ (h : i + 2 < (⟨s.toArray⟩ : ByteArray).size), (⟨s.toArray⟩ : ByteArray)[i + 2] = c2 := fun h => (List.getElem?_eq_some_iff.1 h2).2
     have x3 : ∀ W : World, (Instr.index 9 (.string ⟨s.toArray⟩) (.int .i64 ((i : Int) + 3))).run Tryz.prog W = .ok (.int .u8 (c3.toNat : Int)) W := fun W => ixj_c s i 3 c3 h3 W
     have x4 : ∀ W : World, (Instr.index 9 (.string ⟨s.toArray⟩) (.int .i64 ((i : Int) + 4))).run Tryz.prog W = .ok (.int .u8 (c4.toNat : Int)) W := fun W => ixj_c s i 4 c4 h4 W
     by_cases e3 : c3 = 46
     ·subst e3
      by_cases e4 : c4 = 93
      ·subst e4
       have hv : rba s i f e = (c2, 5, true) := by
        unfold rba
        rw [h0]
        simp only [hn]
        rw [h2, h3, h4]
        simp
       obtain rfl : r = (c2, 5, true) := HR.out.trans hv
       clear HR hv h0 h1 h2 h3 h4 hn h4l h1l hlt
       unfold rbaV
       try simp only
       try generalize UInt8.toNat c = C at *
       try generalize UInt8.toNat d = D at *
       go_enter Tryz.func103, Tryz.ntmps103
       go_wp2
       refine bodyPost_ret (v := .tuple #[.int .u8 (c2.toNat : Int), .int .i64 5, .bool true]) (by simp [results, Tryz.results103, go_sem, y2]) rfl ?_
       exact ⟨rfl, rfl⟩
      ·have q4 : ((c4.toNat : Int) == 93) = false := u8_ne (d := 93) e4
       have hv : rba s i f e = (0, 0, false) := by
        unfold rba
        rw [h0]
        simp only [hn]
        rw [h2, h3, h4]
        simp [e4]
       obtain rfl : r = (0, 0, false) := HR.out.trans hv
       clear HR hv h0 h1 h2 h3 h4 hn h4l h1l hlt e4
       unfold rbaV
       try simp only
       try generalize UInt8.toNat c = C at *
       try generalize UInt8.toNat d = D at *
       go_enter Tryz.func103, Tryz.ntmps103
       go_wp2
       refine bodyPost_ret (v := .tuple #[.int .u8 0, .int .i64 0, .bool false]) (by simp [results, Tryz.results103, go_sem]) rfl ?_
       exact ⟨rfl, rfl⟩
     ·have q3 : ((c3.toNat : Int) == 46) = false := u8_ne (d := 46) e3
      have hv : rba s i f e = (0, 0, false) := by
       unfold rba
       rw [h0]
       simp only [hn]
       rw [h2, h3, h4]
       simp [e3]
      obtain rfl : r = (0, 0, false) := HR.out.trans hv
      clear HR hv h0 h1 h2 h3 h4 hn h4l h1l hlt e3
      unfold rbaV
      try simp only
      try generalize UInt8.toNat c = C at *
      try generalize UInt8.toNat d = D at *
      go_enter Tryz.func103, Tryz.ntmps103
      go_wp2
      refine bodyPost_ret (v := .tuple #[.int .u8 0, .int .i64 0, .bool false]) (by simp [results, Tryz.results103, go_sem]) rfl ?_
      exact ⟨rfl, rfl⟩
    ·have g4 : ((i : Int) + 4 < s.length) = False := by simp; omega
     have h4 : s[i + 4]? = none := List.getElem?_eq_none (by omega)
     have hv : rba s i f e = (0, 0, false) := by
      unfold rba
      rw [h0]
      simp only [hn]
      rw [h4]
      simp
     obtain rfl : r = (0, 0, false) := HR.out.trans hv
     clear HR hv h0 h1 h4 hn h4l h1l hlt
     unfold rbaV
     try simp only
     try generalize UInt8.toNat c = C at *
     try generalize UInt8.toNat d = D at *
     go_enter Tryz.func103, Tryz.ntmps103
     go_wp2
     refine bodyPost_ret (v := .tuple #[.int .u8 0, .int .i64 0, .bool false]) (by simp [results, Tryz.results103, go_sem]) rfl ?_
     exact ⟨rfl, rfl⟩
   by_cases e61 : d = 61
   ·subst e61
    by_cases h4l : i + 4 < s.length
    ·have g4 : ((i : Int) + 4 < s.length) = True := by simp; omega
     obtain ⟨c2, h2⟩ : ∃ d, s[i + 2]? = some d := ⟨_, List.getElem?_eq_getElem (by omega)⟩
     obtain ⟨c3, h3⟩ : ∃ d, s[i + 3]? = some d := ⟨_, List.getElem?_eq_getElem (by omega)⟩
     obtain ⟨c4, h4⟩ : ∃ d, s[i + 4]? = some d := ⟨_, List.getElem?_eq_getElem (by omega)⟩
     have x2 : ∀ W : World, (Instr.index 9 (.string ⟨s.toArray⟩) (.int .i64 ((i : Int) + 2))).run Tryz.prog W = .ok (.int .u8 (c2.toNat : Int)) W := fun W => ixj_c s i 2 c2 h2 W
     have y2 : ∀ (h : i + 2 < (⟨s.toArray⟩ : ByteArray).size), (⟨s.toArray⟩ : ByteArray)[i + 2] = c2 := fun h => (List.getElem?_eq_some_iff.1 h2).2
     have x3 : ∀ W : World, (Instr.index 9 (.string ⟨s.toArray⟩) (.int .i64 ((i : Int) + 3))).run Tryz.prog W = .ok (.int .u8 (c3.toNat : Int)) W := fun W => ixj_c s i 3 c3 h3 W
     have x4 : ∀ W : World, (Instr.index 9 (.string ⟨s.toArray⟩) (.int .i64 ((i : Int) + 4))).run Tryz.prog W = .ok (.int .u8 (c4.toNat : Int)) W := fun W => ixj_c s i 4 c4 h4 W
     by_cases e3 : c3 = 61
     ·subst e3
      by_cases e4 : c4 = 93
      ·subst e4
       have hv : rba s i f e = (c2, 5, false) := by
        unfold rba
        rw [h0]
        simp only [hn]
        rw [h2, h3, h4]
        simp
       obtain rfl : r = (c2, 5, false) := HR.out.trans hv
       clear HR hv h0 h1 h2 h3 h4 hn h4l h1l hlt
       unfold rbaV
       try simp only
       try generalize UInt8.toNat c = C at *
       try generalize UInt8.toNat d = D at *
       go_enter Tryz.func103, Tryz.ntmps103
       go_wp2
       refine bodyPost_ret (v := .tuple #[.int .u8 (c2.toNat : Int), .int .i64 5, .bool false]) (by simp [results, Tryz.results103, go_sem, y2]) rfl ?_
       exact ⟨rfl, rfl⟩
      ·have q4 : ((c4.toNat : Int) == 93) = false := u8_ne (d := 93) e4
       have hv : rba s i f e = (0, 0, false) := by
        unfold rba
        rw [h0]
        simp only [hn]
        rw [h2, h3, h4]
        simp [e4]
       obtain rfl : r = (0, 0, false) := HR.out.trans hv
       clear HR hv h0 h1 h2 h3 h4 hn h4l h1l hlt e4
       unfold rbaV
       try simp only
       try generalize UInt8.toNat c = C at *
       try generalize UInt8.toNat d = D at *
       go_enter Tryz.func103, Tryz.ntmps103
       go_wp2
       refine bodyPost_ret (v := .tuple #[.int .u8 0, .int .i64 0, .bool false]) (by simp [results, Tryz.results103, go_sem]) rfl ?_
       exact ⟨rfl, rfl⟩
     ·have q3 : ((c3.toNat : Int) == 61) = false := u8_ne (d := 61) e3
      have hv : rba s i f e = (0, 0, false) := by
       unfold rba
       rw [h0]
       simp only [hn]
       rw [h2, h3, h4]
       simp [e3]
      obtain rfl : r = (0, 0, false) := HR.out.trans hv
      clear HR hv h0 h1 h2 h3 h4 hn h4l h1l hlt e3
      unfold rbaV
      try simp only
      try generalize UInt8.toNat c = C at *
      try generalize UInt8.toNat d = D at *
      go_enter Tryz.func103, Tryz.ntmps103
      go_wp2
      refine bodyPost_ret (v := .tuple #[.int .u8 0, .int .i64 0, .bool false]) (by simp [results, Tryz.results103, go_sem]) rfl ?_
      exact ⟨rfl, rfl⟩
    ·have g4 : ((i : Int) + 4 < s.length) = False := by simp; omega
     have h4 : s[i + 4]? = none := List.getElem?_eq_none (by omega)
     have hv : rba s i f e = (0, 0, false) := by
      unfold rba
      rw [h0]
      simp only [hn]
      rw [h4]
      simp
     obtain rfl : r = (0, 0, false) := HR.out.trans hv
     clear HR hv h0 h1 h4 hn h4l h1l hlt
     unfold rbaV
     try simp only
     try generalize UInt8.toNat c = C at *
     try generalize UInt8.toNat d = D at *
     go_enter Tryz.func103, Tryz.ntmps103
     go_wp2
     refine bodyPost_ret (v := .tuple #[.int .u8 0, .int .i64 0, .bool false]) (by simp [results, Tryz.results103, go_sem]) rfl ?_
     exact ⟨rfl, rfl⟩
   by_cases e58 : d = 58
   ·subst e58
    have hv : rba s i f e = (0, 0, false) := by
     unfold rba
     rw [h0]
     simp only [hn]
     simp
    obtain rfl : r = (0, 0, false) := HR.out.trans hv
    clear HR hv h0 h1 hn h1l hlt
    unfold rbaV
    try simp only
    try generalize UInt8.toNat c = C at *
    try generalize UInt8.toNat d = D at *
    go_enter Tryz.func103, Tryz.ntmps103
    go_wp2
    refine bodyPost_ret (v := .tuple #[.int .u8 0, .int .i64 0, .bool false]) (by simp [results, Tryz.results103, go_sem]) rfl ?_
    exact ⟨rfl, rfl⟩
   have d46 : ((d.toNat : Int) == 46) = false := u8_ne (d := 46) e46
   have d61 : ((d.toNat : Int) == 61) = false := u8_ne (d := 61) e61
   have d58 : ((d.toNat : Int) == 58) = false := u8_ne (d := 58) e58
   have hv : rba s i f e = (91, 1, true) := by
    unfold rba
    rw [h0]
    simp only [hn]
    simp [e46, e61, e58]
   obtain rfl : r = (91, 1, true) := HR.out.trans hv
   clear HR hv h0 h1 hn h1l hlt e46 e61 e58
   unfold rbaV
   try simp only
   try generalize UInt8.toNat c = C at *
   try generalize UInt8.toNat d = D at *
   go_enter Tryz.func103, Tryz.ntmps103
   go_wp2
   refine bodyPost_ret (v := .tuple #[.int .u8 91, .int .i64 1, .bool true]) (by simp [results, Tryz.results103, go_sem]) rfl ?_
   exact ⟨rfl, rfl⟩
  ·have g1 : ((i : Int) + 1 < s.length) = False := by simp; omega
   have h1 : s[i + 1]? = none := List.getElem?_eq_none (by omega)
   have hn : nxB s i = 0 := by unfold nxB; rw [h1]; rfl
   have hv : rba s i f e = (91, 1, true) := by
    unfold rba
    rw [h0]
    simp only [hn]
    simp
   obtain rfl : r = (91, 1, true) := HR.out.trans hv
   clear HR hv h0 h1 hn h1l hlt
   unfold rbaV
   try simp only
   try generalize UInt8.toNat c = C at *
   try generalize UInt8.toNat d = D at *
   go_enter Tryz.func103, Tryz.ntmps103
   go_wp2
   refine bodyPost_ret (v := .tuple #[.int .u8 91, .int .i64 1, .bool true]) (by simp [results, Tryz.results103, go_sem]) rfl ?_
   exact ⟨rfl, rfl⟩
 by_cases k92 : c = 92
 ·subst k92
  by_cases h1l : i + 1 < s.length
  ·have g1 : ((i : Int) + 1 < s.length) = True := by simp; omega
   obtain ⟨d, h1⟩ : ∃ d, s[i + 1]? = some d := ⟨_, List.getElem?_eq_getElem h1l⟩
   have x1 : ∀ W : World, (Instr.index 9 (.string ⟨s.toArray⟩) (.int .i64 ((i : Int) + 1))).run Tryz.prog W = .ok (.int .u8 (d.toNat : Int)) W := fun W => ixj_c s i 1 d h1 W
   have hn : nxB s i = d := by unfold nxB; rw [h1]; rfl
   by_cases e110 : d = 110
   ·subst e110
    have hv : rba s i f e = (10, 2, true) := by
     unfold rba
     rw [h0]
     simp only [hn]
     simp
    obtain rfl : r = (10, 2, true) := HR.out.trans hv
    clear HR hv h0 h1 hn h1l hlt
    unfold rbaV
    try simp only
    try generalize UInt8.toNat c = C at *
    try generalize UInt8.toNat d = D at *
    go_enter Tryz.func103, Tryz.ntmps103
    go_wp2
    refine bodyPost_ret (v := .tuple #[.int .u8 10, .int .i64 2, .bool true]) (by simp [results, Tryz.results103, go_sem]) rfl ?_
    exact ⟨rfl, rfl⟩
   have d110 : ((d.toNat : Int) == 110) = false := u8_ne (d := 110) e110
   have hv : rba s i f e = (92, 1, true) := by
    unfold rba
    rw [h0]
    simp only [hn]
    simp [e110]
   obtain rfl : r = (92, 1, true) := HR.out.trans hv
   clear HR hv h0 h1 hn h1l hlt e110
   unfold rbaV
   try simp only
   try generalize UInt8.toNat c = C at *
   try generalize UInt8.toNat d = D at *
   go_enter Tryz.func103, Tryz.ntmps103
   go_wp2
   refine bodyPost_ret (v := .tuple #[.int .u8 92, .int .i64 1, .bool true]) (by simp [results, Tryz.results103, go_sem]) rfl ?_
   exact ⟨rfl, rfl⟩
  ·have g1 : ((i : Int) + 1 < s.length) = False := by simp; omega
   have h1 : s[i + 1]? = none := List.getElem?_eq_none (by omega)
   have hn : nxB s i = 0 := by unfold nxB; rw [h1]; rfl
   have hv : rba s i f e = (92, 1, true) := by
    unfold rba
    rw [h0]
    simp only [hn]
    simp
   obtain rfl : r = (92, 1, true) := HR.out.trans hv
   clear HR hv h0 h1 hn h1l hlt
   unfold rbaV
   try simp only
   try generalize UInt8.toNat c = C at *
   try generalize UInt8.toNat d = D at *
   go_enter Tryz.func103, Tryz.ntmps103
   go_wp2
   refine bodyPost_ret (v := .tuple #[.int .u8 92, .int .i64 1, .bool true]) (by simp [results, Tryz.results103, go_sem]) rfl ?_
   exact ⟨rfl, rfl⟩
 by_cases k93 : c = 93
 ·subst k93
  cases f with
  | true =>
   by_cases h1l : i + 1 < s.length
   ·have g1 : ((i : Int) + 1 < s.length) = True := by simp; omega
    obtain ⟨d, h1⟩ : ∃ d, s[i + 1]? = some d := ⟨_, List.getElem?_eq_getElem h1l⟩
    have x1 : ∀ W : World, (Instr.index 9 (.string ⟨s.toArray⟩) (.int .i64 ((i : Int) + 1))).run Tryz.prog W = .ok (.int .u8 (d.toNat : Int)) W := fun W => ixj_c s i 1 d h1 W
    have hn : nxB s i = d := by unfold nxB; rw [h1]; rfl
    have hv : rba s i true e = (93, 1, true) := by
     unfold rba
     rw [h0]
     simp only [hn]
     simp
    obtain rfl : r = (93, 1, true) := HR.out.trans hv
    clear HR hv h0 h1 hn h1l hlt
    unfold rbaV
    try simp only
    try generalize UInt8.toNat c = C at *
    try generalize UInt8.toNat d = D at *
    go_enter Tryz.func103, Tryz.ntmps103
    go_wp2
    refine bodyPost_ret (v := .tuple #[.int .u8 93, .int .i64 1, .bool true]) (by simp [results, Tryz.results103, go_sem]) rfl ?_
    exact ⟨rfl, rfl⟩
   ·have g1 : ((i : Int) + 1 < s.length) = False := by simp; omega
    have h1 : s[i + 1]? = none := List.getElem?_eq_none (by omega)
    have hn : nxB s i = 0 := by unfold nxB; rw [h1]; rfl
    have hv : rba s i true e = (93, 1, true) := by
     unfold rba
     rw [h0]
     simp only [hn]
     simp
    obtain rfl : r = (93, 1, true) := HR.out.trans hv
    clear HR hv h0 h1 hn h1l hlt
    unfold rbaV
    try simp only
    try generalize UInt8.toNat c = C at *
    try generalize UInt8.toNat d = D at *
    go_enter Tryz.func103, Tryz.ntmps103
    go_wp2
    refine bodyPost_ret (v := .tuple #[.int .u8 93, .int .i64 1, .bool true]) (by simp [results, Tryz.results103, go_sem]) rfl ?_
    exact ⟨rfl, rfl⟩
  | false =>
   by_cases h1l : i + 1 < s.length
   ·have g1 : ((i : Int) + 1 < s.length) = True := by simp; omega
    obtain ⟨d, h1⟩ : ∃ d, s[i + 1]? = some d := ⟨_, List.getElem?_eq_getElem h1l⟩
    have x1 : ∀ W : World, (Instr.index 9 (.string ⟨s.toArray⟩) (.int .i64 ((i : Int) + 1))).run Tryz.prog W = .ok (.int .u8 (d.toNat : Int)) W := fun W => ixj_c s i 1 d h1 W
    have hn : nxB s i = d := by unfold nxB; rw [h1]; rfl
    have hv : rba s i false e = (0, 0, false) := by
     unfold rba
     rw [h0]
     simp only [hn]
     simp
    obtain rfl : r = (0, 0, false) := HR.out.trans hv
    clear HR hv h0 h1 hn h1l hlt
    unfold rbaV
    try simp only
    try generalize UInt8.toNat c = C at *
    try generalize UInt8.toNat d = D at *
    go_enter Tryz.func103, Tryz.ntmps103
    go_wp2
    refine bodyPost_ret (v := .tuple #[.int .u8 0, .int .i64 0, .bool false]) (by simp [results, Tryz.results103, go_sem]) rfl ?_
    exact ⟨rfl, rfl⟩
   ·have g1 : ((i : Int) + 1 < s.length) = False := by simp; omega
    have h1 : s[i + 1]? = none := List.getElem?_eq_none (by omega)
    have hn : nxB s i = 0 := by unfold nxB; rw [h1]; rfl
    have hv : rba s i false e = (0, 0, false) := by
     unfold rba
     rw [h0]
     simp only [hn]
     simp
    obtain rfl : r = (0, 0, false) := HR.out.trans hv
    clear HR hv h0 h1 hn h1l hlt
    unfold rbaV
    try simp only
    try generalize UInt8.toNat c = C at *
    try generalize UInt8.toNat d = D at *
    go_enter Tryz.func103, Tryz.ntmps103
    go_wp2
    refine bodyPost_ret (v := .tuple #[.int .u8 0, .int .i64 0, .bool false]) (by simp [results, Tryz.results103, go_sem]) rfl ?_
    exact ⟨rfl, rfl⟩
 by_cases k45 : c = 45
 ·subst k45
  cases f with
  | true =>
   by_cases h1l : i + 1 < s.length
   ·have g1 : ((i : Int) + 1 < s.length) = True := by simp; omega
    obtain ⟨d, h1⟩ : ∃ d, s[i + 1]? = some d := ⟨_, List.getElem?_eq_getElem h1l⟩
    have x1 : ∀ W : World, (Instr.index 9 (.string ⟨s.toArray⟩) (.int .i64 ((i : Int) + 1))).run Tryz.prog W = .ok (.int .u8 (d.toNat : Int)) W := fun W => ixj_c s i 1 d h1 W
    have hn : nxB s i = d := by unfold nxB; rw [h1]; rfl
    have hv : rba s i true e = (45, 1, true) := by
     unfold rba
     rw [h0]
     simp only [hn]
     simp
    obtain rfl : r = (45, 1, true) := HR.out.trans hv
    clear HR hv h0 h1 hn h1l hlt
    unfold rbaV
    try simp only
    try generalize UInt8.toNat c = C at *
    try generalize UInt8.toNat d = D at *
    go_enter Tryz.func103, Tryz.ntmps103
    go_wp2
    refine bodyPost_ret (v := .tuple #[.int .u8 45, .int .i64 1, .bool true]) (by simp [results, Tryz.results103, go_sem]) rfl ?_
    exact ⟨rfl, rfl⟩
   ·have g1 : ((i : Int) + 1 < s.length) = False := by simp; omega
    have h1 : s[i + 1]? = none := List.getElem?_eq_none (by omega)
    have hn : nxB s i = 0 := by unfold nxB; rw [h1]; rfl
    have hv : rba s i true e = (45, 1, true) := by
     unfold rba
     rw [h0]
     simp only [hn]
     simp
    obtain rfl : r = (45, 1, true) := HR.out.trans hv
    clear HR hv h0 h1 hn h1l hlt
    unfold rbaV
    try simp only
    try generalize UInt8.toNat c = C at *
    try generalize UInt8.toNat d = D at *
    go_enter Tryz.func103, Tryz.ntmps103
    go_wp2
    refine bodyPost_ret (v := .tuple #[.int .u8 45, .int .i64 1, .bool true]) (by simp [results, Tryz.results103, go_sem]) rfl ?_
    exact ⟨rfl, rfl⟩
  | false =>
   cases e with
   | true =>
    by_cases h1l : i + 1 < s.length
    ·have g1 : ((i : Int) + 1 < s.length) = True := by simp; omega
     obtain ⟨d, h1⟩ : ∃ d, s[i + 1]? = some d := ⟨_, List.getElem?_eq_getElem h1l⟩
     have x1 : ∀ W : World, (Instr.index 9 (.string ⟨s.toArray⟩) (.int .i64 ((i : Int) + 1))).run Tryz.prog W = .ok (.int .u8 (d.toNat : Int)) W := fun W => ixj_c s i 1 d h1 W
     have hn : nxB s i = d := by unfold nxB; rw [h1]; rfl
     have hv : rba s i false true = (45, 1, true) := by
      unfold rba
      rw [h0]
      simp only [hn]
      simp
     obtain rfl : r = (45, 1, true) := HR.out.trans hv
     clear HR hv h0 h1 hn h1l hlt
     unfold rbaV
     try simp only
     try generalize UInt8.toNat c = C at *
     try generalize UInt8.toNat d = D at *
     go_enter Tryz.func103, Tryz.ntmps103
     go_wp2
     refine bodyPost_ret (v := .tuple #[.int .u8 45, .int .i64 1, .bool true]) (by simp [results, Tryz.results103, go_sem]) rfl ?_
     exact ⟨rfl, rfl⟩
    ·have g1 : ((i : Int) + 1 < s.length) = False := by simp; omega
     have h1 : s[i + 1]? = none := List.getElem?_eq_none (by omega)
     have hn : nxB s i = 0 := by unfold nxB; rw [h1]; rfl
     have hv : rba s i false true = (45, 1, true) := by
      unfold rba
      rw [h0]
      simp only [hn]
      simp
     obtain rfl : r = (45, 1, true) := HR.out.trans hv
     clear HR hv h0 h1 hn h1l hlt
     unfold rbaV
     try simp only
     try generalize UInt8.toNat c = C at *
     try generalize UInt8.toNat d = D at *
     go_enter Tryz.func103, Tryz.ntmps103
     go_wp2
     refine bodyPost_ret (v := .tuple #[.int .u8 45, .int .i64 1, .bool true]) (by simp [results, Tryz.results103, go_sem]) rfl ?_
     exact ⟨rfl, rfl⟩
   | false =>
    by_cases h1l : i + 1 < s.length
    ·have g1 : ((i : Int) + 1 < s.length) = True := by simp; omega
     obtain ⟨d, h1⟩ : ∃ d, s[i + 1]? = some d := ⟨_, List.getElem?_eq_getElem h1l⟩
     have x1 : ∀ W : World, (Instr.index 9 (.string ⟨s.toArray⟩) (.int .i64 ((i : Int) + 1))).run Tryz.prog W = .ok (.int .u8 (d.toNat : Int)) W := fun W => ixj_c s i 1 d h1 W
     have hn : nxB s i = d := by unfold nxB; rw [h1]; rfl
     by_cases e93 : d = 93
     ·subst e93
      have hv : rba s i false false = (45, 1, true) := by
       unfold rba
       rw [h0]
       simp only [hn]
       simp
      obtain rfl : r = (45, 1, true) := HR.out.trans hv
      clear HR hv h0 h1 hn h1l hlt
      unfold rbaV
      try simp only
      try generalize UInt8.toNat c = C at *
      try generalize UInt8.toNat d = D at *
      go_enter Tryz.func103, Tryz.ntmps103
      go_wp2
      refine bodyPost_ret (v := .tuple #[.int .u8 45, .int .i64 1, .bool true]) (by simp [results, Tryz.results103, go_sem]) rfl ?_
      exact ⟨rfl, rfl⟩
     have d93 : ((d.toNat : Int) == 93) = false := u8_ne (d := 93) e93
     have dn93 : ((d.toNat : Int) != 93) = true := by rw [bne, d93]; rfl
     have hv : rba s i false false = (0, 0, false) := by
      unfold rba
      rw [h0]
      simp only [hn]
      simp [e93]
     obtain rfl : r = (0, 0, false) := HR.out.trans hv
     clear HR hv h0 h1 hn h1l hlt e93
     unfold rbaV
     try simp only
     try generalize UInt8.toNat c = C at *
     try generalize UInt8.toNat d = D at *
     go_enter Tryz.func103, Tryz.ntmps103
     go_wp2
     refine bodyPost_ret (v := .tuple #[.int .u8 0, .int .i64 0, .bool false]) (by simp [results, Tryz.results103, go_sem]) rfl ?_
     exact ⟨rfl, rfl⟩
    ·have g1 : ((i : Int) + 1 < s.length) = False := by simp; omega
     have h1 : s[i + 1]? = none := List.getElem?_eq_none (by omega)
     have hn : nxB s i = 0 := by unfold nxB; rw [h1]; rfl
     have hv : rba s i false false = (0, 0, false) := by
      unfold rba
      rw [h0]
      simp only [hn]
      simp
     obtain rfl : r = (0, 0, false) := HR.out.trans hv
     clear HR hv h0 h1 hn h1l hlt
     unfold rbaV
     try simp only
     try generalize UInt8.toNat c = C at *
     try generalize UInt8.toNat d = D at *
     go_enter Tryz.func103, Tryz.ntmps103
     go_wp2
     refine bodyPost_ret (v := .tuple #[.int .u8 0, .int .i64 0, .bool false]) (by simp [results, Tryz.results103, go_sem]) rfl ?_
     exact ⟨rfl, rfl⟩
 have c91 : ((c.toNat : Int) == 91) = false := u8_ne (d := 91) k91
 have c92 : ((c.toNat : Int) == 92) = false := u8_ne (d := 92) k92
 have c93 : ((c.toNat : Int) == 93) = false := u8_ne (d := 93) k93
 have c45 : ((c.toNat : Int) == 45) = false := u8_ne (d := 45) k45
 by_cases h1l : i + 1 < s.length
 ·have g1 : ((i : Int) + 1 < s.length) = True := by simp; omega
  obtain ⟨d, h1⟩ : ∃ d, s[i + 1]? = some d := ⟨_, List.getElem?_eq_getElem h1l⟩
  have x1 : ∀ W : World, (Instr.index 9 (.string ⟨s.toArray⟩) (.int .i64 ((i : Int) + 1))).run Tryz.prog W = .ok (.int .u8 (d.toNat : Int)) W := fun W => ixj_c s i 1 d h1 W
  have hn : nxB s i = d := by unfold nxB; rw [h1]; rfl
  have hv : rba s i f e = (c, 1, true) := by
   unfold rba
   rw [h0]
   simp [k91, k92, k93, k45]
  obtain rfl : r = (c, 1, true) := HR.out.trans hv
  clear HR hv h0 h1 hn h1l hlt k91 k92 k93 k45
  unfold rbaV
  try simp only
  try generalize UInt8.toNat c = C at *
  try generalize UInt8.toNat d = D at *
  go_enter Tryz.func103, Tryz.ntmps103
  go_wp2
  refine bodyPost_ret (v := .tuple #[.int .u8 (C : Int), .int .i64 1, .bool true]) (by simp [results, Tryz.results103, go_sem]) rfl ?_
  exact ⟨rfl, rfl⟩
 ·have g1 : ((i : Int) + 1 < s.length) = False := by simp; omega
  have h1 : s[i + 1]? = none := List.getElem?_eq_none (by omega)
  have hn : nxB s i = 0 := by unfold nxB; rw [h1]; rfl
  have hv : rba s i f e = (c, 1, true) := by
   unfold rba
   rw [h0]
   simp [k91, k92, k93, k45]
  obtain rfl : r = (c, 1, true) := HR.out.trans hv
  clear HR hv h0 h1 hn h1l hlt k91 k92 k93 k45
  unfold rbaV
  try simp only
  try generalize UInt8.toNat c = C at *
  try generalize UInt8.toNat d = D at *
  go_enter Tryz.func103, Tryz.ntmps103
  go_wp2
  refine bodyPost_ret (v := .tuple #[.int .u8 (C : Int), .int .i64 1, .bool true]) (by simp [results, Tryz.results103, go_sem]) rfl ?_
  exact ⟨rfl, rfl⟩
end Go.Proofs.YtkcbknfhckomcaaGreatDoor
namespace Go.Proofs.YtkcbknfhckomcaaGreatDoor
open Go.RowKit
theorem rof_c (s : ByteArray) (hs : s.size < 9223372036854775807) (w : World) :
  Calls Tryz.prog 77 #[.string s] w fun e w' => e = .returned (bv (inS s s.size)) ∧ Below w.heap.size w w' := by
 obtain ⟨hz, hsz⟩ := zero_of_info (P := Tryz.prog) info27
 have hst0 := store_fresh w
 unfold bv
 go_enter Tryz.func77, Tryz.ntmps77
 go_wp2
 clear hst0
 go_loopw [4] (fun i wr => ∃ k : Nat, k ≤ s.size ∧ i = .int .i64 k ∧ Row wr w.heap.size (fun _ => false) ∧ Row wr (w.heap.size + 1) (inS s k) ∧ Below w.heap.size w wr) (fun i _ => s.size - (RowKit.intOf i).toNat)
 case atStart =>
  refine ⟨0, by omega, rfl, (Row.new w _).alloc _, ?_, ((Below.refl _ w).alloc (Nat.le_refl _) _).alloc (by simp) _⟩
  have := Row.new (w.alloc (.cells (barr fun _ => false) 66)) (fun _ => false)
  rw [World.size_alloc] at this
  exact this.congr fun i _ => by simp [inS]
 case round =>
  obtain ⟨k, hk, rfl, h0, h1, hB⟩ := hrel
  by_cases hlt : k < s.size
  ·have hle := s[k].toNat_lt
   have hc := h1.cell s[k].toNat hle
   have hf := h1.fz s[k].toNat
   go_wp2
   go_roundw
   case rel =>
    refine ⟨k + 1, by omega, by simp, h0.other (by simp) _, (h1.set _ _).congr fun i _ => ?_, hB.setCell (p := ⟨w.heap.size + 1, s[k].toNat, none⟩) (by simp) _⟩
    rw [inS_succ s k i hlt]
    by_cases e : i = s[k].toNat
    ·simp [e]
    ·have e2 : (i == s[k].toNat) = false := by simp [e]
     rw [if_neg e, e2, Bool.or_false]
   case measure => simp [RowKit.intOf]; omega
  ·obtain rfl : k = s.size := by omega
   have hst := h0.storeCells
   go_wp2
   refine wp_load_row h1 rfl rfl ?_
   go_wp2
   have q := h0.put (inS s s.size)
   have ql := q.load
   refine bodyPost_ret (v := .agg (barr (inS s s.size))) ?_ rfl ⟨rfl, Below.setRow hB (by omega) _⟩
   simp [results, Tryz.results77, asAddr, Result.andThen, ql]
end Go.Proofs.YtkcbknfhckomcaaGreatDoor
namespace Go.Proofs.YtkcbknfhckomcaaGreatDoor
open Go.RowKit
def tupQ (p : (Nat → Bool) × Bool) : Value := .tuple #[.agg (barr p.1), .bool p.2]
theorem rangeQ (a b : Nat) (ha : a < 256) (hb : b < 256) : RRangeTo a b (rg a b) := fun w => rrange_c a b ha hb w
theorem ofQ (s : ByteArray) (hs : s.size < 9223372036854775807) : ROfTo s (inS s s.size) := fun w => rof_c s hs w
theorem orQ (f g : Nat → Bool) : ROrTo f g (fun i => f i || g i) := fun w => ror_c f g w
theorem rclass_c (x : ByteArray) (w : World) : Calls Tryz.prog 101 #[.string x] w fun e w' => e = .returned (tupQ (clsV x.data.toList)) ∧ Below w.heap.size w w' := by
 refine (rclass_go x (rg 65 90) (rg 97 122) (rg 48 57) (fun i => rg 65 90 i || rg 97 122 i) (fun i => (rg 65 90 i || rg 97 122 i) || rg 48 57 i)
  ⟨rangeQ 65 90 (by omega) (by omega), rangeQ 97 122 (by omega) (by omega), rangeQ 48 57 (by omega) (by omega), orQ _ _, orQ _ _⟩
  (rg 65 70) (rg 97 102) (fun i => rg 65 70 i || rg 97 102 i) (fun i => rg 48 57 i || (rg 65 70 i || rg 97 102 i)) (inS ⟨#[9, 32]⟩ 2) (rg 9 13) (inS ⟨#[32]⟩ 1) (fun i => rg 9 13 i || inS ⟨#[32]⟩ 1 i) (rg 0 31) (rg 127 127) (fun i => rg 0 31 i || rg 127 127 i) (rg 33 126) (rg 32 126)
  (rangeQ 65 70 (by omega) (by omega)) (rangeQ 97 102 (by omega) (by omega)) (orQ _ _) (orQ _ _) (ofQ ⟨#[9, 32]⟩ (by decide)) (rangeQ 9 13 (by omega) (by omega)) (ofQ ⟨#[32]⟩ (by decide)) (orQ _ _) (rangeQ 0 31 (by omega) (by omega)) (rangeQ 127 127 (by omega) (by omega)) (orQ _ _) (rangeQ 33 126 (by omega) (by omega)) (rangeQ 32 126 (by omega) (by omega))
  (fun v => v = tupQ (clsV x.data.toList))
  (fun h => by obtain rfl := name_of h; rfl)
  (fun h => by obtain rfl := name_of h; rfl)
  (fun h => by obtain rfl := name_of h; rfl)
  (fun h => by obtain rfl := name_of h; rfl)
  (fun h => by obtain rfl := name_of h; rfl)
  (fun h => by obtain rfl := name_of h; rfl)
  (fun h => by obtain rfl := name_of h; rfl)
  (fun h => by obtain rfl := name_of h; rfl)
  (fun h => by obtain rfl := name_of h; rfl)
  (fun h => by obtain rfl := name_of h; rfl)
  (fun h => by obtain rfl := name_of h; rfl)
  (fun h => by obtain rfl := name_of h; rfl)
  (fun h0 h1 h2 h3 h4 h5 h6 h7 h8 h9 h10 h11 => by rw [ByteArray.toList_eq] at *; simp only [clsV, h0, h1, h2, h3, h4, h5, h6, h7, h8, h9, h10, h11]; rfl) w).mono ?_
 rintro e w' ⟨⟨v, rfl, rfl⟩, hB⟩
 exact ⟨rfl, hB⟩
end Go.Proofs.YtkcbknfhckomcaaGreatDoor
