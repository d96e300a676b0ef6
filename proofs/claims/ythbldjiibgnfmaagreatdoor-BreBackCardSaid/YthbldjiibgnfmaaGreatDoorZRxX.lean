/- hexOf. -/
import Derived.Test.YthbldjiibgnfmaaGreatDoorZRxU
import Derived.Test.YthbldjiibgnfmaaGreatDoorZSetJ
import Derived.Deep.AppendLies
namespace Go.Proofs.YthbldjiibgnfmaaGreatDoor
open Go.RowKit Go.Lib
set_option linter.unusedVariables false
set_option linter.unusedSimpArgs false

theorem idx_dig (q : Nat) (hq : q < 16) (w : World) : (Instr.index 9 (.string ⟨#[48, 49, 50, 51, 52, 53, 54, 55, 56, 57, 97, 98, 99, 100, 101, 102]⟩) (.int .u8 (q : Int))).run Tryz.prog w = .ok (.int .u8 ((dig q).toNat : Int)) w := by
  rcases (by omega : q = 0 ∨ q = 1 ∨ q = 2 ∨ q = 3 ∨ q = 4 ∨ q = 5 ∨ q = 6 ∨ q = 7 ∨ q = 8 ∨ q = 9 ∨ q = 10 ∨ q = 11 ∨ q = 12 ∨ q = 13 ∨ q = 14 ∨ q = 15) with rfl | rfl | rfl | rfl | rfl | rfl | rfl | rfl | rfl | rfl | rfl | rfl | rfl | rfl | rfl | rfl <;> kernel_rfl
/-- The first k bytes as numbers of two digits each. -/
def hexn (s : ByteArray) (k : Nat) : List Int := (hexl (s.data.toList.take k)).map fun c => (c.toNat : Int)
theorem hexl_len (l : List UInt8) : (hexl l).length = 2 * l.length := by
  induction l with
  | nil => rfl
  | cons a l ih => simp only [hexl, List.flatMap_cons, List.length_append, List.length_cons, List.length_nil] at *; omega
theorem hexn_len (s : ByteArray) (k : Nat) (h : k ≤ s.size) : (hexn s k).length = 2 * k := by
  simp only [hexn, List.length_map, hexl_len, List.length_take]
  have : s.data.toList.length = s.size := by simp
  omega
theorem hexn_succ (s : ByteArray) (k : Nat) (h : k < s.size) : hexn s (k + 1) = hexn s k ++ [((dig (s[k].toNat / 16)).toNat : Int), ((dig (s[k].toNat % 16)).toNat : Int)] := by
  have h' : k < s.data.toList.length := by simpa using h
  have e : s[k] = s.data.toList[k] := rfl
  simp only [hexn]
  rw [List.take_succ_eq_append_getElem h']
  simp [hexl, e]

theorem run_index_op {P : Program} {o : Oper} {ev : Operand → Value} {x i : Operand} {t : TypeId} {xv iv v : Value} {w : World} (h : (Instr.index t xv iv).run P w = .ok v w) (ho : o.op = .index t x i) (hx : ev x = xv) (hi : ev i = iv) :
    (execOp ev o).run P w = .ok (.value v) w := by
  unfold execOp
  simp only [ho, hx, hi, h, Sem.run_bind, Sem.run_pure, Result.andThen_ok]

set_option maxRecDepth 100000 in
set_option maxHeartbeats 40000000 in
theorem hexof_c (s : ByteArray) (hs : s.size ≤ 1000) (w : World) :
    Calls Tryz.prog 60 #[.string s] w fun e w' => e = .returned (.string (strOfNums (hexn s s.size))) ∧ Below w.heap.size w w' := by
  obtain ⟨i0, hi, hz0, hz1, hz2⟩ := info_parts infoU8
  obtain ⟨w1, hr, hown, hgrow⟩ := run_make_own (P := Tryz.prog) w w.heap.size 65 5 i0 (.int .u8 0) 1 Tryz.underlying65 hi hz0 hz1 .i64 .i64 (2 * s.size) (by rw [hz2]; omega) (by unfold maxLen; omega) (Nat.le_refl _)
  rw [show ((2 * s.size : Nat) : Int) = 2 * (s.size : Int) by omega] at hr
  have hB0 : Below w.heap.size w w1 := (Below.refl _ w).grown hgrow (Nat.le_refl _) (fun k e => by cases e)
  go_enter Tryz.func60, Tryz.ntmps60
  go_wp2
  clear hr hgrow
  go_loopw [3, 11] (fun v i wr => ∃ (k : Nat) (v' : Value), v = v' ∧ k ≤ s.size ∧ i = .int .i64 k ∧ wr.ownsRow w.heap.size 5 1 v' (2 * k) ((hexn s k).map (Value.int .u8)) ∧ Below w.heap.size w wr) (fun _ i _ => s.size - (RowKit.intOf i).toNat)
  case atStart => exact ⟨0, _, rfl, by omega, rfl, by simpa [hexn, hexl] using hown, hB0⟩
  case round =>
    clear hown hB0
    obtain ⟨k, v, rfl, hk, rfl, hown, hB⟩ := hrel
    by_cases hlt : k < s.size
    · obtain ⟨c, hc⟩ : ∃ c : Nat, c = s[k].toNat := ⟨_, rfl⟩
      have hc256 : c < 256 := by rw [hc]; exact s[k].toNat_lt
      have hx : ∀ w, (Instr.index 9 (.string s) (.int .i64 (k : Int))).run Tryz.prog w = .ok (.int .u8 (c : Int)) w := fun w => by
        rw [run_index_string (P := Tryz.prog) w 9 s .i64 (k : Int) Tryz.underlying9, dif_pos ⟨by omega, by omega⟩]
        simp [hc]
      obtain ⟨q, hq⟩ : ∃ q : Nat, q = c / 16 := ⟨_, rfl⟩
      obtain ⟨m, hm⟩ : ∃ m : Nat, m = c % 16 := ⟨_, rfl⟩
      have h1 : IntKind.u8.wrap ((c : Int) / 16) = (q : Int) := by simp [IntKind.wrap, IntKind.signed, IntKind.bits]; omega
      have h2 : (c : Int).tmod 16 = (m : Int) := by rw [Int.tmod_eq_emod_of_nonneg (by omega)]; omega
      have i1 := idx_dig q (by omega)
      have i2 := idx_dig m (by omega)
      have hs1 := hexn_succ s k hlt
      rw [← hc, ← hq, ← hm] at hs1
      obtain ⟨d1, hd1⟩ : ∃ d : Int, d = ((dig q).toNat : Int) := ⟨_, rfl⟩
      obtain ⟨d2, hd2⟩ : ∃ d : Int, d = ((dig m).toNat : Int) := ⟨_, rfl⟩
      rw [← hd1] at i1 hs1
      rw [← hd2] at i2 hs1
      have HS1 := Lib.hid hs1
      clear hs1 hd1 hd2 hq hm hc
      go_wp2_with fail
      refine wp_region_noPanic ?_
      refine wp_region_held_drew (S := fun w' => Below w.heap.size w w') (by kernel_rfl) ?_ (fun hHeld => ?_)
      · (try dsimp only); exact hB.drew
      refine wpAnyH_take (i := 0) (v := ?_) rfl (by kernel_rfl) (by kernel_rfl) (by kernel_rfl) (fun _ _ _ h => h) (Or.inl ⟨by kernel_rfl, ?_⟩) (by assumption) ?_
      rotate_left
      · (intro w hSw; (try dsimp only at hSw); go_simp); (try with_reducible rfl)
      try simp only [Act.put, List.getElem_toArray, List.getElem_cons_succ, List.getElem_cons_zero, List.setIfInBounds_toArray, List.set_cons_zero, List.set_cons_succ]
      refine wpAnyH_take (i := 1) (v := ?_) rfl (by kernel_rfl) (by kernel_rfl) (by kernel_rfl) (fun _ _ _ h => h) (Or.inl ⟨by kernel_rfl, ?_⟩) (by assumption) ?_
      rotate_left
      · (intro w hSw; (try dsimp only at hSw); go_simp); (try with_reducible rfl)
      try simp only [Act.put, List.getElem_toArray, List.getElem_cons_succ, List.getElem_cons_zero, List.setIfInBounds_toArray, List.set_cons_zero, List.set_cons_succ]
      refine wpAnyH_take (i := 2) (v := ?_) rfl (by kernel_rfl) (by kernel_rfl) (by kernel_rfl) (fun _ _ _ h => h) (Or.inl ⟨by kernel_rfl, ?_⟩) (by assumption) ?_
      rotate_left
      · (intro w hSw; (try dsimp only at hSw); go_simp); (try with_reducible rfl)
      try simp only [Act.put, List.getElem_toArray, List.getElem_cons_succ, List.getElem_cons_zero, List.setIfInBounds_toArray, List.set_cons_zero, List.set_cons_succ]
      refine wpAnyH_take (i := 3) (v := (.int .u8 (c : Int))) rfl (by kernel_rfl) (by kernel_rfl) (by kernel_rfl) (fun _ _ _ h => h) (Or.inl ⟨by kernel_rfl, fun w _ => run_index_op (hx w) rfl rfl rfl⟩) (by assumption) ?_
      try simp only [Act.put, List.getElem_toArray, List.getElem_cons_succ, List.getElem_cons_zero, List.setIfInBounds_toArray, List.set_cons_zero, List.set_cons_succ]
      refine wpAnyH_take (i := 4) (v := (.int .u8 (q : Int))) rfl (by kernel_rfl) (by kernel_rfl) (by kernel_rfl) (fun _ _ _ h => h) (Or.inl ⟨by kernel_rfl, fun w _ => by go_simp⟩) (by assumption) ?_
      try simp only [Act.put, List.getElem_toArray, List.getElem_cons_succ, List.getElem_cons_zero, List.setIfInBounds_toArray, List.set_cons_zero, List.set_cons_succ]
      refine wpAnyH_take (i := 5) (v := (.int .u8 d1)) rfl (by kernel_rfl) (by kernel_rfl) (by kernel_rfl) (fun _ _ _ h => h) (Or.inl ⟨by kernel_rfl, fun w _ => run_index_op (i1 w) rfl rfl rfl⟩) (by assumption) ?_
      try simp only [Act.put, List.getElem_toArray, List.getElem_cons_succ, List.getElem_cons_zero, List.setIfInBounds_toArray, List.set_cons_zero, List.set_cons_succ]
      refine wpAnyH_take (i := 6) (v := ?_) rfl (by kernel_rfl) (by kernel_rfl) (by kernel_rfl) (fun _ _ _ h => h) (Or.inl ⟨by kernel_rfl, ?_⟩) (by assumption) ?_
      rotate_left
      · (intro w hSw; (try dsimp only at hSw); go_simp); (try with_reducible rfl)
      try simp only [Act.put, List.getElem_toArray, List.getElem_cons_succ, List.getElem_cons_zero, List.setIfInBounds_toArray, List.set_cons_zero, List.set_cons_succ]
      refine wpAnyH_take (i := 7) (v := ?_) rfl (by kernel_rfl) (by kernel_rfl) (by kernel_rfl) (fun _ _ _ h => h) (Or.inl ⟨by kernel_rfl, ?_⟩) (by assumption) ?_
      rotate_left
      · (intro w hSw; (try dsimp only at hSw); go_simp); (try with_reducible rfl)
      try simp only [Act.put, List.getElem_toArray, List.getElem_cons_succ, List.getElem_cons_zero, List.setIfInBounds_toArray, List.set_cons_zero, List.set_cons_succ]
      refine wpAnyH_take (i := 8) (v := (.int .u8 (c : Int))) rfl (by kernel_rfl) (by kernel_rfl) (by kernel_rfl) (fun _ _ _ h => h) (Or.inl ⟨by kernel_rfl, fun w _ => run_index_op (hx w) rfl rfl rfl⟩) (by assumption) ?_
      try simp only [Act.put, List.getElem_toArray, List.getElem_cons_succ, List.getElem_cons_zero, List.setIfInBounds_toArray, List.set_cons_zero, List.set_cons_succ]
      refine wpAnyH_take (i := 9) (v := (.int .u8 (m : Int))) rfl (by kernel_rfl) (by kernel_rfl) (by kernel_rfl) (fun _ _ _ h => h) (Or.inl ⟨by kernel_rfl, fun w _ => by go_simp⟩) (by assumption) ?_
      try simp only [Act.put, List.getElem_toArray, List.getElem_cons_succ, List.getElem_cons_zero, List.setIfInBounds_toArray, List.set_cons_zero, List.set_cons_succ]
      refine wpAnyH_take (i := 10) (v := (.int .u8 d2)) rfl (by kernel_rfl) (by kernel_rfl) (by kernel_rfl) (fun _ _ _ h => h) (Or.inl ⟨by kernel_rfl, fun w _ => run_index_op (i2 w) rfl rfl rfl⟩) (by assumption) ?_
      try simp only [Act.put, List.getElem_toArray, List.getElem_cons_succ, List.getElem_cons_zero, List.setIfInBounds_toArray, List.set_cons_zero, List.set_cons_succ]
      refine wpAnyH_ready (rs := [11]) (by kernel_rfl) (by simp) ?_
      refine AllReadyH.cons rfl (fun K hK => ?_) AllReadyH.nil
      have hbs := hB.size
      go_simp
      refine hK.out _ _ ?_ (fun hHeld => ?_)
      · exact (hB.alloc hbs _).drew
      clear hK K
      try simp only [Act.put, List.getElem_toArray, List.getElem_cons_succ, List.getElem_cons_zero, List.setIfInBounds_toArray, List.set_cons_zero, List.set_cons_succ]
      refine wpAnyH_ready (rs := [12]) (by kernel_rfl) (by simp) ?_
      refine AllReadyH.cons rfl (fun K hK => ?_) AllReadyH.nil
      rw [if_pos (by kernel_rfl)]
      have hownA := (hown.alloc (.cells #[.int .u8 d1, .int .u8 d2] 5))
      have hsz : (((wr.alloc (.cells #[.int .u8 d1, .int .u8 d2] 5)).drew)).heap.size = wr.heap.size + 1 := World.size_alloc _ _
      have hcells : ∀ j u, ([.int .u8 d1, .int .u8 d2] : List Value)[j]? = some u → (((wr.alloc (.cells #[.int .u8 d1, .int .u8 d2] 5)).drew)).cell? ((⟨wr.heap.size, 0, none⟩ : Addr).add j) = some u := fun j u hj => by
        have hh : ((wr.alloc (.cells #[.int .u8 d1, .int .u8 d2] 5)).drew).heap[wr.heap.size]? = some (.cells #[.int .u8 d1, .int .u8 d2] 5 (0, 0)) := heap_new wr _
        rw [Addr.add_lit]
        rw [Nat.zero_add, cell_of _ _ _ _ hh]
        simpa using hj
      refine wp_append_lies (P := Tryz.prog) _ _ _ 65 rfl w.heap.size 5 i0 (.int .u8 0) 1 1 Tryz.underlying65 hi hz0 hz1 hz2 rfl (by decide) _ (2 * k) _ rfl hownA ⟨wr.heap.size, 0, none⟩ 2 2 [.int .u8 d1, .int .u8 d2] rfl rfl hcells (by simp [Value.oneCell']) (by decide) (by unfold maxLen; omega) (by omega) (by rw [hsz]; omega) _ rfl ?_
      intro g cap w3 hown3 hgrow3 hat3 hlt3
      have hB3 : Below w.heap.size w w3 := ((hB.alloc hbs (.cells #[.int .u8 d1, .int .u8 d2] 5)).drew).grown hgrow3 (by rw [hsz]; omega) fun n hn => own_ge hown hn
      refine hK.out _ _ hB3 (fun hHeld => ?_)
      clear hK K
      try simp only [Act.put, List.getElem_toArray, List.getElem_cons_succ, List.getElem_cons_zero, List.setIfInBounds_toArray, List.set_cons_zero, List.set_cons_succ]
      refine wpAnyH_take (i := 13) (v := ?_) rfl (by kernel_rfl) (by kernel_rfl) (by kernel_rfl) (fun _ _ _ h => h) (Or.inl ⟨by kernel_rfl, ?_⟩) (by assumption) ?_
      rotate_left
      · (intro w hSw; (try dsimp only at hSw); go_simp); (try with_reducible rfl)
      try simp only [Act.put, List.getElem_toArray, List.getElem_cons_succ, List.getElem_cons_zero, List.setIfInBounds_toArray, List.set_cons_zero, List.set_cons_succ]
      refine wpAnyH_done (by kernel_rfl) ?_ _
      refine NoPanic.normal ?_
      go_wp2
      go_roundw
      case rel => exact ⟨k + 1, _, rfl, by omega, by simp, by rw [HS1.out, List.map_append]; exact hown3, hB3⟩
      case measure => (simp [RowKit.intOf]) <;> omega
    · obtain rfl : k = s.size := by omega
      have hcv := convert_own hown
      go_wp2
      go_ret
      exact ⟨rfl, hB⟩

end Go.Proofs.YthbldjiibgnfmaaGreatDoor
