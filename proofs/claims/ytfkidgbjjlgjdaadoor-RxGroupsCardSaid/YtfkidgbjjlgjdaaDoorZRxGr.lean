/- RxGroups: the walk. -/
import Derived.Test.YtfkidgbjjlgjdaaDoorZRxTs
import Derived.Test.YtfkidgbjjlgjdaaDoorZRxW
namespace Go.Proofs.YtfkidgbjjlgjdaaDoor
open Go.RowKit Go.Lib
set_option linter.unusedVariables false
set_option linter.unusedSimpArgs false

/-- How many of the first k bytes are v. -/
def cn (l : List UInt8) (v : UInt8) (k : Nat) : Nat := (l.take k).count v
theorem cn_succ (l : List UInt8) (v : UInt8) (k : Nat) (h : k < l.length) : cn l v (k + 1) = cn l v k + (if l[k] = v then 1 else 0) := by
  unfold cn
  rw [List.take_succ_eq_append_getElem h, List.count_append, List.count_singleton]
  simp
theorem cn_le (l : List UInt8) (v : UInt8) (k : Nat) : cn l v k ≤ k := by
  unfold cn
  exact Nat.le_trans List.count_le_length (by simp; omega)
theorem cn_all (l : List UInt8) (v : UInt8) : cn l v l.length = l.count v := by simp [cn]

set_option maxRecDepth 100000 in
set_option maxHeartbeats 4000000 in
theorem groups_wide (p : Option Addr) (n cap : Nat) (xs : List Nd) (hn : 130 < n) (w : World) (h : Nodes w p n xs) (hw : Fit4 w) :
    Calls Tryd.prog 7 #[.slice p n cap] w fun e w' => e = .returned (.bool true) ∧ Below w.heap.size w w' := by
  have HS := Lib.hid (shown3_c w hw)
  have hs := h.small
  have h1 : (130 : Int) < n := by omega
  clear h
  go_enter Tryd.func7, Tryd.ntmps7
  go_wp2_with fail
  refine HS.out.mono ?_
  rintro e w1 ⟨rfl, hB1⟩
  go_wp2
  go_ret
  exact ⟨rfl, hB1⟩

set_option maxRecDepth 100000 in
set_option maxHeartbeats 4000000 in
theorem groups_none (p : Option Addr) (n cap : Nat) (xs : List Nd) (hn : n ≤ 130) (hp : ¬ ∃ t, IsPat xs t) (w : World) (h : Nodes w p n xs) (hw : Fit4 w) :
    Calls Tryd.prog 7 #[.slice p n cap] w fun e w' => e = .returned (.bool true) ∧ Below w.heap.size w w' := by
  have HM := Lib.hid (may_n p n cap xs false ⟨fun h => absurd h (by decide), fun h => absurd h hp⟩ w h)
  have HS := Lib.hid fun w' hB => shown3_c w' (hw.below hB)
  have h1 : ((130 : Int) < n) = False := by simp; omega
  clear h hp
  go_enter Tryd.func7, Tryd.ntmps7
  go_wp2_with fail
  refine HM.out.mono ?_
  rintro e w1 ⟨rfl, hB1⟩
  go_wp2_with fail
  refine (HS.out w1 hB1).mono ?_
  rintro e w2 ⟨rfl, hB2⟩
  go_wp2
  go_ret
  exact ⟨rfl, hB1.trans (hB2.mono hB1.size)⟩

set_option maxRecDepth 100000 in
set_option maxHeartbeats 8000000 in
theorem groups_pat (b o n cap : Nat) (xs : List Nd) (hlen : xs.length = n) (t : T) (hp : IsPat xs t) (hfit : ∀ (i : Nat) (x : Nd), xs[i]? = some x → x.Fits) (w : World) (hx : NodesAt w b o xs) (hw : Fit4 w) :
    Calls Tryd.prog 7 #[.slice (some ⟨b, o, none⟩) n cap] w fun e w' => e = .returned (.bool true) ∧ Below w.heap.size w w' := by
  have h120 : n ≤ 120 := by have := hp.2.2.2.1; omega
  have hts : t.size = n := by rw [hp.2.2.1, hlen]
  have h1 : 1 ≤ n := by have := t.size_pos; omega
  have hN : ∀ w', NodesAt w' b o xs → Nodes w' (some ⟨b, o, none⟩) n xs := fun w' hx => ⟨hlen, by omega, fun _ => ⟨b, o, rfl⟩, fun _ b' o' e => by
    simp only [Option.some.injEq, Addr.mk.injEq] at e
    obtain ⟨rfl, rfl, _⟩ := e
    exact hx, hfit⟩
  have HM := Lib.hid (may_n (some ⟨b, o, none⟩) n cap xs true ⟨fun _ => ⟨t, hp⟩, fun _ => rfl⟩ w (hN w hx))
  have HS := Lib.hid fun w' hB => shown3_c w' (hw.below hB)
  have HT := Lib.hid fun w' (hf : Fit3 w') hx => text_in b o n cap xs hlen h1 h120 hfit t hp w' hf hx
  have HG := groups_in b o n cap xs hlen h1 h120 hfit ⟨t, hp⟩
  obtain ⟨tn1, tn2⟩ := tree_nodes t 0 hp.1 hp.2.1
  rw [Nat.zero_add, hts] at tn1 tn2
  have g0 : gcnt xs 0 = 0 := rfl
  rw [g0, Nat.zero_add] at tn1
  rw [tn1] at HG
  have hany : anyRef xs n ↔ 0 < t.refs := by
    rw [tn2]
    constructor
    · rintro (⟨i, x, h1, h2⟩ | h)
      · omega
      · exact h
    · exact .inr
  have HR := refs_in b o n cap xs hlen h1 h120 hfit ⟨t, hp⟩ (decide (0 < t.refs)) (by rw [hany]; simp)
  obtain ⟨c40, c41, c92⟩ := text_count t hp.1
  have h9 : t.groups ≤ 9 := by
    obtain ⟨u, hu⟩ := Option.isSome_iff_exists.1 hp.2.2.2.2.2.2
    have a := num_nine t _ u hp.1 hu (by simp)
    have c := num_fst t _ u hu
    simp at c
    omega
  have htl := text_len t hp.1
  rw [hts] at htl
  have HG1 := Lib.hid HG
  have HR1 := Lib.hid HR
  clear HG HR tn1 tn2 g0 hany hp hts hfit hN
  generalize text t = tt at *
  generalize t.groups = G at *
  generalize t.refs = R at *
  have d40 := Lib.hid ((cn_all tt 40).trans c40)
  have d41 := Lib.hid ((cn_all tt 41).trans c41)
  have d92 := Lib.hid ((cn_all tt 92).trans c92)
  clear c40 c41 c92
  have hsz : (⟨tt.toArray⟩ : ByteArray).size = tt.length := by simp [ByteArray.size]
  have hn1 : ((130 : Int) < n) = False := by simp; omega
  go_enter Tryd.func7, Tryd.ntmps7
  go_wp2_with fail
  refine HM.out.mono ?_
  rintro e w1 ⟨rfl, hB1⟩
  clear HM
  go_wp2_with fail
  refine (HS.out w1 hB1).mono ?_
  rintro e w2 ⟨rfl, hB2⟩
  have hB12 := hB1.trans (hB2.mono hB1.size)
  clear HS hB1 hB2
  go_wp2_with fail
  refine (HT.out w2 (hw.below hB12).f (hx.below hB12 hx.lt)).mono ?_
  rintro e w3 ⟨rfl, hB3⟩
  have hB13 := hB12.trans (hB3.mono hB12.size)
  clear HT hB12 hB3
  go_wp2
  go_loopw [4, 5, 6, 7] (fun x y z i wr => ∃ k : Nat, k ≤ tt.length ∧ i = .int .i64 k ∧ x = .int .i64 (cn tt 40 k) ∧ y = .int .i64 (cn tt 41 k) ∧ z = .int .i64 (cn tt 92 k) ∧ wr = w3) (fun _ _ _ i _ => tt.length - (RowKit.intOf i).toNat)
  case atStart => exact ⟨0, by omega, rfl, rfl, rfl, rfl, rfl⟩
  case round =>
    obtain ⟨k, hk, rfl, rfl, rfl, rfl, rfl⟩ := hrel
    by_cases hlt : k < tt.length
    · obtain ⟨c, hc⟩ : ∃ c : UInt8, c = tt[k] := ⟨_, rfl⟩
      have hx1 : ∀ w, (Instr.index 9 (.string ⟨tt.toArray⟩) (.int .i64 (k : Int))).run Tryd.prog w = .ok (.int .u8 (c.toNat : Int)) w := fun w => by
        rw [run_index_string (P := Tryd.prog) w 9 _ .i64 k Tryd.underlying9, dif_pos ⟨by omega, by rw [hsz]; omega⟩]
        simp [hc]
        rfl
      have s40 := cn_succ tt 40 k hlt
      have s41 := cn_succ tt 41 k hlt
      have s92 := cn_succ tt 92 k hlt
      rw [← hc] at s40 s41 s92
      have l40 := cn_le tt 40 k
      have l41 := cn_le tt 41 k
      have l92 := cn_le tt 92 k
      have S40 := Lib.hid s40
      have S41 := Lib.hid s41
      have S92 := Lib.hid s92
      have hlt1 : ((k : Int) < tt.length) = True := by simp; omega
      clear s40 s41 s92 hc
      generalize cn tt 40 k = q40 at *
      generalize cn tt 41 k = q41 at *
      generalize cn tt 92 k = q92 at *
      by_cases h40 : c = 40
      · subst h40
        have e : ((40 : UInt8).toNat : Int) = 40 := rfl
        rw [e] at hx1
        go_wp2
        go_roundw
        case rel => exact ⟨k + 1, by omega, by simp, by rw [S40.out]; simp, by rw [S41.out]; simp, by rw [S92.out]; simp, trivial⟩
        case measure => (simp [RowKit.intOf]) <;> omega
      by_cases h41 : c = 41
      · subst h41
        have e : ((41 : UInt8).toNat : Int) = 41 := rfl
        rw [e] at hx1
        go_wp2
        go_roundw
        case rel => exact ⟨k + 1, by omega, by simp, by rw [S40.out]; simp, by rw [S41.out]; simp, by rw [S92.out]; simp, trivial⟩
        case measure => (simp [RowKit.intOf]) <;> omega
      by_cases h92 : c = 92
      · subst h92
        have e : ((92 : UInt8).toNat : Int) = 92 := rfl
        rw [e] at hx1
        go_wp2
        go_roundw
        case rel => exact ⟨k + 1, by omega, by simp, by rw [S40.out]; simp, by rw [S41.out]; simp, by rw [S92.out]; simp, trivial⟩
        case measure => (simp [RowKit.intOf]) <;> omega
      have ne : ∀ v : UInt8, c ≠ v → ((c.toNat : Int) == (v.toNat : Int)) = false := fun v hv => by
        simp only [beq_eq_false_iff_ne, ne_eq]
        exact fun e => hv (UInt8.toNat_inj.1 (by omega))
      have n40 : ((c.toNat : Int) == 40) = false := ne 40 h40
      have n41 : ((c.toNat : Int) == 41) = false := ne 41 h41
      have n92 : ((c.toNat : Int) == 92) = false := ne 92 h92
      have r40 := S40.out
      have r41 := S41.out
      have r92 := S92.out
      rw [if_neg h40] at r40
      rw [if_neg h41] at r41
      rw [if_neg h92] at r92
      have R40 := Lib.hid r40
      have R41 := Lib.hid r41
      have R92 := Lib.hid r92
      clear r40 r41 r92 ne h40 h41 h92
      generalize (c.toNat : Int) = cc at *
      go_wp2
      go_roundw
      case rel => exact ⟨k + 1, by omega, by simp, by rw [R40.out]; simp, by rw [R41.out]; simp, by rw [R92.out]; simp, trivial⟩
      case measure => (simp [RowKit.intOf]) <;> omega
    · obtain rfl : k = tt.length := by omega
      rw [d40.out, d41.out, d92.out]
      have hx3 := hx.below hB13 hx.lt
      have HG2 := Lib.hid (HG1.out wr hx3)
      have HR2 := Lib.hid fun w' hB => HR1.out w' (hx3.below hB hx3.lt)
      have hlt1 : ((tt.length : Int) < tt.length) = False := by simp
      have h99 : ((G : Int) ≤ 9) = True := by simp; omega
      clear HG1 HR1
      by_cases hR : 0 < R
      · have hR1 : ((0 : Int) < R) = True := by simp; omega
        have hR2 : decide (0 < R) = true := by simp; omega
        rw [hR2] at HR2
        go_wp2_with fail
        refine HG2.out.mono ?_
        rintro e w4 ⟨rfl, hB4⟩
        go_wp2_with fail
        refine (HR2.out w4 hB4).mono ?_
        rintro e w5 ⟨rfl, hB5⟩
        go_wp2
        go_ret
        exact ⟨rfl, (hB13.trans (hB4.mono hB13.size)).trans (hB5.mono (by have := hB4.size; have := hB13.size; omega))⟩
      · have hR1 : ((0 : Int) < R) = False := by simp; omega
        have hR2 : decide (0 < R) = false := by simp; omega
        rw [hR2] at HR2
        go_wp2_with fail
        refine HG2.out.mono ?_
        rintro e w4 ⟨rfl, hB4⟩
        go_wp2_with fail
        refine (HR2.out w4 hB4).mono ?_
        rintro e w5 ⟨rfl, hB5⟩
        go_wp2
        go_ret
        exact ⟨rfl, (hB13.trans (hB4.mono hB13.size)).trans (hB5.mono (by have := hB4.size; have := hB13.size; omega))⟩

theorem rxGroupsW (p : Option Addr) (n cap : Nat) (xs : List Nd) (w : World) (h : Nodes w p n xs) (hw : Fit4 w) :
    Calls Tryd.prog 7 #[.slice p n cap] w fun e w' => e = .returned (.bool true) ∧ Below w.heap.size w w' := by
  by_cases hn : 130 < n
  · exact groups_wide p n cap xs hn w h hw
  · by_cases hp : ∃ t, IsPat xs t
    · obtain ⟨t, ht⟩ := hp
      have h1 : 1 ≤ n := by have := ht.2.2.1; have := t.size_pos; have := h.len; omega
      obtain ⟨b, o, rfl⟩ := h.ptr h1
      exact groups_pat b o n cap xs h.len t ht h.fits w (h.at' h1 b o rfl) hw
    · exact groups_none p n cap xs (by omega) hp w h hw

end Go.Proofs.YtfkidgbjjlgjdaaDoor
