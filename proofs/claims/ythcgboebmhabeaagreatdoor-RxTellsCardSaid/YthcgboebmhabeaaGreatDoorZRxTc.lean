/- Text. -/
import Derived.Test.YthcgboebmhabeaaGreatDoorZRxTb
import Derived.Laws.EntriesVeiled
namespace Go.Proofs.YthcgboebmhabeaaGreatDoor
open Go.RowKit
set_option linter.unusedVariables false
set_option linter.unusedSimpArgs false

theorem writes_all (L C b o0 n cap : Nat) (xs : List Nd) (hlen : xs.length = n) (hn : n ≤ 120) (hfit : ∀ (i : Nat) (x : Nd), xs[i]? = some x → x.Fits) : ∀ t : T, t.Ok → Writes L C b o0 n cap xs t
  | .leaf ⟨kd, w0, w1, w2, w3, xa, xb, m, M, xn⟩, h => by
    have hk := h.2
    simp only at hk
    rcases hk with rfl | rfl | rfl | rfl | rfl
    · exact writes_leaf0 L C b o0 n cap xs hlen hn hfit w0 w1 w2 w3 xa xb m M xn
    · exact writes_leaf1 L C b o0 n cap xs hlen hn hfit w0 w1 w2 w3 xa xb m M xn
    · exact writes_leaf2 L C b o0 n cap xs hlen hn hfit w0 w1 w2 w3 xa xb m M xn
    · exact writes_leaf3 L C b o0 n cap xs hlen hn hfit w0 w1 w2 w3 xa xb m M xn
    · exact writes_leaf8 L C b o0 n cap xs hlen hn hfit w0 w1 w2 w3 xa xb m M xn
  | .two k s t, h => by
    rcases h.1 with rfl | rfl
    · exact writes_two4 L C b o0 n cap xs hlen hn hfit s t (writes_all L C b o0 n cap xs hlen hn hfit s h.2.1) (writes_all L C b o0 n cap xs hlen hn hfit t h.2.2)
    · exact writes_two5 L C b o0 n cap xs hlen hn hfit s t (writes_all L C b o0 n cap xs hlen hn hfit s h.2.1) (writes_all L C b o0 n cap xs hlen hn hfit t h.2.2)
  | .times m M t, h => writes_times L C b o0 n cap xs hlen hn hfit m M t (writes_all L C b o0 n cap xs hlen hn hfit t h.2)
  | .group k t, h => writes_group L C b o0 n cap xs hlen hn hfit k t (writes_all L C b o0 n cap xs hlen hn hfit t h.2)

theorem cnt_of {m M : Int} (h : isCnt m M = true) : 0 ≤ m ∧ m ≤ 255 ∧ -1 ≤ M ∧ M ≤ 255 := by
  unfold isCnt at h
  split at h
  · cases h
  · have := of_decide_eq_true h
    omega
theorem text_len : ∀ t : T, t.Ok → (text t).length ≤ 600 * t.size
  | .leaf x, h => by
    obtain ⟨hn, k⟩ := h
    show (leafText x).length ≤ 600 * 1
    rcases k with k | k | k | k | k
    · simp [leafText, k]
    · have h1 := hexl_len (bytesOf x.set).data.toList
      have h2 : (bytesOf x.set).data.toList.length = (bytesOf x.set).size := by simp
      have h3 := bytesOf_size x.set
      have h4 := cnt_le x.set 256
      simp [leafText, k]; omega
    · simp [leafText, k]
    · simp [leafText, k]
    · have h0 := num_of (isNd_ref hn k).1
      have h1 := Lib.itoa_length_le x.n (by omega) (by omega)
      simp [leafText, k]; omega
  | .two k a b, h => by
    have h1 := text_len a h.2.1
    have h2 := text_len b h.2.2
    simp only [text, T.size, List.length_cons, List.length_append]; omega
  | .times m M t, h => by
    have h0 := cnt_of h.1
    have h1 := Lib.itoa_length_le m (by omega) (by omega)
    have h2 := Lib.itoa_length_le M (by omega) (by omega)
    have h3 := text_len t h.2
    simp only [text, T.size, List.length_cons, List.length_append]; omega
  | .group n t, h => by
    have h3 := text_len t h.2
    simp only [text, T.size, List.length_cons, List.length_append, List.length_nil]; omega

set_option maxRecDepth 100000 in
set_option maxHeartbeats 40000000 in
theorem text_in (b o n cap : Nat) (xs : List Nd) (hlen : xs.length = n) (h1 : 1 ≤ n) (hn : n ≤ 120) (hfit : ∀ (i : Nat) (x : Nd), xs[i]? = some x → x.Fits) (t : T) (hp : IsPat xs t) (w : World) (hw : Fit3 w) (hx : NodesAt w b o xs) :
    Calls Tryz.prog 12 #[.slice (some ⟨b, o, none⟩) n cap] w fun e w' => e = .returned (.string ⟨(text t).toArray⟩) ∧ Below w.heap.size w w' := by
  obtain ⟨p, rfl⟩ : ∃ p, n = p + 1 := ⟨n - 1, by omega⟩
  have htl := text_len t hp.1
  have hsz : t.size = p + 1 := by rw [hp.2.2.1, hlen]
  have bA : Below w.heap.size w (w.alloc (.cells #[.slice (some ⟨b, o, none⟩) (p + 1) cap] 22)) := (Below.refl _ w).alloc (Nat.le_refl _) _
  have hxA := hx.below bA hx.lt
  have HM := Lib.hid (may_in b o (p + 1) cap xs hlen h1 hn hfit true ⟨fun _ => ⟨t, hp⟩, fun _ => rfl⟩ _ hxA)
  have hl0 := heap_new w (.cells #[.slice (some ⟨b, o, none⟩) (p + 1) cap] 22)
  have lb := hx.lt
  go_enter Tryz.func12, Tryz.ntmps12
  go_wp2_with fail
  refine HM.out.mono ?_
  rintro e W1 ⟨rfl, hB1⟩
  have b1 : Below w.heap.size w W1 := bA.trans (hB1.mono (by simp))
  have hl1 : W1.heap[w.heap.size]? = some (.cells #[.slice (some ⟨b, o, none⟩) (p + 1) cap] 22 (0, 0)) := (hB1.block _ (by simp)).trans hl0
  have lL : w.heap.size < W1.heap.size := (Array.getElem?_eq_some_iff.1 hl1).1
  have cL : W1.cell? ⟨w.heap.size, 0, none⟩ = some (.slice (some ⟨b, o, none⟩) (p + 1) cap) := by simp [World.cell?, hl1]
  obtain ⟨V, hV⟩ : ∃ V, V = ((W1.alloc (.cells #[.pointer none, .slice none 0 0] 55)).alloc (.cells #[.func (.func 26) #[] #[.pointer (some ⟨w.heap.size, 0, none⟩), .pointer (some ⟨W1.heap.size, 0, none⟩), .pointer (some ⟨W1.heap.size + 1, 0, none⟩)]] 56)) := ⟨_, rfl⟩
  have e1 : (W1.alloc (.cells #[.pointer none, .slice none 0 0] 55)).heap.size = W1.heap.size + 1 := World.size_alloc _ _
  have bV : Below w.heap.size w V := by rw [hV]; exact (b1.alloc (by omega) _).alloc (by omega) _
  have hE : TEnv w.heap.size W1.heap.size b o (p + 1) cap xs [] V := by
    refine ⟨lb, lL, ?_, .inl ⟨by omega, .slice none 0 0, ?_, ⟨by simp, .inl ⟨rfl, rfl⟩⟩, by simp [Value.ownBlock]⟩, ?_, hx.below bV lb, fun w' h' => hw.below (bV.trans h')⟩
    · rw [hV, heap_alloc_lt _ _ _ (by omega), heap_alloc_lt _ _ _ (by omega)]; exact hl1
    · rw [hV, heap_alloc_lt _ _ _ (by omega)]; exact heap_new _ _
    · rw [hV, ← e1]; exact heap_new _ _
  have cE := hE.cl; have fE := hE.cf
  have WA := Lib.hid (writes_all w.heap.size W1.heap.size b o (p + 1) cap xs hlen hn hfit t hp.1 0 p [] V hp.2.1 (by omega) (by omega) (by simp; omega) hE)
  rw [hV] at WA cE fE bV
  clear hE HM hl0 hl1 e1
  go_wp2_with fail
  refine WA.out.mono ?_
  rintro e W2 ⟨rfl, hw2, k2⟩
  rw [List.nil_append] at hw2
  have ST := Lib.hid (Tryz.Builder_String_any_k w.heap.size W1.heap.size (text t) W2 hw2.sb (by have := hw2.size; omega))
  have b2 := bV.trans k2.1
  clear WA k2 hw2 cE fE
  go_wp2_with fail
  refine ST.out.mono ?_
  rintro e W3 ⟨rfl, _, hB3, _⟩
  go_wp2
  go_ret
  exact ⟨rfl, b2.trans hB3⟩

set_option maxRecDepth 100000 in
set_option maxHeartbeats 4000000 in
theorem text_out (p : Option Addr) (n cap : Nat) (xs : List Nd) (hp : ¬ ∃ t, IsPat xs t) (w : World) (h : Nodes w p n xs) :
    Calls Tryz.prog 12 #[.slice p n cap] w fun e w' => e = .returned (.string ⟨#[]⟩) ∧ Below w.heap.size w w' := by
  have bA : Below w.heap.size w (w.alloc (.cells #[.slice p n cap] 22)) := (Below.refl _ w).alloc (Nat.le_refl _) _
  have HM := Lib.hid (may_n p n cap xs false ⟨fun h => absurd h (by decide), fun h => absurd h hp⟩ _ (h.below bA))
  clear hp
  go_enter Tryz.func12, Tryz.ntmps12
  go_wp2_with (go_at_call 6; refine HM.out.mono ?_; rintro e w1 ⟨rfl, hB1⟩)
  go_ret
  exact ⟨rfl, bA.trans (hB1.mono bA.size)⟩

end Go.Proofs.YthcgboebmhabeaaGreatDoor
