/- What Put, Get, Add, May say of one another. Of no program. -/
import Derived.Test.YtkdnnhjoeaoihaaTbH
namespace Go.Proofs.Ytkdnnhjoeaoihaa
open Go.RowKit Go.Shelf
set_option linter.unusedVariables false
set_option linter.unusedSimpArgs false

theorem mayB_all : ∀ (l : List Fl) (a : List UInt8), mayB a l = true → ∀ x ∈ l, Op.bytesLess a x.1.toList = true
  | [], _, _, _, h => by cases h
  | y :: l, a, h, x, hx => by
    simp only [mayB, Bool.and_eq_true] at h
    rcases List.mem_cons.1 hx with rfl | hx
    · exact h.1
    · exact bl_trans _ _ _ h.1 (mayB_all l _ h.2 x hx)

/-- A list parted at a name. -/
structure Sp (nm : ByteArray) (xs l1 mid l2 : List Fl) : Prop where
  e : xs = l1 ++ mid ++ l2
  m : mid = [] ∨ ∃ x, mid = [x] ∧ x.1.toList = nm.toList
  lo : ∀ x ∈ l1, Op.bytesLess x.1.toList nm.toList = true
  hi : ∀ x ∈ l2, Op.bytesLess nm.toList x.1.toList = true
theorem sp_of (nm : ByteArray) : ∀ (xs : List Fl) (a : List UInt8), mayB a xs = true → ∃ l1 mid l2, Sp nm xs l1 mid l2
  | [], _, _ => ⟨[], [], [], ⟨rfl, .inl rfl, fun _ h => by (cases h), fun _ h => by (cases h)⟩⟩
  | x :: l, a, h => by
    have h0 := h
    simp only [mayB, Bool.and_eq_true] at h
    have ht := bl_tri x.1.toList nm.toList
    cases hx : Op.bytesLess x.1.toList nm.toList
    · rw [hx] at ht
      have ht2 : (Op.bytesLess nm.toList x.1.toList || nm.toList == x.1.toList) = true := by cases hz : (Op.bytesLess nm.toList x.1.toList || nm.toList == x.1.toList) <;> simp_all
      cases hn : Op.bytesLess nm.toList x.1.toList
      · rw [hn] at ht2
        have he : nm.toList = x.1.toList := by simpa using ht2
        exact ⟨[], [x], l, ⟨rfl, .inr ⟨x, rfl, he.symm⟩, fun _ h => by (cases h), fun y hy => by rw [he]; exact mayB_all l _ h.2 y hy⟩⟩
      · refine ⟨[], [], x :: l, ⟨rfl, .inl rfl, fun _ h => by (cases h), fun y hy => ?_⟩⟩
        rcases List.mem_cons.1 hy with rfl | hy
        · exact hn
        · exact bl_trans _ _ _ hn (mayB_all l _ h.2 y hy)
    · obtain ⟨l1, mid, l2, s⟩ := sp_of nm l _ h.2
      refine ⟨x :: l1, mid, l2, ⟨by rw [s.e]; rfl, s.m, fun y hy => ?_, s.hi⟩⟩
      rcases List.mem_cons.1 hy with rfl | hy
      · exact hx
      · exact s.lo y hy
theorem isN_lt {nm : ByteArray} {x : Fl} (h : Op.bytesLess x.1.toList nm.toList = true) : isN nm x = false := by
  unfold isN
  rw [beq_eq_false_iff_ne]
  intro e
  rw [e, bl_irr] at h
  cases h
theorem isN_gt {nm : ByteArray} {x : Fl} (h : Op.bytesLess nm.toList x.1.toList = true) : isN nm x = false := by
  unfold isN
  rw [beq_eq_false_iff_ne]
  intro e
  rw [e, bl_irr] at h
  cases h
theorem notB_lt {nm : ByteArray} {x : Fl} (h : Op.bytesLess x.1.toList nm.toList = true) : notB nm x = false := by unfold notB; rw [h]; rfl
theorem notB_gt {nm : ByteArray} {x : Fl} (h : Op.bytesLess nm.toList x.1.toList = true) : notB nm x = true := by
  unfold notB
  rw [bl_tri, h]; rfl
theorem notB_eq {nm : ByteArray} {x : Fl} (h : x.1.toList = nm.toList) : notB nm x = true := by unfold notB; rw [h, bl_irr]; rfl

theorem Sp.place {nm : ByteArray} {xs l1 mid l2 : List Fl} (s : Sp nm xs l1 mid l2) : xs.findIdx (notB nm) = l1.length := by
  have h1 : l1.findIdx (notB nm) = l1.length := findIdx_none _ _ (List.all_eq_true.2 fun x hx => by rw [notB_lt (s.lo x hx)]; rfl)
  rw [s.e, List.append_assoc, List.findIdx_append, h1, if_neg (by omega)]
  rcases s.m with rfl | ⟨x, rfl, hx⟩
  · cases l2 with
    | nil => simp
    | cons y l => simp [List.findIdx_cons, notB_gt (s.hi y (by simp))]
  · simp [List.findIdx_cons, notB_eq hx]
theorem Sp.at {nm : ByteArray} {xs l1 mid l2 : List Fl} (s : Sp nm xs l1 mid l2) : atN xs l1.length nm = !mid.isEmpty := by
  unfold atN
  rw [s.e]
  rcases s.m with rfl | ⟨x, rfl, hx⟩
  · cases l2 with
    | nil => simp
    | cons y l =>
      have := isN_gt (s.hi y (by simp))
      simp [this]
  · simp [isN, hx]
theorem Sp.put {nm : ByteArray} {xs l1 mid l2 : List Fl} (s : Sp nm xs l1 mid l2) (hn : ¬ nm.toList = []) (dt : ByteArray) : putF xs nm dt = l1 ++ [(nm, dt)] ++ l2 := by
  unfold putF
  rw [if_neg hn, s.place, s.at]
  have e := s.e
  rcases s.m with rfl | ⟨x, rfl, hx⟩
  · subst e; simp
  · subst e
    have : (l1 ++ [x] ++ l2).drop (l1.length + 1) = l2 := by
      rw [show l1.length + 1 = (l1 ++ [x]).length by simp, List.drop_left]
    simp [this]
theorem fold_lo (nm dt : ByteArray) : ∀ (l : List Fl) (st : List Fl × Bool), (∀ x ∈ l, Op.bytesLess x.1.toList nm.toList = true) → l.foldl (rstep nm dt) st = (st.1 ++ l, st.2)
  | [], st, _ => by simp
  | x :: l, st, h => by
    have hx := h x (by simp)
    rw [List.foldl_cons, fold_lo nm dt l _ (fun y hy => h y (by simp [hy]))]
    unfold rstep
    rw [notB_lt hx, isN_lt hx]
    simp
theorem fold_hi (nm dt : ByteArray) : ∀ (l : List Fl) (out : List Fl), (∀ x ∈ l, Op.bytesLess nm.toList x.1.toList = true) → l.foldl (rstep nm dt) (out, true) = (out ++ l, true)
  | [], out, _ => by simp
  | x :: l, out, h => by
    have hx := h x (by simp)
    have e : rstep nm dt (out, true) x = (out ++ [x], true) := by unfold rstep; rw [isN_gt hx]; simp
    rw [List.foldl_cons, e, fold_hi nm dt l _ (fun y hy => h y (by simp [hy]))]
    simp
theorem Sp.rput {nm : ByteArray} {xs l1 mid l2 : List Fl} (s : Sp nm xs l1 mid l2) (hn : ¬ nm.toList = []) (dt : ByteArray) : rputF xs nm dt = l1 ++ [(nm, dt)] ++ l2 := by
  unfold rputF
  rw [if_neg hn]
  have e := s.e
  have h1 := fold_lo nm dt l1 ([], false) s.lo
  rcases s.m with rfl | ⟨x, rfl, hx⟩
  · cases l2 with
    | nil =>
      subst e
      simp only [List.append_nil]
      rw [h1]; simp
    | cons y l =>
      have hy := s.hi y (by simp)
      have e1 : rstep nm dt ([] ++ l1, false) y = (l1 ++ [(nm, dt)] ++ [y], true) := by unfold rstep; rw [notB_gt hy, isN_gt hy]; simp
      have h2 := fold_hi nm dt l (l1 ++ [(nm, dt)] ++ [y]) (fun z hz => s.hi z (by simp [hz]))
      subst e
      rw [List.append_nil, List.foldl_append, h1, List.foldl_cons, e1, h2]
      simp
  · have e1 : rstep nm dt ([] ++ l1, false) x = (l1 ++ [(nm, dt)], true) := by
      unfold rstep
      rw [notB_eq hx, show isN nm x = true by unfold isN; rw [hx]; simp]; simp
    have h2 := fold_hi nm dt l2 (l1 ++ [(nm, dt)]) s.hi
    subst e
    rw [List.append_assoc, List.foldl_append, h1, List.singleton_append, List.foldl_cons, e1, h2]
    simp
theorem Sp.next {nm : ByteArray} {xs l1 mid l2 : List Fl} (s : Sp nm xs l1 mid l2) (dt : ByteArray) : Sp nm (l1 ++ [(nm, dt)] ++ l2) l1 [(nm, dt)] l2 := ⟨rfl, .inr ⟨_, rfl, rfl⟩, s.lo, s.hi⟩

theorem sp_may (nm dt : ByteArray) (mid l2 : List Fl) (hm : mid = [] ∨ ∃ x, mid = [x] ∧ x.1.toList = nm.toList) (hh : ∀ x ∈ l2, Op.bytesLess nm.toList x.1.toList = true) :
    ∀ (l1 : List Fl) (a : List UInt8), (∀ x ∈ l1, Op.bytesLess x.1.toList nm.toList = true) → Op.bytesLess a nm.toList = true → mayB a (l1 ++ mid ++ l2) = true → mayB a (l1 ++ [(nm, dt)] ++ l2) = true
  | [], a, _, ha, h => by
    rcases hm with rfl | ⟨x, rfl, hx⟩
    · simp only [List.nil_append, List.append_nil, List.cons_append, mayB, Bool.and_eq_true] at h ⊢
      refine ⟨ha, ?_⟩
      cases l2 with
      | nil => rfl
      | cons y l =>
        simp only [mayB, Bool.and_eq_true] at h ⊢
        exact ⟨hh y (by simp), h.2⟩
    · simp only [List.nil_append, List.cons_append, mayB, Bool.and_eq_true] at h ⊢
      rw [hx] at h
      exact ⟨ha, h.2⟩
  | y :: l, a, hl, ha, h => by
    simp only [List.cons_append, mayB, Bool.and_eq_true] at h ⊢
    exact ⟨h.1, sp_may nm dt mid l2 hm hh l _ (fun x hx => hl x (by simp [hx])) (hl y (by simp)) h.2⟩
/-- What is put in a table is a table. -/
theorem may_put {xs : List Fl} (h : mayB [] xs = true) (nm dt : ByteArray) : mayB [] (putF xs nm dt) = true := by
  by_cases hn : nm.toList = []
  · unfold putF; rw [if_pos hn]; exact h
  · obtain ⟨l1, mid, l2, s⟩ := sp_of nm xs [] h
    rw [s.put hn]
    refine sp_may nm dt mid l2 s.m s.hi l1 [] s.lo ?_ (by rw [← s.e]; exact h)
    rw [bl_from]; simpa using hn
/-- The program and the reference put alike. -/
theorem put_alike {xs : List Fl} (h : mayB [] xs = true) (nm dt : ByteArray) : putF xs nm dt = rputF xs nm dt := by
  by_cases hn : nm.toList = []
  · unfold putF rputF; rw [if_pos hn, if_pos hn]
  · obtain ⟨l1, mid, l2, s⟩ := sp_of nm xs [] h
    rw [s.put hn, s.rput hn]
theorem add_alike {xs : List Fl} (h : mayB [] xs = true) (nm dt : ByteArray) : addF xs nm dt = raddF xs nm dt := put_alike h nm _

theorem find_skip {P : Fl → Bool} {l1 l2 : List Fl} (h : ∀ x ∈ l1, P x = false) : (l1 ++ l2).find? P = l2.find? P := by
  rw [List.find?_append, List.find?_eq_none.2 (fun x hx => by rw [h x hx]; simp)]
  rfl
theorem Sp.get {nm : ByteArray} {xs l1 mid l2 : List Fl} (s : Sp nm xs l1 mid l2) (dt : ByteArray) : getF (l1 ++ [(nm, dt)] ++ l2) nm = (dt, true) := by
  unfold getF
  rw [List.append_assoc, find_skip (fun x hx => isN_lt (s.lo x hx))]
  simp [isN]
theorem Sp.other {nm ot : ByteArray} {xs l1 mid l2 : List Fl} (s : Sp nm xs l1 mid l2) (dt : ByteArray) (ho : ¬ nm.toList = ot.toList) : getF (l1 ++ [(nm, dt)] ++ l2) ot = getF xs ot := by
  unfold getF
  rw [s.e]
  have h1 : (isN ot (nm, dt)) = false := by unfold isN; simpa using ho
  have e1 : (l1 ++ [(nm, dt)] ++ l2).find? (isN ot) = (l1 ++ l2).find? (isN ot) := by
    rw [List.append_assoc, List.find?_append, List.find?_append, List.find?_append]; simp [h1]
  have e2 : (l1 ++ mid ++ l2).find? (isN ot) = (l1 ++ l2).find? (isN ot) := by
    rcases s.m with rfl | ⟨x, rfl, hx⟩
    · simp
    · have h2 : isN ot x = false := by unfold isN; rw [hx]; simpa using ho
      rw [List.append_assoc, List.find?_append, List.find?_append, List.find?_append]; simp [h2]
  rw [e1, e2]
theorem get_put {xs : List Fl} (h : mayB [] xs = true) {nm : ByteArray} (dt : ByteArray) (hn : ¬ nm.toList = []) : getF (putF xs nm dt) nm = (dt, true) := by
  obtain ⟨l1, mid, l2, s⟩ := sp_of nm xs [] h
  rw [s.put hn]; exact s.get dt
theorem get_other {xs : List Fl} (h : mayB [] xs = true) {nm ot : ByteArray} (dt : ByteArray) (hn : ¬ nm.toList = []) (ho : ¬ nm.toList = ot.toList) : getF (putF xs nm dt) ot = getF xs ot := by
  obtain ⟨l1, mid, l2, s⟩ := sp_of nm xs [] h
  rw [s.put hn]; exact s.other dt ho
theorem put_again {xs : List Fl} (h : mayB [] xs = true) (nm a b : ByteArray) : putF (putF xs nm a) nm b = putF xs nm b := by
  by_cases hn : nm.toList = []
  · unfold putF; simp [hn]
  · obtain ⟨l1, mid, l2, s⟩ := sp_of nm xs [] h
    rw [s.put hn, s.put hn, (s.next a).put hn]
theorem add_again {xs : List Fl} (h : mayB [] xs = true) (nm a b : ByteArray) : addF (putF xs nm a) nm b = putF xs nm (a ++ b) := by
  unfold addF
  by_cases hn : nm.toList = []
  · unfold putF; simp [hn]
  · rw [get_put h a hn, put_again h]

theorem put_mem {xs : List Fl} {nm dt : ByteArray} {x : Fl} (h : x ∈ putF xs nm dt) : x ∈ xs ∨ x = (nm, dt) := by
  unfold putF at h
  split at h
  · exact .inl h
  · simp only [List.mem_append, List.mem_singleton] at h
    rcases h with (h | h) | h
    · exact .inl (List.mem_of_mem_take h)
    · exact .inr h
    · exact .inl (List.mem_of_mem_drop h)
theorem put_len (xs : List Fl) (nm dt : ByteArray) : (putF xs nm dt).length ≤ xs.length + 1 := by
  unfold putF
  split
  · omega
  · simp only [List.length_append, List.length_take, List.length_drop, List.length_cons, List.length_nil]
    split <;> omega

end Go.Proofs.Ytkdnnhjoeaoihaa
