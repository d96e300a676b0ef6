/- Text. -/
import Derived.Test.YtjnedhjpgefbpaaGreatDoorZRxTb
import Derived.Laws.EntriesVeiled
namespace Go.Proofs.YtjnedhjpgefbpaaGreatDoor
open Go.RowKit
set_option linter.unusedVariables false
set_option linter.unusedSimpArgs false

theorem cnt_of {m M : Int} (h : isCnt m M = true) : 0 ≤ m ∧ m ≤ 255 ∧ -1 ≤ M ∧ M ≤ 255 := by
  unfold isCnt at h
  split at h
  · cases h
  · have := of_decide_eq_true h
    omega
theorem text_len : ∀ t : T, t.Ok → (text t).length ≤ 600 * t.size
  | .leaf x, h => by
    obtain ⟨hn, k⟩ := h
    show (leafText x).length ≤ 600 * 1
    rcases k with k | k | k | k | k
    · simp [leafText, k]
    · have h1 := hexl_len (bytesOf x.set).data.toList
      have h2 : (bytesOf x.set).data.toList.length = (bytesOf x.set).size := by simp
      have h3 := bytesOf_size x.set
      have h4 := cnt_le x.set 256
      simp [leafText, k]; omega
    · simp [leafText, k]
    · simp [leafText, k]
    · have h0 := num_of (isNd_ref hn k).1
      have h1 := Lib.itoa_length_le x.n (by omega) (by omega)
      simp [leafText, k]; omega
  | .two k a b, h => by
    have h1 := text_len a h.2.1
    have h2 := text_len b h.2.2
    simp only [text, T.size, List.length_cons, List.length_append]; omega
  | .times m M t, h => by
    have h0 := cnt_of h.1
    have h1 := Lib.itoa_length_le m (by omega) (by omega)
    have h2 := Lib.itoa_length_le M (by omega) (by omega)
    have h3 := text_len t h.2
    simp only [text, T.size, List.length_cons, List.length_append]; omega
  | .group n t, h => by
    have h3 := text_len t h.2
    simp only [text, T.size, List.length_cons, List.length_append, List.length_nil]; omega

end Go.Proofs.YtjnedhjpgefbpaaGreatDoor
