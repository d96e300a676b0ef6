/- The laws' shown. -/
import Derived.Test.YtkdnnhjoeaoihaaTbO
import Derived.Test.YtkdnnhjoeaoihaaTbI
namespace Go.Proofs.Ytkdnnhjoeaoihaa
open Go.RowKit Go.Shelf
set_option linter.unusedVariables false
set_option linter.unusedSimpArgs false

def sA : ByteArray := ⟨#[97]⟩
def sB : ByteArray := ⟨#[98]⟩
def s1 : ByteArray := ⟨#[49]⟩
def s2 : ByteArray := ⟨#[50]⟩
def s3 : ByteArray := ⟨#[51]⟩
theorem tlA : sA.toList = [97] := by rw [Lib.toList_data]; rfl
theorem tlB : sB.toList = [98] := by rw [Lib.toList_data]; rfl
theorem shown1 : putF [] sB s2 = [(sB, s2)] := by
  unfold putF; rw [tlB]; simp
theorem shown2 : putF [(sB, s2)] sA s1 = [(sA, s1), (sB, s2)] := by
  have e : notB sA (sB, s2) = true := by unfold notB; rw [tlA, tlB]; decide
  have e2 : isN sA (sB, s2) = false := by unfold isN; rw [tlA, tlB]; decide
  unfold putF atN; rw [tlA]; simp [List.findIdx_cons, e, e2]
theorem may2 : mayB [] [(sA, s1), (sB, s2)] = true := by
  simp only [mayB, tlA, tlB]; decide
theorem shown3 : getF (addF [(sA, s1), (sB, s2)] sB s3) sB = (s2 ++ s3, true) := by
  unfold addF
  rw [get_put may2 _ (by rw [tlB]; decide)]
  have e2 : isN sB (sA, s1) = false := by unfold isN; rw [tlA, tlB]; decide
  have e3 : isN sB (sB, s2) = true := by unfold isN; rw [tlB]; decide
  unfold getF
  simp [e2, e3]
theorem shown4 : spl [97, 10, 98] = [(sA, true), (sB, false)] := by
  rw [show ([97, 10, 98] : List UInt8) = [97] ++ 10 :: [98] from rfl, spl_end _ _ (by decide), spl_last _ (by decide)]
  rfl
theorem tl23 : (s2 ++ s3).toList = [50, 51] := by rw [Lib.toList_data]; rfl

set_option maxRecDepth 100000 in
set_option maxHeartbeats 8000000 in
theorem shown_c (w : World) : Calls Try.prog 10 #[] w fun e w' => e = .returned (.bool true) ∧ Below w.heap.size w w' := by
  have H1 := Lib.hid (fun w => put_c none 0 0 [] sB s2 w (by omega) (Files.none_ w))
  have H2 := Lib.hid (fun p cap w h => put_c p 1 cap [(sB, s2)] sA s1 w (by omega) h)
  have H3 := Lib.hid (fun p cap w h => add_c p 2 cap [(sA, s1), (sB, s2)] sB s3 w (by omega) (by intro x hx; simp at hx; rcases hx with rfl | rfl <;> decide) (by decide) h)
  have H4 := Lib.hid (fun p n cap w h => get_c p n cap (addF [(sA, s1), (sB, s2)] sB s3) sB w h)
  have H5 := Lib.hid (fun w => split_c [97, 10, 98] (by decide) w)
  rw [shown1] at H1
  rw [shown2] at H2
  rw [shown3] at H4
  rw [shown4] at H5
  have TA := Lib.hid tlA
  have T23 := Lib.hid tl23
  go_enter Try.func10, Try.ntmps10
  go_wp2_with fail
  refine (H1.out _).mono ?_
  rintro e w1 ⟨⟨v1, rfl, hown1⟩, hB1⟩
  obtain ⟨p1, cap1, rfl, hF1, _⟩ := files_of_own hown1
  go_wp2_with fail
  refine (H2.out _ _ _ hF1).mono ?_
  rintro e w2 ⟨⟨v2, rfl, hown2⟩, hB2⟩
  obtain ⟨p2, cap2, rfl, hF2, _⟩ := files_of_own hown2
  have b2 := hB1.trans (hB2.mono hB1.size)
  go_wp2_with fail
  refine (H3.out _ _ _ hF2).mono ?_
  rintro e w3 ⟨⟨v3, rfl, hown3⟩, hB3⟩
  obtain ⟨p3, cap3, rfl, hF3, _⟩ := files_of_own hown3
  have b3 := b2.trans (hB3.mono b2.size)
  go_wp2_with fail
  refine (H4.out _ _ _ _ hF3).mono ?_
  rintro e w4 ⟨rfl, hB4⟩
  have b4 := b3.trans (hB4.mono b3.size)
  go_wp2_with fail
  refine (H5.out _).mono ?_
  rintro e w5 ⟨⟨q, n5, cap5, rfl, hL⟩, hB5⟩
  have b5 := b4.trans (hB5.mono b4.size)
  obtain rfl : 2 = n5 := hL.len
  obtain ⟨bb, oo, rfl⟩ := hF2.ptr (by decide)
  obtain ⟨bl, ol, rfl⟩ := hL.ptr (by decide)
  have hF5 := ((hF2.beside hB3).beside hB4).beside hB5
  obtain ⟨c0, c1⟩ := hF5.cell bb oo rfl 0 _ rfl
  obtain ⟨d0, d1⟩ := hL.cell bl ol rfl 0 _ rfl
  obtain ⟨d2, d3⟩ := hL.cell bl ol rfl 1 _ rfl
  have g0 : w5.cell? ⟨bb, oo, none⟩ = some (.string sA) := c0
  have k0 : w5.cell? ⟨bl, ol + 1, none⟩ = some (.bool true) := d1
  have k1 : w5.cell? ⟨bl, ol + 3, none⟩ = some (.bool false) := d3
  have k2 : w5.cell? ⟨bl, ol + 2 + 1, none⟩ = some (.bool false) := d3
  have q1 : (sA.toList == [97]) = true := by rw [TA.out]; rfl
  have q2 : ((s2 ++ s3).toList == [50, 51]) = true := by rw [T23.out]; rfl
  clear c0 c1 d0 d1 d2 d3
  clear H1 H2 H3 H4 H5 hF1 hF2 hF3 hF5 hL hown1 hown2 hown3
  go_wp2
  go_ret
  exact ⟨rfl, b5⟩

end Go.Proofs.Ytkdnnhjoeaoihaa
