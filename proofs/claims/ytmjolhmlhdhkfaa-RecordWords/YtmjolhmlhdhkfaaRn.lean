/- record.Of at a record's words with something behind, and at fewer. -/
import Derived.Test.YtmjolhmlhdhkfaaRf
namespace Go.Proofs.Ytmjolhmlhdhkfaa
open Go.RowKit
theorem at_zero (P L : Nat) (A B C : List Nat) : ([P, 0, L] ++ A ++ B ++ C)[0]?.getD 0 = P := by simp
theorem at_one (P L : Nat) (A B C : List Nat) : ([P, 0, L] ++ A ++ B ++ C)[1]?.getD 0 = 0 := by simp
theorem at_two (P L : Nat) (A B C : List Nat) : ([P, 0, L] ++ A ++ B ++ C)[2]?.getD 0 = L := by simp
theorem rec_zero (p : Nat) (t i : Bool) (k s : ByteArray) (bs : List Nat) : (recL p t i k s ++ bs)[0]?.getD 0 = packN p t i := by
  unfold recL
  exact at_zero _ _ _ _ _
theorem rec_one (p : Nat) (t i : Bool) (k s : ByteArray) (bs : List Nat) : (recL p t i k s ++ bs)[1]?.getD 0 = 0 := by
  unfold recL
  exact at_one _ _ _ _ _
theorem rec_two (p : Nat) (t i : Bool) (k s : ByteArray) (bs : List Nat) : (recL p t i k s ++ bs)[2]?.getD 0 = lenN k.size s.size := by
  unfold recL
  exact at_two _ _ _ _ _
theorem rec_key (p : Nat) (t i : Bool) (k s : ByteArray) (bs : List Nat) (j : Nat) (hj : j < wordsFor k.size) : (recL p t i k s ++ bs)[3 + j]?.getD 0 = wordAt k.data.toList j := by
  unfold recL
  rw [List.append_assoc, List.append_assoc, List.getElem?_append_right (by simp), List.getElem?_append_left (by rw [wordsL_length]; simp; omega)]
  simp only [List.length_cons, List.length_nil, Nat.add_sub_cancel_left]
  rw [wordsL_get _ _ _ hj]; rfl
theorem rec_val (p : Nat) (t i : Bool) (k s : ByteArray) (bs : List Nat) (j : Nat) (hj : j < wordsFor s.size) : (recL p t i k s ++ bs)[3 + wordsFor k.size + j]?.getD 0 = wordAt s.data.toList j := by
  unfold recL
  rw [List.append_assoc, List.getElem?_append_right (by rw [List.length_append, wordsL_length]; simp), List.length_append, wordsL_length, List.getElem?_append_left (by rw [wordsL_length]; simp; omega)]
  simp only [List.length_cons, List.length_nil, Nat.add_sub_cancel_left]
  rw [wordsL_get _ _ _ hj]; rfl
theorem bytesL_congr (f g : Nat → Nat) (K : Nat) (h : ∀ j, j < wordsFor K → f j = g j) : bytesL f K = bytesL g K := by
  unfold bytesL
  apply List.map_congr_left
  intro i hi
  rw [List.mem_range] at hi
  unfold byteAt
  rw [h (i / 8) (by unfold wordsFor; omega)]
theorem empty_congr (f g : Nat → Nat) (n N : Nat) (h : ∀ j, j < N → f j = g j) (he : Empty g n N) : Empty f n N := by
  intro i h1 h2
  have := he i h1 h2
  unfold byteAt at *
  rw [h (i / 8) (by omega)]
  exact this
theorem str_words (s : ByteArray) (f : Nat → Nat) (h : ∀ j, j < wordsFor s.size → f j = wordAt s.data.toList j) : (⟨(bytesL f s.size).toArray⟩ : ByteArray) = s ∧ Empty f s.size (wordsFor s.size) := by
  have hl : s.data.toList.length = s.size := by simp
  constructor
  · rw [bytesL_congr f _ _ h, ← hl, bytes_of_words]
  · have := empty_words s.data.toList (wordsFor s.size)
    rw [hl] at this
    exact empty_congr _ _ _ _ h this
theorem of_words (p : Nat) (t i : Bool) (k s : ByteArray) (hE : rightE p t k.size s.size = 0) (bs : List Nat) (b off n cap : Nat) (w : World) (hn : n = (recL p t i k s ++ bs).length) (hm : n ≤ 1000000) (hcap : n ≤ cap) (hcm : cap ≤ 9223372036854775807)
    (hs : Sl .u64 w (some ⟨b, off, none⟩) n (fun j => ((recL p t i k s ++ bs)[j]?.getD 0 : Nat))) :
    Calls Try.prog 14 #[.slice (some ⟨b, off, none⟩) n cap] w fun e w' => e = .returned (.tuple #[recV p t i k s, .int .i64 (sizeN k.size s.size : Int), .int .i64 0]) ∧ Below w.heap.size w w' := by
  obtain ⟨hp, h0, hk, hv, _⟩ := right_parts hE
  obtain ⟨e0, e1, e2, e3⟩ := told_of k.size s.size hk hv
  have hl : sizeN k.size s.size ≤ n := by rw [hn, List.length_append, recL_length]; omega
  have h3 : 3 ≤ n := Nat.le_trans (by unfold sizeN; omega) hl
  have hc : w.cell? ⟨b, off + 2, none⟩ = some (.int .u64 (lenN k.size s.size : Int)) := by
    obtain ⟨b', off', a1, a2⟩ := hs 2 (by omega)
    cases a1
    rw [a2]; simp only [rec_two]
  obtain ⟨k1, k2⟩ := str_words k (shV (fun j => (recL p t i k s ++ bs)[j]?.getD 0) 3) (fun j hj => rec_key p t i k s bs j hj)
  obtain ⟨v1, v2⟩ := str_words s (shV (fun j => (recL p t i k s ++ bs)[j]?.getD 0) (3 + wordsFor k.size)) (fun j hj => rec_val p t i k s bs j hj)
  have z0 : (recL p t i k s ++ bs)[0]?.getD 0 = packN p t i := rec_zero p t i k s bs
  have z1 : (recL p t i k s ++ bs)[1]?.getD 0 = 0 := rec_one p t i k s bs
  have R := of_run b off n cap (lenN k.size s.size) w h3 hc e3 e0 (fun j => (recL p t i k s ++ bs)[j]?.getD 0) hs
    (by rw [e1, e2]; exact ⟨by simp only [z0]; exact packN_lt p t i hp, by simp only [z1]; omega, k2, v2⟩) (by rw [e1, e2]; exact hl) hm hcap hcm p t i k s
    (by simp only [z0]; exact prev_of p t i hp) (by simp only [z0]; exact tomb_of p t i hp) (by simp only [z0]; exact invalid_of p t i hp) (by rw [e1]; exact k1) (by rw [e1, e2]; exact v1) e1.symm e2.symm hE
  rw [e1, e2] at R
  exact R
theorem of_prefix (p : Nat) (t i : Bool) (k s : ByteArray) (hE : rightE p t k.size s.size = 0) (g n cap : Nat) (w : World) (hn : n < sizeN k.size s.size)
    (hs : Sl .u64 w (some ⟨g, 0, none⟩) (sizeN k.size s.size) (fun j => ((recL p t i k s)[j]?.getD 0 : Nat))) :
    Calls Try.prog 14 #[.slice (some ⟨g, 0, none⟩) n cap] w fun e w' => e = noRec 3 ∧ Below w.heap.size w w' := by
  obtain ⟨hp, h0, hk, hv, _⟩ := right_parts hE
  obtain ⟨e0, e1, e2, e3⟩ := told_of k.size s.size hk hv
  by_cases h3 : n < 3
  · exact of_few _ n cap w h3
  · have hc : w.cell? ⟨g, 0 + 2, none⟩ = some (.int .u64 (lenN k.size s.size : Int)) := by
      obtain ⟨b', off', a1, a2⟩ := hs 2 (by omega)
      cases a1
      have z2 := rec_two p t i k s []
      rw [List.append_nil] at z2
      rw [a2]; simp only [z2]
    have hl : sizeN k.size s.size ≤ 27 := by unfold sizeN wordsFor; omega
    exact of_short g 0 n cap (lenN k.size s.size) w (by omega) hc e3 e0 (by rw [e1, e2]; exact hn) (by omega)
end Go.Proofs.Ytmjolhmlhdhkfaa
