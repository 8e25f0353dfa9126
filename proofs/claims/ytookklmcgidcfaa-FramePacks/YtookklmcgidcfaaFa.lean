/- Plain arithmetic of frames: the bytes of words, words of a beginning, which texts are frames (no Go in sight). -/
import Derived.Test.YtookklmcgidcfaaMs
namespace Go.Proofs.Ytookklmcgidcfaa
/-- The bytes of words, eight a word. -/
def wordsT (l : List Nat) : List UInt8 := bytesL (fun j => l[j]?.getD 0) (8 * l.length)
theorem wordsT_length (l : List Nat) : (wordsT l).length = 8 * l.length := bytesL_length _ _
theorem bytesL_word (v : Nat → Nat) (k : Nat) : bytesL v (8 * (k + 1)) = bytesL v (8 * k) ++ bytesL (fun _ => v k) 8 := by
  apply List.ext_getElem?
  intro i
  by_cases h1 : i < 8 * k
  · rw [bytesL_get _ _ _ (by omega), List.getElem?_append_left (by rw [bytesL_length]; exact h1), bytesL_get _ _ _ h1]
  · rw [List.getElem?_append_right (by rw [bytesL_length]; omega), bytesL_length]
    by_cases h2 : i < 8 * (k + 1)
    · rw [bytesL_get _ _ _ h2, bytesL_get _ _ _ (by omega)]
      unfold byteAt
      rw [show i / 8 = k by omega, show (i - 8 * k) % 8 = i % 8 by omega]
    · rw [List.getElem?_eq_none (by rw [bytesL_length]; omega), List.getElem?_eq_none (by rw [bytesL_length]; omega)]
theorem wordsT_word (l : List Nat) (hv : ∀ j, j < l.length → l[j]?.getD 0 < 18446744073709551616) (j : Nat) (hj : j < l.length) : wordAt (wordsT l) j = l[j]?.getD 0 :=
  (words_of_bytes (fun j => l[j]?.getD 0) (8 * l.length) l.length hv).2 (fun i h1 h2 => by omega) j hj
theorem wordAt_take (t : List UInt8) (m j : Nat) (h : 8 * j + 8 ≤ m) : wordAt (t.take m) j = wordAt t j := by
  unfold wordAt
  rw [List.drop_take, List.take_take, Nat.min_eq_left (by omega)]
theorem wordAt_append (t b : List UInt8) (j : Nat) (h : 8 * j + 8 ≤ t.length) : wordAt (t ++ b) j = wordAt t j := by
  unfold wordAt
  rw [List.drop_append_of_le_length (by omega), List.take_append_of_le_length (by rw [List.length_drop]; omega)]
/-- A text that is some page's frame. -/
structure FrOK (t : List UInt8) : Prop where
  long : 32 ≤ t.length
  whole : t.length % 8 = 0
  opens : Opens t
  page : wordAt t 0 < 64
  count : wordAt t 1 = t.length / 8 - 3
  most : t.length / 8 - 3 ≤ 512
/-- A page's frame. -/
def frT (p : Nat) (l : List Nat) : List UInt8 := sealL (wordsT (p :: l.length :: l))
theorem frT_length (p : Nat) (l : List Nat) : (frT p l).length = 8 * l.length + 24 := by
  rw [frT, sealL_length, wordsT_length]; simp only [List.length_cons]; omega
theorem frT_word (p : Nat) (l : List Nat) (hp : p < 18446744073709551616) (hl : l.length < 18446744073709551616) (hv : ∀ j, j < l.length → l[j]?.getD 0 < 18446744073709551616) (j : Nat) (hj : j < l.length + 2) : wordAt (frT p l) j = (p :: l.length :: l)[j]?.getD 0 := by
  rw [frT, sealL, wordAt_append _ _ _ (by rw [wordsT_length]; simp only [List.length_cons]; omega)]
  refine wordsT_word _ (fun i hi => ?_) j (by simp only [List.length_cons]; omega)
  match i, hi with
  | 0, _ => exact hp
  | 1, _ => exact hl
  | i + 2, hi => exact hv i (by simp only [List.length_cons] at hi; omega)
theorem frT_ok (p : Nat) (l : List Nat) (hp : p < 64) (h1 : 1 ≤ l.length) (h2 : l.length ≤ 512) (hv : ∀ j, j < l.length → l[j]?.getD 0 < 18446744073709551616) : FrOK (frT p l) := by
  have hl := frT_length p l
  refine ⟨by omega, by omega, seal_opens _, ?_, ?_, by omega⟩
  · rw [frT_word p l (by omega) (by omega) hv 0 (by omega)]; exact hp
  · rw [frT_word p l (by omega) (by omega) hv 1 (by omega)]
    show l.length = _
    omega
/-- A beginning of a frame is none. -/
theorem frOK_take {t : List UInt8} (h : FrOK t) (a : Nat) (ha : a < t.length) : ¬ FrOK (t.take a) := by
  intro k
  have l1 : (t.take a).length = a := by rw [List.length_take]; omega
  have h1 := k.long
  have h2 := k.whole
  have h3 := k.count
  rw [l1] at h1 h2 h3
  rw [wordAt_take _ _ _ (by omega), h.count] at h3
  have := h.whole
  have := h.long
  omega
/-- Nor is a frame with something behind it. -/
theorem frOK_append {t : List UInt8} (h : FrOK t) (b : List UInt8) (hb : b ≠ []) : ¬ FrOK (t ++ b) := by
  intro k
  have l1 : 0 < b.length := List.length_pos_iff.2 hb
  have l2 : (t ++ b).length = t.length + b.length := List.length_append
  have h1 := h.long
  have h2 := h.whole
  have h3 := k.count
  have h4 := k.whole
  rw [wordAt_append _ _ _ (by omega), h.count] at h3
  omega
/-- The first n values of a function, as a list. -/
def listN (v : Nat → Nat) (n : Nat) : List Nat := (List.range n).map v
theorem listN_length (v : Nat → Nat) (n : Nat) : (listN v n).length = n := by simp [listN]
theorem listN_get (v : Nat → Nat) (n j : Nat) (h : j < n) : (listN v n)[j]?.getD 0 = v j := by simp [listN, h]
end Go.Proofs.Ytookklmcgidcfaa
