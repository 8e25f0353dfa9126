/- Plain arithmetic of bytes in words: the bytes of words, and words by their bytes (no Go in sight). -/
import Derived.Test.YtmpnbaiolmkhlaaMe
namespace Go.Proofs.Ytmpnbaiolmkhlaa
set_option maxRecDepth 20000

/-- Byte i of the words v 0, v 1, .. -/
def byteAt (v : Nat → Nat) (i : Nat) : Nat := v (i / 8) / 2 ^ (i % 8 * 8) % 256
theorem byteAt_lt (v : Nat → Nat) (i : Nat) : byteAt v i < 256 := Nat.mod_lt _ (by decide)
theorem leN_byte (l : List UInt8) (r : Nat) : leN l / 256 ^ r % 256 = (l[r]?.map (·.toNat)).getD 0 := by
  induction l generalizing r with
  | nil => simp [leN]
  | cons b l ih =>
    have hb := b.toNat_lt
    cases r with
    | zero => simp [leN]
    | succ r =>
      rw [Nat.pow_succ, Nat.mul_comm (256 ^ r), ← Nat.div_div_eq_div_mul, leN, show (b.toNat + 256 * leN l) / 256 = leN l by omega, ih]
      simp
theorem byteAt_words (bs : List UInt8) (i : Nat) : byteAt (wordAt bs) i = (bs[i]?.map (·.toNat)).getD 0 := by
  unfold byteAt wordAt
  rw [show 2 ^ (i % 8 * 8) = 256 ^ (i % 8) by rw [pow256, Nat.mul_comm], leN_byte, List.getElem?_take, if_pos (Nat.mod_lt _ (by decide)), List.getElem?_drop, show 8 * (i / 8) + i % 8 = i by omega]
theorem word_ext (x y : Nat) (hx : x < 18446744073709551616) (hy : y < 18446744073709551616) (h : ∀ r, r < 8 → x / 2 ^ (r * 8) % 256 = y / 2 ^ (r * 8) % 256) : x = y := by
  apply Nat.eq_of_testBit_eq
  intro i
  by_cases hi : i < 64
  · have h1 := congrArg (fun n => Nat.testBit n (i % 8)) (h (i / 8) (by omega))
    simp only [show (256 : Nat) = 2 ^ 8 from rfl, Nat.testBit_mod_two_pow, Nat.testBit_div_two_pow, show i % 8 < 8 by omega, decide_true, Bool.true_and, show i % 8 + i / 8 * 8 = i by omega] at h1
    exact h1
  · rw [Nat.testBit_lt_two_pow (Nat.lt_of_lt_of_le (by rw [pow64]; exact hx) (Nat.pow_le_pow_right (by decide) (by omega))),
      Nat.testBit_lt_two_pow (Nat.lt_of_lt_of_le (by rw [pow64]; exact hy) (Nat.pow_le_pow_right (by decide) (by omega)))]
theorem words_ext (v u : Nat → Nat) (n j : Nat) (hj : j < n) (hv : v j < 18446744073709551616) (hu : u j < 18446744073709551616) (h : ∀ i, i < 8 * n → byteAt v i = byteAt u i) : v j = u j := by
  refine word_ext _ _ hv hu fun r hr => ?_
  have := h (8 * j + r) (by omega)
  unfold byteAt at this
  rw [show (8 * j + r) / 8 = j by omega, show (8 * j + r) % 8 = r by omega] at this
  exact this
/-- The first n bytes of words. -/
def bytesL (v : Nat → Nat) (n : Nat) : List UInt8 := (List.range n).map fun i => UInt8.ofNat (byteAt v i)
theorem bytesL_length (v : Nat → Nat) (n : Nat) : (bytesL v n).length = n := by simp [bytesL]
theorem bytesL_get (v : Nat → Nat) (n i : Nat) (h : i < n) : (bytesL v n)[i]? = some (UInt8.ofNat (byteAt v i)) := by simp [bytesL, h]
theorem bytesL_succ (v : Nat → Nat) (n : Nat) : bytesL v (n + 1) = bytesL v n ++ [UInt8.ofNat (byteAt v n)] := by simp [bytesL, List.range_succ]
theorem ofNat_toNat {x : Nat} (h : x < 256) : (UInt8.ofNat x).toNat = x := by rw [UInt8.toNat_ofNat']; omega
theorem byte_bytes (v : Nat → Nat) (n i : Nat) : byteAt (wordAt (bytesL v n)) i = if i < n then byteAt v i else 0 := by
  rw [byteAt_words]
  split
  · rename_i h; rw [bytesL_get _ _ _ h]; simp [ofNat_toNat (byteAt_lt v i)]
  · rename_i h; rw [List.getElem?_eq_none (by rw [bytesL_length]; omega)]; rfl
/-- All bytes from place n on, of N words, are 0. -/
def Empty (v : Nat → Nat) (n N : Nat) : Prop := ∀ i, n ≤ i → i < 8 * N → byteAt v i = 0
theorem empty_words (bs : List UInt8) (N : Nat) : Empty (wordAt bs) bs.length N := by
  intro i h _
  rw [byteAt_words, List.getElem?_eq_none (by omega)]; rfl
theorem bytes_of_words (bs : List UInt8) : bytesL (wordAt bs) bs.length = bs := by
  apply List.ext_getElem?
  intro i
  by_cases h : i < bs.length
  · rw [bytesL_get _ _ _ h, byteAt_words, List.getElem?_eq_getElem h]; simp
  · rw [List.getElem?_eq_none (by rw [bytesL_length]; omega), List.getElem?_eq_none (by omega)]
/-- Words that are empty behind are the words of their bytes; others are not. -/
theorem words_of_bytes (v : Nat → Nat) (n N : Nat) (hv : ∀ j, j < N → v j < 18446744073709551616) : (∀ j, j < N → wordAt (bytesL v n) j = v j) ↔ Empty v n N := by
  constructor
  · intro h i h1 h2
    have h3 := byte_bytes v n i
    rw [if_neg (by omega)] at h3
    rw [← h3]
    unfold byteAt
    rw [h _ (by omega)]
  · intro h j hj
    refine words_ext _ _ N j hj (wordAt_lt _ _) (hv j hj) fun i hi => ?_
    rw [byte_bytes]
    split
    · rfl
    · exact (h i (by omega) hi).symm
theorem bytesL_take (v : Nat → Nat) (n m : Nat) (h : n ≤ m) : (bytesL v m).take n = bytesL v n := by
  apply List.ext_getElem?
  intro i
  rw [List.getElem?_take]
  by_cases hi : i < n
  · rw [if_pos hi, bytesL_get _ _ _ (by omega), bytesL_get _ _ _ hi]
  · rw [if_neg hi, List.getElem?_eq_none (by rw [bytesL_length]; omega)]
/-- One step of reckoning a word from its last byte on. -/
theorem leN_step (bs : List UInt8) (i j : Nat) (hj : j < 8) :
    leN ((bs.drop (i + j)).take (8 - j)) = leN ((bs.drop (i + (j + 1))).take (8 - (j + 1))) * 256 + if h : i + j < bs.length then (bs[i + j]).toNat else 0 := by
  by_cases h : i + j < bs.length
  · rw [dif_pos h, List.drop_eq_getElem_cons h, show 8 - j = (8 - (j + 1)) + 1 by omega, List.take_succ_cons, leN, Nat.add_assoc i j 1]
    omega
  · rw [dif_neg h, List.drop_of_length_le (by omega), List.drop_of_length_le (by omega)]
    simp [leN]
theorem leN_take_lt (bs : List UInt8) (m : Nat) : leN (bs.take m) < 2 ^ (8 * m) := by
  have h1 := leN_lt (bs.take m)
  rw [pow256] at h1
  exact Nat.lt_of_lt_of_le h1 (Nat.pow_le_pow_right (by decide) (by have := List.length_take_le m bs; omega))
theorem wordsL_succ (bs : List UInt8) (n : Nat) : wordsL bs (n + 1) = wordsL bs n ++ [wordAt bs n] := by simp [wordsL, List.range_succ]
theorem word_bound (bs : List UInt8) (i j : Nat) (hj : j < 8) : leN ((bs.drop (i + (j + 1))).take (8 - (j + 1))) < 72057594037927936 := by
  have h := leN_take_lt (bs.drop (i + (j + 1))) (8 - (j + 1))
  exact Nat.lt_of_lt_of_le h (Nat.le_trans (Nat.pow_le_pow_right (by decide) (show 8 * (8 - (j + 1)) ≤ 56 by omega)) (by decide))
end Go.Proofs.Ytmpnbaiolmkhlaa
