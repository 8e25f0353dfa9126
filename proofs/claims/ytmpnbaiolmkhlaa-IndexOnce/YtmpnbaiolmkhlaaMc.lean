/- Plain arithmetic of bytes in words (no Go in sight): eight bytes a word, the first one lowest. -/
import Derived.Test.YtmpnbaiolmkhlaaMb
namespace Go.Proofs.Ytmpnbaiolmkhlaa
set_option maxRecDepth 20000

/-- The number of bytes, the first one lowest. -/
def leN : List UInt8 → Nat
  | [] => 0
  | b :: l => b.toNat + 256 * leN l
/-- Word k of bytes. -/
def wordAt (bs : List UInt8) (k : Nat) : Nat := leN ((bs.drop (8 * k)).take 8)
/-- The first n words of bytes. -/
def wordsL (bs : List UInt8) (n : Nat) : List Nat := (List.range n).map (wordAt bs)
def wordsFor (n : Nat) : Nat := (n + 7) / 8

theorem leN_lt (l : List UInt8) : leN l < 256 ^ l.length := by
  induction l with
  | nil => simp [leN]
  | cons b l ih =>
    have := b.toNat_lt
    simp only [leN, List.length_cons, Nat.pow_succ]
    omega
theorem leN_snoc (l : List UInt8) (b : UInt8) : leN (l ++ [b]) = leN l + 256 ^ l.length * b.toNat := by
  induction l with
  | nil => simp [leN]
  | cons c l ih =>
    simp only [List.cons_append, leN, ih, List.length_cons, Nat.pow_succ]
    rw [Nat.mul_add, ← Nat.mul_assoc, Nat.mul_comm 256 (256 ^ l.length)]
    omega
theorem pow256 (n : Nat) : 256 ^ n = 2 ^ (8 * n) := by rw [Nat.pow_mul]
theorem wordAt_lt (bs : List UInt8) (k : Nat) : wordAt bs k < 18446744073709551616 := by
  have h := leN_lt ((bs.drop (8 * k)).take 8)
  have h2 : ((bs.drop (8 * k)).take 8).length ≤ 8 := List.length_take_le _ _
  rw [pow256] at h
  exact Nat.lt_of_lt_of_le h (pow_le64 (by omega))
theorem wordsL_length (bs : List UInt8) (n : Nat) : (wordsL bs n).length = n := by simp [wordsL]
theorem wordsL_get (bs : List UInt8) (n k : Nat) (h : k < n) : (wordsL bs n)[k]? = some (wordAt bs k) := by simp [wordsL, h]
/-- One byte more: its word has it, the others are as they were. -/
theorem wordAt_snoc (l : List UInt8) (b : UInt8) (k : Nat) :
    wordAt (l ++ [b]) k = if k = l.length / 8 then wordAt l k + 2 ^ (8 * (l.length % 8)) * b.toNat else wordAt l k := by
  unfold wordAt
  split
  · rename_i h
    subst h
    have h1 : 8 * (l.length / 8) ≤ l.length := by omega
    have h2 : (l.drop (8 * (l.length / 8))).length = l.length % 8 := by rw [List.length_drop]; omega
    rw [List.drop_append_of_le_length h1, List.take_of_length_le (by rw [List.length_append, h2]; simp; omega), List.take_of_length_le (by rw [h2]; omega), leN_snoc, h2, pow256]
  · rename_i h
    by_cases hk : k < l.length / 8
    · rw [List.drop_append_of_le_length (by omega), List.take_append_of_le_length (by rw [List.length_drop]; omega)]
    · rw [List.drop_of_length_le (by rw [List.length_append]; simp; omega), List.drop_of_length_le (by omega)]
theorem or_add (x b i : Nat) (hx : x < 2 ^ i) : x ||| (b * 2 ^ i) = x + 2 ^ i * b := by
  rw [Nat.mul_comm b, Nat.or_comm, ← Nat.two_pow_add_eq_or_of_lt hx]; omega
theorem wordAt_small (l : List UInt8) : wordAt l (l.length / 8) < 2 ^ (8 * (l.length % 8)) := by
  have h := leN_lt ((l.drop (8 * (l.length / 8))).take 8)
  rw [pow256] at h
  refine Nat.lt_of_lt_of_le h (Nat.pow_le_pow_right (by decide) ?_)
  have h2 : (l.drop (8 * (l.length / 8))).length = l.length % 8 := by rw [List.length_drop]; omega
  have := List.length_take_le' 8 (l.drop (8 * (l.length / 8)))
  omega
/-- What the program reckons for a byte more. -/
theorem word_or (l : List UInt8) (b : UInt8) :
    bits .or .u64 (wordAt l (l.length / 8) : Int) (IntKind.u64.wrap (IntKind.u64.wrap (b.toNat : Int) * 2 ^ (l.length % 8 * 8))) = (wordAt (l ++ [b]) (l.length / 8) : Int) := by
  have hb := b.toNat_lt
  have h0 : IntKind.u64.wrap (b.toNat : Int) = (b.toNat : Int) := by rw [IntKind.wrap_u64]; omega
  have h := shl_u64 b.toNat ((8 * (l.length % 8) : Nat) : Int) 8 (by omega) (by omega)
  simp only [Int.toNat_natCast] at h
  rw [show min (8 * (l.length % 8)) 64 = l.length % 8 * 8 by omega] at h
  rw [h0, h, u64_or_nat _ _ (wordAt_lt _ _) (mul_pow_lt _ _ 8 (by omega) (by omega)), wordAt_snoc, if_pos rfl, or_add _ _ _ (wordAt_small l)]
theorem wordsL_snoc (l : List UInt8) (b : UInt8) (n : Nat) : (wordsL l n).set (l.length / 8) (wordAt (l ++ [b]) (l.length / 8)) = wordsL (l ++ [b]) n := by
  apply List.ext_getElem?
  intro i
  rw [List.getElem?_set]
  by_cases hi : i < n
  · rw [wordsL_get (l ++ [b]) n i hi]
    by_cases e : l.length / 8 = i
    · subst e; rw [if_pos rfl, if_pos (by rw [wordsL_length]; exact hi)]
    · rw [if_neg e, wordsL_get _ _ _ hi, wordAt_snoc, if_neg (fun h => e h.symm)]
  · rw [List.getElem?_eq_none (l := wordsL (l ++ [b]) n) (by rw [wordsL_length]; omega)]
    split
    · rename_i h; subst h; simp [wordsL_length]; omega
    · exact List.getElem?_eq_none (by rw [wordsL_length]; omega)
theorem wordsL_nil (n : Nat) : wordsL [] n = List.replicate n 0 := by
  apply List.ext_getElem?
  intro i
  by_cases hi : i < n
  · rw [wordsL_get _ _ _ hi, List.getElem?_replicate, if_pos hi]; simp [wordAt, leN]
  · rw [List.getElem?_eq_none (by rw [wordsL_length]; omega), List.getElem?_eq_none (by simp; omega)]
theorem wordsFor_eq (n : Nat) : wordsFor n = n / 8 + if 0 < n % 8 then 1 else 0 := by unfold wordsFor; split <;> omega
end Go.Proofs.Ytmpnbaiolmkhlaa
