/- Plain arithmetic of bits in lists: a word's bits, the word of bits (no Go in sight). -/
import Derived.Test.YtmpnbaiolmkhlaaMa
namespace Go.Proofs.Ytmpnbaiolmkhlaa
set_option maxRecDepth 20000

/-- The number of bits, the lowest first. -/
def wordN : List Nat → Nat
  | [] => 0
  | b :: l => b + 2 * wordN l
/-- The first k bits of n, the lowest first. -/
def bitsL (n k : Nat) : List Nat := (List.range k).map fun i => n / 2 ^ i % 2
def isBits (l : List Nat) : Prop := ∀ b ∈ l, b ≤ 1

theorem bitsL_length (n k : Nat) : (bitsL n k).length = k := by simp [bitsL]
theorem bitsL_succ (n k : Nat) : bitsL n (k + 1) = bitsL n k ++ [n / 2 ^ k % 2] := by simp [bitsL, List.range_succ]
theorem bitsL_isBits (n k : Nat) : isBits (bitsL n k) := by
  intro b hb
  simp only [bitsL, List.mem_map, List.mem_range] at hb
  obtain ⟨i, _, rfl⟩ := hb
  omega
theorem bitsL_get (n k i : Nat) (h : i < k) : (bitsL n k)[i]? = some (n / 2 ^ i % 2) := by simp [bitsL, h]
theorem wordN_lt (l : List Nat) (h : isBits l) : wordN l < 2 ^ l.length := by
  induction l with
  | nil => simp [wordN]
  | cons b l ih =>
    have h1 := ih (fun x hx => h x (List.mem_cons_of_mem _ hx))
    have h2 := h b (List.mem_cons_self)
    simp only [wordN, List.length_cons, Nat.pow_succ]
    omega
theorem wordN_bitsL_cons (n k : Nat) : bitsL n (k + 1) = n % 2 :: bitsL (n / 2) k := by
  simp only [bitsL, List.range_succ_eq_map, List.map_cons, List.map_map]
  congr 1
  · simp
  · apply List.map_congr_left
    intro i _
    simp only [Function.comp]
    rw [Nat.div_div_eq_div_mul, ← Nat.pow_succ']
theorem wordN_bitsL (n k : Nat) : wordN (bitsL n k) = n % 2 ^ k := by
  induction k generalizing n with
  | zero => simp [bitsL, wordN, Nat.mod_one]
  | succ k ih =>
    rw [wordN_bitsL_cons, wordN, ih, Nat.pow_succ', Nat.mod_mul]
theorem wordN_append (l m : List Nat) : wordN (l ++ m) = wordN l + 2 ^ l.length * wordN m := by
  induction l with
  | nil => simp [wordN]
  | cons b l ih =>
    simp only [List.cons_append, wordN, ih, List.length_cons, Nat.pow_succ]
    rw [Nat.mul_add, ← Nat.mul_assoc, Nat.mul_comm 2 (2 ^ l.length)]
    omega
theorem bitsL_drop (n k a : Nat) : (bitsL n k).drop a = bitsL (n / 2 ^ a) (k - a) := by
  apply List.ext_getElem?
  intro i
  rw [List.getElem?_drop]
  by_cases h : a + i < k
  · rw [bitsL_get _ _ _ h, bitsL_get _ _ _ (by omega), Nat.div_div_eq_div_mul, ← Nat.pow_add]
  · rw [List.getElem?_eq_none (by rw [bitsL_length]; omega), List.getElem?_eq_none (by rw [bitsL_length]; omega)]
theorem bitsL_take (n k b : Nat) (h : b ≤ k) : (bitsL n k).take b = bitsL n b := by
  apply List.ext_getElem?
  intro i
  rw [List.getElem?_take]
  by_cases hi : i < b
  · rw [if_pos hi, bitsL_get _ _ _ (by omega), bitsL_get _ _ _ hi]
  · rw [if_neg hi, List.getElem?_eq_none (by rw [bitsL_length]; omega)]
/-- A cut of a word's bits is the field's value. -/
theorem wordN_get (n a b : Nat) (h : a + b ≤ 64) : wordN (((bitsL n 64).drop a).take b) = getN n a b := by
  rw [bitsL_drop, bitsL_take _ _ _ (by omega), wordN_bitsL]; rfl
theorem drop_pred (l : List Nat) (k : Nat) (h : 0 < k) (hk : k ≤ l.length) : wordN (l.drop (k - 1)) = 2 * wordN (l.drop k) + l[k - 1]?.getD 0 := by
  have e : l.drop (k - 1) = l[k - 1] :: l.drop (k - 1 + 1) := List.drop_eq_getElem_cons (by omega)
  rw [e, show k - 1 + 1 = k by omega, wordN, List.getElem?_eq_getElem (by omega)]
  simp; omega
theorem isBits_drop (l : List Nat) (k : Nat) (h : isBits l) : isBits (l.drop k) := fun b hb => h b (List.mem_of_mem_drop hb)
theorem isBits_take (l : List Nat) (k : Nat) (h : isBits l) : isBits (l.take k) := fun b hb => h b (List.mem_of_mem_take hb)
theorem isBits_get (l : List Nat) (k : Nat) (h : isBits l) : l[k]?.getD 0 ≤ 1 := by
  by_cases hk : k < l.length
  · rw [List.getElem?_eq_getElem hk]; exact h _ (List.getElem_mem hk)
  · rw [List.getElem?_eq_none (by omega)]; simp
theorem word_step_bound (l : List Nat) (k : Nat) (h : isBits l) (h0 : 0 < k) (hk : k ≤ l.length) (h64 : l.length ≤ 64) : 2 * wordN (l.drop k) + l[k - 1]?.getD 0 < 18446744073709551616 := by
  rw [← drop_pred l k h0 hk]
  have := wordN_lt _ (isBits_drop l (k - 1) h)
  have h2 := pow_le64 (n := (l.drop (k - 1)).length) (by simp; omega)
  omega
/-- The bits of n with the first i bits of v laid in from place a on. -/
def layL (n a v i : Nat) : List Nat := (bitsL n 64).take a ++ bitsL v i ++ (bitsL n 64).drop (a + i)
theorem layL_length (n a v i : Nat) (h : a + i ≤ 64) : (layL n a v i).length = 64 := by
  simp only [layL, List.length_append, List.length_take, List.length_drop, bitsL_length]; omega
theorem layL_zero (n a v : Nat) : layL n a v 0 = bitsL n 64 := by simp [layL, bitsL]
theorem layL_isBits (n a v i : Nat) : isBits (layL n a v i) := by
  intro b hb
  simp only [layL, List.mem_append] at hb
  rcases hb with (hb | hb) | hb
  · exact bitsL_isBits n 64 b (List.mem_of_mem_take hb)
  · exact bitsL_isBits v i b hb
  · exact bitsL_isBits n 64 b (List.mem_of_mem_drop hb)
theorem layL_set (n a v i : Nat) (h : a + i < 64) : (layL n a v i).set (a + i) (v / 2 ^ i % 2) = layL n a v (i + 1) := by
  have e1 : ((bitsL n 64).take a ++ bitsL v i).length = a + i := by
    simp only [List.length_append, List.length_take, bitsL_length]; omega
  have e2 : (bitsL n 64).drop (a + i) = (bitsL n 64)[a + i]'(by rw [bitsL_length]; omega) :: (bitsL n 64).drop (a + i + 1) := List.drop_eq_getElem_cons _
  unfold layL
  rw [List.set_append_right _ _ (by omega), e1, Nat.sub_self, e2, List.set_cons_zero, bitsL_succ v i]
  simp [Nat.add_assoc]
theorem layL_word (n a b v : Nat) (hn : n < 2 ^ 64) (hab : a + b ≤ 64) (hv : v < 2 ^ b) : wordN (layL n a v b) = putN n a b v := by
  unfold layL
  rw [wordN_append, wordN_append, bitsL_take _ _ _ (by omega), bitsL_drop, wordN_bitsL, wordN_bitsL, wordN_bitsL, List.length_append, bitsL_length, bitsL_length,
    Nat.mod_eq_of_lt hv, Nat.mod_eq_of_lt (a := n / 2 ^ (a + b))]
  · unfold putN; rw [Nat.mul_comm (2 ^ a) v, Nat.mul_comm (2 ^ (a + b))]
  · rw [Nat.div_lt_iff_lt_mul (pow_pos2 _), ← Nat.pow_add, show 64 - (a + b) + (a + b) = 64 by omega]; exact hn
end Go.Proofs.Ytmpnbaiolmkhlaa
