/- Plain arithmetic of fields of words (no Go in sight): the greatest value, a field's value, the word with another value in a field. -/
import Derived.Laws.BitsAllLaws
namespace Go.Proofs.Ytmpnbaiolmkhlaa
set_option maxRecDepth 20000

def mostN (b : Int) : Nat := 2 ^ (min b.toNat 64) - 1
def rightB (a b : Int) : Bool := decide (0 ≤ a ∧ a < 64 ∧ 1 ≤ b ∧ b ≤ 64 - a)
def getN (w a b : Nat) : Nat := w / 2 ^ a % 2 ^ b
def putN (w a b v : Nat) : Nat := w % 2 ^ a + v * 2 ^ a + w / 2 ^ (a + b) * 2 ^ (a + b)

theorem rightB_iff (a b : Int) : rightB a b = true ↔ (0 ≤ a ∧ a < 64 ∧ 1 ≤ b ∧ b ≤ 64 - a) := by
  unfold rightB; simp
theorem rightB_not (a b : Int) : rightB a b = false ↔ ¬ (0 ≤ a ∧ a < 64 ∧ 1 ≤ b ∧ b ≤ 64 - a) := by
  unfold rightB; simp

theorem pow64 : (2 : Nat) ^ 64 = 18446744073709551616 := by decide
theorem pow_pos2 (n : Nat) : 0 < 2 ^ n := Nat.two_pow_pos n
theorem pow_le64 {n : Nat} (h : n ≤ 64) : 2 ^ n ≤ 18446744073709551616 := by
  rw [← pow64]; exact Nat.pow_le_pow_right (by decide) h
theorem pow_lt64 {n : Nat} (h : n < 64) : 2 ^ n < 18446744073709551616 := by
  rw [← pow64]; exact Nat.pow_lt_pow_right (by decide) h
theorem mostN_lt (b : Int) : mostN b < 18446744073709551616 := by
  unfold mostN
  have := pow_le64 (Nat.min_le_right b.toNat 64)
  have := pow_pos2 (min b.toNat 64)
  omega
theorem most_lo (b : Int) (h : b < 1) : mostN b = 0 := by
  unfold mostN; rw [show min b.toNat 64 = 0 by omega]
theorem most_hi (b : Int) (h : 64 ≤ b) : mostN b = 18446744073709551615 := by
  unfold mostN; rw [show min b.toNat 64 = 64 by omega]
theorem most_mid (b : Int) (h0 : 1 ≤ b) (h : b ≤ 64) : mostN b = 2 ^ b.toNat - 1 := by
  unfold mostN; rw [show min b.toNat 64 = b.toNat by omega]
theorem wrap_pow (b : Int) (h0 : 1 ≤ b) (h : b < 64) : IntKind.u64.wrap (IntKind.u64.wrap (2 ^ b.toNat) - 1) = (mostN b : Int) := by
  have h1 : (2 : Nat) ^ b.toNat < 18446744073709551616 := pow_lt64 (by omega)
  have h2 := pow_pos2 b.toNat
  have h3 : ((2 : Int) ^ b.toNat) = ((2 ^ b.toNat : Nat) : Int) := by simp
  rw [most_mid b h0 (by omega), IntKind.wrap_u64, IntKind.wrap_u64, h3]
  omega

theorem getN_lt (w a b : Nat) : getN w a b < 2 ^ b := Nat.mod_lt _ (pow_pos2 b)
theorem getN_lt64 (w a b : Nat) (h : b ≤ 64) : getN w a b < 18446744073709551616 :=
  Nat.lt_of_lt_of_le (getN_lt w a b) (pow_le64 h)

/-- A shift to the right and a mask: the field's value. -/
theorem get_bits (w : Nat) (a b : Int) (hw : w < 18446744073709551616) (hr : rightB a b = true) :
    bits .and .u64 ((w : Int) / 2 ^ min a.toNat 64) (mostN b : Int) = (getN w a.toNat b.toNat : Int) := by
  rw [rightB_iff] at hr
  have e : min a.toNat 64 = a.toNat := by omega
  have h3 : ((w : Int) / 2 ^ a.toNat) = ((w / 2 ^ a.toNat : Nat) : Int) := by simp
  rw [e, h3, u64_and_nat _ _ (Nat.lt_of_le_of_lt (Nat.div_le_self _ _) hw) (mostN_lt b), most_mid b (by omega) (by omega), Nat.and_two_pow_sub_one_eq_mod]
  rfl

/-- Clearing a field and laying a value into it. -/
theorem put_nat (w a b v : Nat) (hw : w < 2 ^ 64) (hab : a + b ≤ 64) (hv : v < 2 ^ b) :
    (w &&& (2 ^ 64 - 1 - (2 ^ b - 1) * 2 ^ a)) ||| (v * 2 ^ a) = putN w a b v := by
  apply Nat.eq_of_testBit_eq
  intro i
  have hm : (2 ^ b - 1) * 2 ^ a < 2 ^ 64 := by
    have h1 : (2 ^ b - 1) * 2 ^ a < 2 ^ b * 2 ^ a := Nat.mul_lt_mul_of_pos_right (by have := pow_pos2 b; omega) (pow_pos2 a)
    rw [← Nat.pow_add] at h1
    exact Nat.lt_of_lt_of_le h1 (Nat.pow_le_pow_right (by decide) (by omega))
  have e1 : 2 ^ 64 - 1 - (2 ^ b - 1) * 2 ^ a = 2 ^ 64 - ((2 ^ b - 1) * 2 ^ a + 1) := by omega
  have e2 : putN w a b v = 2 ^ a * (2 ^ b * (w / 2 ^ (a + b)) + v) + w % 2 ^ a := by
    unfold putN
    rw [Nat.mul_add, ← Nat.mul_assoc, ← Nat.pow_add, Nat.mul_comm v, Nat.mul_comm (w / 2 ^ (a + b))]
    omega
  rw [e2, Nat.testBit_two_pow_mul_add _ (Nat.mod_lt _ (pow_pos2 a)), Nat.testBit_or, Nat.testBit_and, e1, Nat.testBit_two_pow_sub_succ hm, Nat.mul_comm (2 ^ b - 1), Nat.mul_comm v,
    Nat.testBit_two_pow_mul, Nat.testBit_two_pow_mul, Nat.testBit_two_pow_sub_one, Nat.testBit_mod_two_pow]
  have hwi : 64 ≤ i → w.testBit i = false := fun h => Nat.testBit_lt_two_pow (Nat.lt_of_lt_of_le hw (Nat.pow_le_pow_right (by decide) h))
  by_cases h1 : i < a
  · have h2 : i < 64 := by omega
    simp [h1, h2, Nat.not_le.mpr h1]
  · rw [if_neg h1, Nat.testBit_two_pow_mul_add _ hv, Nat.testBit_div_two_pow]
    have h1' : a ≤ i := by omega
    by_cases h2 : i - a < b
    · simp [h1', h2]
    · have hvi : v.testBit (i - a) = false := Nat.testBit_lt_two_pow (Nat.lt_of_lt_of_le hv (Nat.pow_le_pow_right (by decide) (by omega)))
      rw [if_neg h2, hvi, show i - a - b + (a + b) = i by omega]
      by_cases h3 : i < 64
      · simp [h1', h2, h3]
      · simp [hwi (by omega)]
theorem putN_lt (w a b v : Nat) (hw : w < 2 ^ 64) (hab : a + b ≤ 64) (hv : v < 2 ^ b) : putN w a b v < 2 ^ 64 := by
  rw [← put_nat w a b v hw hab hv]
  refine Nat.or_lt_two_pow (Nat.lt_of_le_of_lt Nat.and_le_left hw) ?_
  have h1 : v * 2 ^ a < 2 ^ b * 2 ^ a := Nat.mul_lt_mul_of_pos_right hv (pow_pos2 a)
  rw [← Nat.pow_add] at h1
  exact Nat.lt_of_lt_of_le h1 (Nat.pow_le_pow_right (by decide) (by omega))

theorem mul_pow_lt (x a b : Nat) (hab : a + b ≤ 64) (hx : x < 2 ^ b) : x * 2 ^ a < 18446744073709551616 := by
  have h1 : x * 2 ^ a < 2 ^ b * 2 ^ a := Nat.mul_lt_mul_of_pos_right hx (pow_pos2 a)
  rw [← Nat.pow_add] at h1
  exact Nat.lt_of_lt_of_le h1 (pow_le64 (by omega))
theorem shl_u64 (x : Nat) (a : Int) (b : Nat) (hab : a.toNat + b ≤ 64) (hx : x < 2 ^ b) :
    IntKind.u64.wrap ((x : Int) * 2 ^ min a.toNat 64) = ((x * 2 ^ a.toNat : Nat) : Int) := by
  have h := mul_pow_lt x a.toNat b hab hx
  have h3 : ((2 : Int) ^ a.toNat) = ((2 ^ a.toNat : Nat) : Int) := by simp
  rw [show min a.toNat 64 = a.toNat by omega, IntKind.wrap_u64, h3, ← Int.natCast_mul]
  omega
/-- What the program reckons is the word with the value in the field. -/
theorem put_bits (w : Nat) (a b : Int) (v : Nat) (hw : w < 18446744073709551616) (hr : rightB a b = true) (hv : v ≤ mostN b) :
    bits .or .u64 (bits .andNot .u64 (w : Int) (IntKind.u64.wrap ((mostN b : Int) * 2 ^ min a.toNat 64))) (IntKind.u64.wrap ((v : Int) * 2 ^ min a.toNat 64)) = (putN w a.toNat b.toNat v : Int) := by
  rw [rightB_iff] at hr
  have hm := most_mid b (by omega) (by omega)
  have hp := pow_pos2 b.toNat
  have hvb : v < 2 ^ b.toNat := by omega
  have hab : a.toNat + b.toNat ≤ 64 := by omega
  have h1 := mul_pow_lt (mostN b) a.toNat b.toNat hab (by omega)
  have h2 := mul_pow_lt v a.toNat b.toNat hab hvb
  rw [shl_u64 _ a b.toNat hab (by omega), shl_u64 _ a b.toNat hab hvb, u64_andNot_nat _ _ hw h1,
    u64_or_nat _ _ (Nat.lt_of_le_of_lt Nat.and_le_left hw) h2, ← put_nat w a.toNat b.toNat v (by rw [pow64]; exact hw) hab hvb, hm]
theorem putN_lt64 (w : Nat) (a b : Int) (v : Nat) (hw : w < 18446744073709551616) (hr : rightB a b = true) (hv : v ≤ mostN b) : putN w a.toNat b.toNat v < 18446744073709551616 := by
  rw [rightB_iff] at hr
  have hm := most_mid b (by omega) (by omega)
  have hp := pow_pos2 b.toNat
  rw [← pow64] at *
  exact putN_lt w a.toNat b.toNat v hw (by omega) (by omega)
theorem wrap_one (a : Int) (h : a < 64) : IntKind.u64.wrap (2 ^ a.toNat) = ((2 ^ a.toNat : Nat) : Int) := by
  have h1 : (2 : Nat) ^ a.toNat < 18446744073709551616 := pow_lt64 (by omega)
  have h3 : ((2 : Int) ^ a.toNat) = ((2 ^ a.toNat : Nat) : Int) := by simp
  rw [IntKind.wrap_u64, h3]; exact Int.emod_eq_of_lt (Int.natCast_nonneg _) (by omega)
theorem set_off (w : Nat) (a : Int) (hw : w < 18446744073709551616) (ha : 0 ≤ a) (h : a < 64) :
    bits .andNot .u64 (w : Int) (IntKind.u64.wrap (2 ^ a.toNat)) = (putN w a.toNat 1 0 : Int) := by
  have hp := put_nat w a.toNat 1 0 (by rw [pow64]; exact hw) (by omega) (by decide)
  rw [wrap_one a h, u64_andNot_nat _ _ hw (pow_lt64 (by omega)), ← hp]
  simp
theorem set_on (w : Nat) (a : Int) (hw : w < 18446744073709551616) (ha : 0 ≤ a) (h : a < 64) :
    bits .or .u64 (w : Int) (IntKind.u64.wrap (2 ^ a.toNat)) = (putN w a.toNat 1 1 : Int) := by
  have hp := put_nat w a.toNat 1 1 (by rw [pow64]; exact hw) (by omega) (by decide)
  rw [wrap_one a h, u64_or_nat _ _ hw (pow_lt64 (by omega)), ← hp]
  congr 1
  apply Nat.eq_of_testBit_eq
  intro i
  have hm : 2 ^ a.toNat < 2 ^ 64 := Nat.pow_lt_pow_right (by decide) (by omega)
  rw [show (2 ^ 1 - 1) * 2 ^ a.toNat = 2 ^ a.toNat by simp, show 2 ^ 64 - 1 - 2 ^ a.toNat = 2 ^ 64 - (2 ^ a.toNat + 1) by omega, Nat.testBit_or, Nat.testBit_or, Nat.testBit_and, Nat.testBit_two_pow_sub_succ hm, Nat.testBit_two_pow]
  have hwi : 64 ≤ i → w.testBit i = false := fun h => Nat.testBit_lt_two_pow (Nat.lt_of_lt_of_le (by rw [pow64]; exact hw) (Nat.pow_le_pow_right (by decide) h))
  by_cases h3 : i < 64
  · by_cases h4 : a.toNat = i <;> simp [h3, h4]
  · simp [hwi (by omega)]
end Go.Proofs.Ytmpnbaiolmkhlaa
