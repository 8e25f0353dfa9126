/- Parts of the proof: Mj. -/
import Derived.Test.YtikpphbgjbfddaaJ1
namespace Go.Proofs.Ytikpphbgjbfddaa
set_option maxRecDepth 20000
def T16 : Nat := 65536
def T32 : Nat := 4294967296
def T48 : Nat := 281474976710656
def T63 : Nat := 9223372036854775808
def bitN (b : Bool) : Nat := if b then 1 else 0
/-- A header's word. -/
def packN (p : Nat) (t i : Bool) : Nat := p + bitN t * T48 + bitN i * (2 * T48)

theorem bitN_le (b : Bool) : bitN b ≤ 1 := by cases b <;> decide
theorem put_prev (p : Nat) : putN 0 0 48 p = p := by simp [putN]
theorem most48 : mostN 48 = 281474976710655 := by decide
theorem set_tomb (p : Nat) (t : Bool) (hp : p < 281474976710656) : putN p 48 1 (bitN t) = p + bitN t * T48 := by
  unfold putN T48
  rw [show (2 : Nat) ^ 48 = 281474976710656 by decide, show (2 : Nat) ^ (48 + 1) = 562949953421312 by decide]
  omega
theorem set_invalid (p : Nat) (t i : Bool) (hp : p < 281474976710656) : putN (p + bitN t * T48) 49 1 (bitN i) = packN p t i := by
  have h := bitN_le t
  unfold putN packN T48
  rw [show (2 : Nat) ^ 49 = 562949953421312 by decide, show (2 : Nat) ^ (49 + 1) = 1125899906842624 by decide]
  omega
theorem packN_lt (p : Nat) (t i : Bool) (hp : p < 281474976710656) : packN p t i < 1125899906842624 := by
  have h := bitN_le t
  have h' := bitN_le i
  unfold packN T48
  omega
/-- What is read of a word. -/
def tombB (n : Nat) : Bool := decide (n / 281474976710656 % 2 = 1)
def invalidB (n : Nat) : Bool := decide (n / 562949953421312 % 2 = 1)
theorem bit_tomb (n : Nat) : bitN (tombB n) = n / 281474976710656 % 2 := by
  unfold tombB bitN
  by_cases h : n / 281474976710656 % 2 = 1
  · simp [h]
  · simp [h]; omega
theorem bit_invalid (n : Nat) : bitN (invalidB n) = n / 562949953421312 % 2 := by
  unfold invalidB bitN
  by_cases h : n / 562949953421312 % 2 = 1
  · simp [h]
  · simp [h]; omega
theorem pack_back (n : Nat) : packN (n % 281474976710656) (tombB n) (invalidB n) = n % 1125899906842624 := by
  unfold packN T48
  rw [bit_tomb, bit_invalid]
  omega
theorem prev_of (p : Nat) (t i : Bool) (hp : p < 281474976710656) : packN p t i % 281474976710656 = p := by
  unfold packN T48
  omega
theorem tomb_of (p : Nat) (t i : Bool) (hp : p < 281474976710656) : tombB (packN p t i) = t := by
  have h : packN p t i / 281474976710656 % 2 = bitN t := by
    have h := bitN_le t
    unfold packN T48
    omega
  unfold tombB
  rw [h]
  cases t <;> decide
theorem invalid_of (p : Nat) (t i : Bool) (hp : p < 281474976710656) : invalidB (packN p t i) = i := by
  have h : packN p t i / 562949953421312 % 2 = bitN i := by
    have h := bitN_le t
    have h := bitN_le i
    unfold packN T48
    omega
  unfold invalidB
  rw [h]
  cases i <;> decide
theorem tomb_ref (n : Nat) : ((n : Int) / 281474976710656 % 2 == 1) = tombB n := by
  unfold tombB
  rw [Bool.eq_iff_iff]
  simp only [beq_iff_eq, decide_eq_true_eq]
  omega
theorem invalid_ref (n : Nat) (h : n < 1125899906842624) : decide (2 ≤ (n : Int) / 281474976710656) = invalidB n := by
  unfold invalidB
  rw [decide_eq_decide]
  omega
/-- Locks. -/
def isLockB (n : Nat) : Bool := decide (n % 9223372036854775808 / 4294967296 = 0)
def writesB (n : Nat) : Bool := decide (9223372036854775808 ≤ n)
theorem get_count (n : Nat) : getN n 0 32 = n % 4294967296 := by simp [getN]
theorem get_empty (n : Nat) : getN n 32 31 = n % 9223372036854775808 / 4294967296 := by
  unfold getN
  rw [show (2 : Nat) ^ 32 = 4294967296 by decide, show (2 : Nat) ^ 31 = 2147483648 by decide]
  omega
theorem get_writes (n : Nat) (h : n < 18446744073709551616) : (((getN n 63 1 : Nat) : Int) == 1) = writesB n := by
  unfold getN writesB
  rw [show (2 : Nat) ^ 63 = 9223372036854775808 by decide, Bool.eq_iff_iff]
  simp only [beq_iff_eq, decide_eq_true_eq]
  omega
theorem set_writes (n : Nat) (h : writesB n = false) : putN n 63 1 1 = n + 9223372036854775808 := by
  simp only [writesB, decide_eq_false_iff_not] at h
  unfold putN
  rw [show (2 : Nat) ^ 63 = 9223372036854775808 by decide, show (2 : Nat) ^ (63 + 1) = 18446744073709551616 by decide]
  omega
theorem get_prev (n : Nat) : getN n 0 48 = n % 281474976710656 := by simp [getN]
theorem get_tomb (n : Nat) : (((getN n 48 1 : Nat) : Int) == 1) = tombB n := by
  unfold getN tombB
  rw [show (2 : Nat) ^ 48 = 281474976710656 by decide, Bool.eq_iff_iff]
  simp only [beq_iff_eq, decide_eq_true_eq]
  omega
theorem get_invalid (n : Nat) : (((getN n 49 1 : Nat) : Int) == 1) = invalidB n := by
  unfold getN invalidB
  rw [show (2 : Nat) ^ 49 = 562949953421312 by decide, Bool.eq_iff_iff]
  simp only [beq_iff_eq, decide_eq_true_eq]
  omega
/-- Lengths. -/
def lenN (k v : Nat) : Nat := k + v * 65536 + 189850439385088
theorem get_key (n : Nat) : getN n 0 16 = n % 65536 := by simp [getN]
theorem get_value (n : Nat) : getN n 16 16 = n / 65536 % 65536 := by simp [getN]
end Go.Proofs.Ytikpphbgjbfddaa
