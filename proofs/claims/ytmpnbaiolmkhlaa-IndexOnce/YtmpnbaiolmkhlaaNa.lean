/- Plain arithmetic of entries: words of an address, a tag and a flag. -/
import Derived.Test.YtmpnbaiolmkhlaaW0
namespace Go.Proofs.Ytmpnbaiolmkhlaa
set_option maxRecDepth 20000
/-- The word of an entry. -/
def entN (a t : Nat) (f : Bool) : Nat := 9223372036854775808 + (if f then 4611686018427387904 else 0) + t * 281474976710656 + a
/-- May it be? -/
def entB (a t : Nat) (f : Bool) : Bool := decide (a < 281474976710656) && decide (t < 16384) && (f == decide (a = 0))
theorem entB_iff {a t : Nat} {f : Bool} : entB a t f = true ↔ a < 281474976710656 ∧ t < 16384 ∧ (f = true ↔ a = 0) := by
  unfold entB
  cases f <;> simp [and_assoc]
theorem entN_lt {a t : Nat} {f : Bool} (ha : a < 281474976710656) (ht : t < 16384) : 9223372036854775808 ≤ entN a t f ∧ entN a t f < 18446744073709551616 := by
  unfold entN
  cases f <;> simp <;> omega
theorem entN_a {a t : Nat} {f : Bool} (ha : a < 281474976710656) : entN a t f % 281474976710656 = a := by
  unfold entN
  cases f <;> simp <;> omega
theorem entN_t {a t : Nat} {f : Bool} (ha : a < 281474976710656) (ht : t < 16384) : entN a t f / 281474976710656 % 16384 = t := by
  unfold entN
  cases f <;> simp <;> omega
theorem entN_f {a t : Nat} {f : Bool} (ha : a < 281474976710656) (ht : t < 16384) : (entN a t f / 4611686018427387904 % 2 = 1) ↔ f = true := by
  unfold entN
  cases f <;> simp <;> omega
theorem entN_of {w : Nat} (h1 : 9223372036854775808 ≤ w) (h2 : w < 18446744073709551616) : entN (w % 281474976710656) (w / 281474976710656 % 16384) (decide (w / 4611686018427387904 % 2 = 1)) = w := by
  unfold entN
  by_cases h : w / 4611686018427387904 % 2 = 1
  · simp only [h, decide_true, if_true]; omega
  · simp only [h, decide_false, Bool.false_eq_true, if_false]; omega
theorem entN_inj {a t a' t' : Nat} {f f' : Bool} (ha : a < 281474976710656) (ht : t < 16384) (ha' : a' < 281474976710656) (ht' : t' < 16384) (h : entN a t f = entN a' t' f') : a = a' ∧ t = t' ∧ f = f' := by
  have h1 := entN_a (t := t) (f := f) ha
  have h2 := entN_t (f := f) ha ht
  have h3 := entN_f (f := f) ha ht
  rw [h, entN_a ha'] at h1
  rw [h, entN_t ha' ht'] at h2
  rw [h, entN_f ha' ht'] at h3
  refine ⟨h1.symm, h2.symm, ?_⟩
  cases f <;> cases f' <;> simp_all
end Go.Proofs.Ytmpnbaiolmkhlaa
