/- Plain arithmetic of values side by side (no Go in sight). -/
import Derived.Test.YtmpnbaiolmkhlaaMd
namespace Go.Proofs.Ytmpnbaiolmkhlaa
set_option maxRecDepth 20000

def atK (b : Nat → Nat) : Nat → Nat
  | 0 => 0
  | k + 1 => atK b k + b k
def sumK (v b : Nat → Nat) : Nat → Nat
  | 0 => 0
  | k + 1 => sumK v b k + v k * 2 ^ atK b k
def bitsK (v b : Nat → Nat) : Nat → List Nat
  | 0 => []
  | k + 1 => bitsK v b k ++ bitsL (v k) (b k)
/-- The widths as natural numbers. -/
def wid (z : Nat → Int) : Nat → Nat := fun i => (z i).toNat
/-- The first n widths are widths of one word's fields. -/
def Fits (z : Nat → Int) (n : Nat) : Prop := ∀ k, k < n → 1 ≤ z k ∧ atK (wid z) (k + 1) ≤ 64

theorem fits_zero (z : Nat → Int) : Fits z 0 := fun k h => absurd h (by omega)
theorem fits_at {z : Nat → Int} {n : Nat} (h : Fits z n) : atK (wid z) n ≤ 64 := by
  cases n with
  | zero => simp [atK]
  | succ k => exact (h k (by omega)).2
theorem fits_mono {z : Nat → Int} {n m : Nat} (h : Fits z n) (hm : m ≤ n) : Fits z m := fun k hk => h k (by omega)
theorem fits_succ (z : Nat → Int) (k : Nat) (h : Fits z k) : Fits z (k + 1) ↔ rightB (atK (wid z) k : Int) (z k) = true := by
  have ha := fits_at h
  rw [rightB_iff]
  constructor
  · intro h'
    have := h' k (by omega)
    simp only [atK, wid] at this ⊢
    omega
  · intro h' j hj
    by_cases e : j < k
    · exact h j e
    · have e : j = k := by omega
      subst e
      simp only [atK, wid] at h' ⊢
      omega
theorem fits_succ' (z : Nat → Int) (k : Nat) (h : Fits z k) : Fits z (k + 1) ↔ 1 ≤ z k ∧ z k ≤ 64 ∧ (atK (wid z) k : Int) + z k ≤ 64 := by
  have ha := fits_at h
  rw [fits_succ z k h, rightB_iff]; omega
theorem at_succ (z : Nat → Int) (k : Nat) (h : 1 ≤ z k) : (atK (wid z) k : Int) + z k = (atK (wid z) (k + 1) : Int) := by
  simp only [atK, wid]; omega

theorem sumK_lt (v b : Nat → Nat) (n : Nat) (h : ∀ k, k < n → v k < 2 ^ b k) : sumK v b n < 2 ^ atK b n := by
  induction n with
  | zero => simp [sumK, atK]
  | succ k ih =>
    have h1 := ih (fun j hj => h j (by omega))
    have h2 := h k (by omega)
    simp only [sumK, atK, Nat.pow_add]
    have h3 : (v k + 1) * 2 ^ atK b k ≤ 2 ^ b k * 2 ^ atK b k := Nat.mul_le_mul_right _ h2
    rw [Nat.mul_comm (2 ^ atK b k), Nat.add_mul] at *
    omega
theorem put_sum (v b : Nat → Nat) (k : Nat) (h : ∀ j, j < k → v j < 2 ^ b j) : putN (sumK v b k) (atK b k) (b k) (v k) = sumK v b (k + 1) := by
  have h1 := sumK_lt v b k h
  unfold putN
  rw [Nat.mod_eq_of_lt h1, Nat.div_eq_of_lt (Nat.lt_of_lt_of_le h1 (Nat.pow_le_pow_right (by decide) (by omega)))]
  simp [sumK]
theorem bitsK_length (v b : Nat → Nat) (n : Nat) : (bitsK v b n).length = atK b n := by
  induction n with
  | zero => rfl
  | succ k ih => simp [bitsK, atK, ih, bitsL_length]
theorem bitsK_isBits (v b : Nat → Nat) (n : Nat) : isBits (bitsK v b n) := by
  induction n with
  | zero => intro x hx; simp [bitsK] at hx
  | succ k ih =>
    intro x hx
    simp only [bitsK, List.mem_append] at hx
    rcases hx with hx | hx
    · exact ih x hx
    · exact bitsL_isBits _ _ x hx
theorem bitsK_word (v b : Nat → Nat) (n : Nat) (h : ∀ k, k < n → v k < 2 ^ b k) : wordN (bitsK v b n) = sumK v b n := by
  induction n with
  | zero => rfl
  | succ k ih =>
    rw [bitsK, wordN_append, ih (fun j hj => h j (by omega)), bitsK_length, wordN_bitsL, Nat.mod_eq_of_lt (h k (by omega)), sumK, Nat.mul_comm]
/-- The fields of a word, side by side, are its beginning. -/
theorem sum_gets (n : Nat) (b : Nat → Nat) (k : Nat) : sumK (fun i => getN n (atK b i) (b i)) b k = getN n 0 (atK b k) := by
  induction k with
  | zero => simp [sumK, atK, getN, Nat.mod_one]
  | succ k ih =>
    rw [sumK, ih]
    simp only [atK, getN, Nat.pow_zero, Nat.div_one]
    rw [Nat.pow_add, Nat.mod_mul, Nat.mul_comm]
theorem lt_of_most {z : Nat → Int} {n k : Nat} {x : Nat} (hf : Fits z n) (hk : k < n) : x ≤ mostN (z k) ↔ x < 2 ^ wid z k := by
  have h1 := hf k hk
  have h2 : z k ≤ 64 := by have := h1.2; simp only [atK, wid] at this; omega
  have := most_mid (z k) h1.1 h2
  have := pow_pos2 (z k).toNat
  unfold wid
  omega
end Go.Proofs.Ytmpnbaiolmkhlaa
