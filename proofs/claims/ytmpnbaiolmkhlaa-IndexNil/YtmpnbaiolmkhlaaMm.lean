/- Plain arithmetic of numbers of keys (no Go in sight): exclusive or as a difference, the number of a list of bytes, powers of two up to 1024. -/
import Derived.Laws.BitsAllLaws
import Derived.Laws.BitsLemmas
import Derived.Test.YtmpnbaiolmkhlaaMa
namespace Go.Proofs.Ytmpnbaiolmkhlaa
set_option maxRecDepth 20000

theorem or_sub_and (a b : Nat) : (a ||| b) - (a &&& b) = a ^^^ b := by
  have h1 : (a ||| b) = (a ^^^ b) + (a &&& b) := by
    have key : ∀ n a b : Nat, a < 2 ^ n → b < 2 ^ n → (a ||| b) = (a ^^^ b) + (a &&& b) := by
      intro n
      induction n with
      | zero => intro a b ha hb; have : a = 0 := by simpa using ha
                have : b = 0 := by simpa using hb
                subst_vars; rfl
      | succ n ih =>
        intro a b ha hb
        have h := ih (a / 2) (b / 2) (by rw [Nat.pow_succ] at ha; omega) (by rw [Nat.pow_succ] at hb; omega)
        have o1 : (a ||| b) / 2 = a / 2 ||| b / 2 := Nat.or_div_two
        have o2 : (a ^^^ b) / 2 = a / 2 ^^^ b / 2 := Nat.xor_div_two
        have o3 : (a &&& b) / 2 = a / 2 &&& b / 2 := Nat.and_div_two
        have m1 : (a ||| b) % 2 = (a % 2 ||| b % 2) := by simpa using Nat.or_mod_two_pow (a := a) (b := b) (n := 1)
        have m2 : (a ^^^ b) % 2 = (a % 2 ^^^ b % 2) := by simpa using Nat.xor_mod_two_pow (a := a) (b := b) (n := 1)
        have m3 : (a &&& b) % 2 = (a % 2 &&& b % 2) := by simpa using Nat.and_mod_two_pow (a := a) (b := b) (n := 1)
        have q : (a % 2 ||| b % 2) = (a % 2 ^^^ b % 2) + (a % 2 &&& b % 2) := by
          rcases Nat.mod_two_eq_zero_or_one a with e | e <;> rcases Nat.mod_two_eq_zero_or_one b with f | f <;> rw [e, f] <;> rfl
        omega
    exact key (a + b) a b (Nat.lt_of_le_of_lt (Nat.le_add_right a b) Nat.lt_two_pow_self) (Nat.lt_of_le_of_lt (Nat.le_add_left b a) Nat.lt_two_pow_self)
  omega
theorem xor_lt64 {a b : Nat} (ha : a < 18446744073709551616) (hb : b < 18446744073709551616) : a ^^^ b < 18446744073709551616 :=
  Nat.xor_lt_two_pow (n := 64) ha hb
theorem and_le_or (a b : Nat) : a &&& b ≤ a ||| b := Nat.le_trans Nat.and_le_left Nat.left_le_or
/-- What the reference reckons for an exclusive or. -/
theorem turn_bits (a b : Nat) (ha : a < 18446744073709551616) (hb : b < 18446744073709551616) :
    IntKind.u64.wrap (bits .or .u64 (a : Int) (b : Int) - bits .and .u64 (a : Int) (b : Int)) = ((a ^^^ b : Nat) : Int) := by
  rw [u64_or_nat a b ha hb, u64_and_nat a b ha hb, IntKind.wrap_u64, ← or_sub_and]
  have h1 := and_le_or a b
  have h2 : a ||| b < 18446744073709551616 := Nat.or_lt_two_pow (n := 64) ha hb
  omega

def mul64 (a b : Nat) : Nat := a * b % 18446744073709551616
theorem mul64_lt (a b : Nat) : mul64 a b < 18446744073709551616 := Nat.mod_lt _ (by decide)
theorem wrap_mul64 (a b : Nat) : IntKind.u64.wrap ((a : Int) * (b : Int)) = (mul64 a b : Int) := by
  rw [IntKind.wrap_u64, ← Int.natCast_mul]; unfold mul64; omega
/-- The bytes go in one by one. -/
def hstep (h : Nat) (b : UInt8) : Nat := mul64 (h ^^^ b.toNat) 1099511628211
def hstart : Nat := 14695981039346656037
def hashL (l : List UInt8) : Nat := l.foldl hstep hstart
def foldN (h : Nat) : Nat := h ^^^ (h / 4294967296)
def finK (h : Nat) : Nat → Nat
  | 0 => h
  | k + 1 => mul64 (foldN (finK h k)) 15480190943371904987
def finN (h : Nat) : Nat := foldN (finK h 2)
def keyN (l : List UInt8) : Nat := finN (hashL l)
theorem foldl_snoc {α β : Type} (f : α → β → α) (s : α) (l : List β) (b : β) : List.foldl f s (l ++ [b]) = f (List.foldl f s l) b := by simp
theorem hashL_snoc (l : List UInt8) (b : UInt8) : hashL (l ++ [b]) = hstep (hashL l) b := foldl_snoc hstep hstart l b
theorem hashL_lt (l : List UInt8) : hashL l < 18446744073709551616 := by
  rcases List.eq_nil_or_concat l with h | ⟨l', b, h⟩
  · subst h; show hstart < 18446744073709551616; unfold hstart; omega
  · rw [h, List.concat_eq_append, hashL_snoc]; exact mul64_lt _ _
theorem foldN_lt {h : Nat} (hh : h < 18446744073709551616) : foldN h < 18446744073709551616 := xor_lt64 hh (by omega)
theorem finK_lt {h : Nat} (hh : h < 18446744073709551616) : ∀ k, finK h k < 18446744073709551616
  | 0 => hh
  | _ + 1 => mul64_lt _ _
theorem keyN_lt (l : List UInt8) : keyN l < 18446744073709551616 := foldN_lt (mul64_lt _ _)
theorem getN_high (h : Nat) (hh : h < 18446744073709551616) : getN h 32 32 = h / 4294967296 := by
  unfold getN
  rw [show (2 : Nat) ^ 32 = 4294967296 by decide]
  exact Nat.mod_eq_of_lt (by omega)
theorem getN_tag (h : Nat) (hh : h < 18446744073709551616) : getN h 50 14 = h / 1125899906842624 := by
  unfold getN
  rw [show (2 : Nat) ^ 50 = 1125899906842624 by decide, show (2 : Nat) ^ 14 = 16384 by decide]
  exact Nat.mod_eq_of_lt (by omega)
theorem key_ab : keyN [97] ≠ keyN [98] := by decide

/-- The powers of two up to 1024. -/
def powB (n : Int) : Bool := decide (∃ j : Nat, j < 11 ∧ n = ((2 ^ j : Nat) : Int))
theorem powB_true {n : Int} : powB n = true ↔ ∃ j : Nat, j < 11 ∧ n = ((2 ^ j : Nat) : Int) := by unfold powB; exact decide_eq_true_iff
theorem powB_range {n : Int} (h : powB n = true) : 1 ≤ n ∧ n ≤ 1024 := by
  obtain ⟨j, hj, rfl⟩ := powB_true.1 h
  have h1 := pow_pos2 j
  have h2 : 2 ^ j ≤ 2 ^ 10 := Nat.pow_le_pow_right (by decide) (by omega)
  have h3 : (2 : Nat) ^ 10 = 1024 := by decide
  omega
theorem i64_and_nat (a b : Nat) (ha : a < 9223372036854775808) (hb : b < 9223372036854775808) : bits .and .i64 (a : Int) (b : Int) = ((a &&& b : Nat) : Int) := by
  have hx : a &&& b < 9223372036854775808 := Nat.lt_of_le_of_lt Nat.and_le_left ha
  show IntKind.i64.wrap ((BitVec.ofInt 64 (a : Int) &&& BitVec.ofInt 64 (b : Int)).toNat : Int) = _
  rw [BitVec.toNat_and, ofInt_u64 a (by omega), ofInt_u64 b (by omega), IntKind.wrap_i64]
  omega
set_option maxRecDepth 20000 in
theorem pow_and : ∀ n : Nat, n < 1025 → 1 ≤ n → ((n &&& (n - 1) == 0) = decide (∃ j : Nat, j < 11 ∧ n = 2 ^ j)) := by decide
theorem may_bits (n : Int) (h1 : 1 ≤ n) (h2 : n ≤ 1024) : (bits .and .i64 n (n - 1) == 0) = powB n := by
  obtain ⟨N, rfl⟩ := Int.eq_ofNat_of_zero_le (show 0 ≤ n by omega)
  have h := pow_and N (by omega) (by omega)
  rw [show ((N : Int) - 1) = ((N - 1 : Nat) : Int) by omega, i64_and_nat _ _ (by omega) (by omega)]
  have e : powB (N : Int) = decide (∃ j : Nat, j < 11 ∧ N = 2 ^ j) := by
    unfold powB
    rw [decide_eq_decide]
    exact ⟨fun ⟨j, a, b⟩ => ⟨j, a, Int.ofNat.inj b⟩, fun ⟨j, a, b⟩ => ⟨j, a, by rw [b]⟩⟩
  rw [e, ← h, Bool.eq_iff_iff, beq_iff_eq, beq_iff_eq]
  omega
theorem powB_out (n : Int) (h : n < 1 ∨ 1024 < n) : powB n = false := by
  cases e : powB n
  · rfl
  · have := powB_range e; omega
end Go.Proofs.Ytmpnbaiolmkhlaa
