/- Parts of the proof: Mm Ms Ws Wt Wu Wy Fa Fb Fc Wr Fd. -/
import Derived.Test.YtfghfbmmaclcnaaGreatJ1
import Derived.Laws.BitsAllLaws
import Derived.Laws.BitsLemmas
import Derived.Shelf.Pu.Clone
import Derived.Shelf.Lay
import Derived.Ground.MpProg
import Derived.Laws.AppendOwnNone
namespace Go.Proofs.YtfghfbmmaclcnaaGreat
set_option maxRecDepth 20000

theorem or_sub_and (a b : Nat) : (a ||| b) - (a &&& b) = a ^^^ b := by
  have h1 : (a ||| b) = (a ^^^ b) + (a &&& b) := by
    have key : ∀ n a b : Nat, a < 2 ^ n → b < 2 ^ n → (a ||| b) = (a ^^^ b) + (a &&& b) := by
      intro n
      induction n with
      | zero => intro a b ha hb; have : a = 0 := by simpa using ha
                have : b = 0 := by simpa using hb
                subst_vars; rfl
      | succ n ih =>
        intro a b ha hb
        have h := ih (a / 2) (b / 2) (by rw [Nat.pow_succ] at ha; omega) (by rw [Nat.pow_succ] at hb; omega)
        have o1 : (a ||| b) / 2 = a / 2 ||| b / 2 := Nat.or_div_two
        have o2 : (a ^^^ b) / 2 = a / 2 ^^^ b / 2 := Nat.xor_div_two
        have o3 : (a &&& b) / 2 = a / 2 &&& b / 2 := Nat.and_div_two
        have m1 : (a ||| b) % 2 = (a % 2 ||| b % 2) := by simpa using Nat.or_mod_two_pow (a := a) (b := b) (n := 1)
        have m2 : (a ^^^ b) % 2 = (a % 2 ^^^ b % 2) := by simpa using Nat.xor_mod_two_pow (a := a) (b := b) (n := 1)
        have m3 : (a &&& b) % 2 = (a % 2 &&& b % 2) := by simpa using Nat.and_mod_two_pow (a := a) (b := b) (n := 1)
        have q : (a % 2 ||| b % 2) = (a % 2 ^^^ b % 2) + (a % 2 &&& b % 2) := by
          rcases Nat.mod_two_eq_zero_or_one a with e | e <;> rcases Nat.mod_two_eq_zero_or_one b with f | f <;> rw [e, f] <;> rfl
        omega
    exact key (a + b) a b (Nat.lt_of_le_of_lt (Nat.le_add_right a b) Nat.lt_two_pow_self) (Nat.lt_of_le_of_lt (Nat.le_add_left b a) Nat.lt_two_pow_self)
  omega
theorem xor_lt64 {a b : Nat} (ha : a < 18446744073709551616) (hb : b < 18446744073709551616) : a ^^^ b < 18446744073709551616 :=
  Nat.xor_lt_two_pow (n := 64) ha hb
theorem and_le_or (a b : Nat) : a &&& b ≤ a ||| b := Nat.le_trans Nat.and_le_left Nat.left_le_or
/-- What the reference reckons for an exclusive or. -/
theorem turn_bits (a b : Nat) (ha : a < 18446744073709551616) (hb : b < 18446744073709551616) :
    IntKind.u64.wrap (bits .or .u64 (a : Int) (b : Int) - bits .and .u64 (a : Int) (b : Int)) = ((a ^^^ b : Nat) : Int) := by
  rw [u64_or_nat a b ha hb, u64_and_nat a b ha hb, IntKind.wrap_u64, ← or_sub_and]
  have h1 := and_le_or a b
  have h2 : a ||| b < 18446744073709551616 := Nat.or_lt_two_pow (n := 64) ha hb
  omega

def mul64 (a b : Nat) : Nat := a * b % 18446744073709551616
theorem mul64_lt (a b : Nat) : mul64 a b < 18446744073709551616 := Nat.mod_lt _ (by decide)
theorem wrap_mul64 (a b : Nat) : IntKind.u64.wrap ((a : Int) * (b : Int)) = (mul64 a b : Int) := by
  rw [IntKind.wrap_u64, ← Int.natCast_mul]; unfold mul64; omega
/-- The bytes go in one by one. -/
def hstep (h : Nat) (b : UInt8) : Nat := mul64 (h ^^^ b.toNat) 1099511628211
def hstart : Nat := 14695981039346656037
def hashL (l : List UInt8) : Nat := l.foldl hstep hstart
def foldN (h : Nat) : Nat := h ^^^ (h / 4294967296)
def finK (h : Nat) : Nat → Nat
  | 0 => h
  | k + 1 => mul64 (foldN (finK h k)) 15480190943371904987
def finN (h : Nat) : Nat := foldN (finK h 2)
def keyN (l : List UInt8) : Nat := finN (hashL l)
theorem foldl_snoc {α β : Type} (f : α → β → α) (s : α) (l : List β) (b : β) : List.foldl f s (l ++ [b]) = f (List.foldl f s l) b := by simp
theorem hashL_snoc (l : List UInt8) (b : UInt8) : hashL (l ++ [b]) = hstep (hashL l) b := foldl_snoc hstep hstart l b
theorem hashL_lt (l : List UInt8) : hashL l < 18446744073709551616 := by
  rcases List.eq_nil_or_concat l with h | ⟨l', b, h⟩
  · subst h; show hstart < 18446744073709551616; unfold hstart; omega
  · rw [h, List.concat_eq_append, hashL_snoc]; exact mul64_lt _ _
theorem foldN_lt {h : Nat} (hh : h < 18446744073709551616) : foldN h < 18446744073709551616 := xor_lt64 hh (by omega)
theorem finK_lt {h : Nat} (hh : h < 18446744073709551616) : ∀ k, finK h k < 18446744073709551616
  | 0 => hh
  | _ + 1 => mul64_lt _ _
theorem keyN_lt (l : List UInt8) : keyN l < 18446744073709551616 := foldN_lt (mul64_lt _ _)
theorem getN_high (h : Nat) (hh : h < 18446744073709551616) : getN h 32 32 = h / 4294967296 := by
  unfold getN
  rw [show (2 : Nat) ^ 32 = 4294967296 by decide]
  exact Nat.mod_eq_of_lt (by omega)
theorem getN_tag (h : Nat) (hh : h < 18446744073709551616) : getN h 50 14 = h / 1125899906842624 := by
  unfold getN
  rw [show (2 : Nat) ^ 50 = 1125899906842624 by decide, show (2 : Nat) ^ 14 = 16384 by decide]
  exact Nat.mod_eq_of_lt (by omega)
theorem key_ab : keyN [97] ≠ keyN [98] := by decide

/-- The powers of two up to 1024. -/
def powB (n : Int) : Bool := decide (∃ j : Nat, j < 11 ∧ n = ((2 ^ j : Nat) : Int))
theorem powB_true {n : Int} : powB n = true ↔ ∃ j : Nat, j < 11 ∧ n = ((2 ^ j : Nat) : Int) := by unfold powB; exact decide_eq_true_iff
theorem powB_range {n : Int} (h : powB n = true) : 1 ≤ n ∧ n ≤ 1024 := by
  obtain ⟨j, hj, rfl⟩ := powB_true.1 h
  have h1 := pow_pos2 j
  have h2 : 2 ^ j ≤ 2 ^ 10 := Nat.pow_le_pow_right (by decide) (by omega)
  have h3 : (2 : Nat) ^ 10 = 1024 := by decide
  omega
theorem i64_and_nat (a b : Nat) (ha : a < 9223372036854775808) (hb : b < 9223372036854775808) : bits .and .i64 (a : Int) (b : Int) = ((a &&& b : Nat) : Int) := by
  have hx : a &&& b < 9223372036854775808 := Nat.lt_of_le_of_lt Nat.and_le_left ha
  show IntKind.i64.wrap ((BitVec.ofInt 64 (a : Int) &&& BitVec.ofInt 64 (b : Int)).toNat : Int) = _
  rw [BitVec.toNat_and, ofInt_u64 a (by omega), ofInt_u64 b (by omega), IntKind.wrap_i64]
  omega
set_option maxRecDepth 20000 in
theorem pow_and : ∀ n : Nat, n < 1025 → 1 ≤ n → ((n &&& (n - 1) == 0) = decide (∃ j : Nat, j < 11 ∧ n = 2 ^ j)) := by decide
theorem may_bits (n : Int) (h1 : 1 ≤ n) (h2 : n ≤ 1024) : (bits .and .i64 n (n - 1) == 0) = powB n := by
  obtain ⟨N, rfl⟩ := Int.eq_ofNat_of_zero_le (show 0 ≤ n by omega)
  have h := pow_and N (by omega) (by omega)
  rw [show ((N : Int) - 1) = ((N - 1 : Nat) : Int) by omega, i64_and_nat _ _ (by omega) (by omega)]
  have e : powB (N : Int) = decide (∃ j : Nat, j < 11 ∧ N = 2 ^ j) := by
    unfold powB
    rw [decide_eq_decide]
    exact ⟨fun ⟨j, a, b⟩ => ⟨j, a, Int.ofNat.inj b⟩, fun ⟨j, a, b⟩ => ⟨j, a, by rw [b]⟩⟩
  rw [e, ← h, Bool.eq_iff_iff, beq_iff_eq, beq_iff_eq]
  omega
theorem powB_out (n : Int) (h : n < 1 ∨ 1024 < n) : powB n = false := by
  cases e : powB n
  · rfl
  · have := powB_range e; omega
end Go.Proofs.YtfghfbmmaclcnaaGreat
namespace Go.Proofs.YtfghfbmmaclcnaaGreat
set_option maxRecDepth 20000

def turnP : Nat := 14514072000185962306
def onesN : Nat := 18446744073709551615
/-- A bit falls out. -/
def bitS (h : Nat) : Nat := (h / 2) ^^^ (h % 2 * turnP)
/-- k bits fall out. -/
def downK (h : Nat) : Nat → Nat
  | 0 => h
  | k + 1 => bitS (downK h k)
theorem turnP_lt : turnP < 18446744073709551616 := by unfold turnP; omega
theorem bitS_lt {h : Nat} (hh : h < 18446744073709551616) : bitS h < 18446744073709551616 := by
  have ht := turnP_lt
  unfold bitS
  refine xor_lt64 (by omega) ?_
  rcases Nat.mod_two_eq_zero_or_one h with e | e <;> rw [e] <;> omega
theorem downK_lt {h : Nat} (hh : h < 18446744073709551616) : ∀ k, downK h k < 18446744073709551616
  | 0 => hh
  | k + 1 => bitS_lt (downK_lt hh k)
theorem xor4 (a b c d : Nat) : (a ^^^ b) ^^^ (c ^^^ d) = (a ^^^ c) ^^^ (b ^^^ d) := by
  rw [Nat.xor_assoc, ← Nat.xor_assoc b, Nat.xor_comm b c, Nat.xor_assoc c, ← Nat.xor_assoc a]
theorem bitS_xor (a b : Nat) : bitS (a ^^^ b) = bitS a ^^^ bitS b := by
  unfold bitS
  generalize turnP = P
  have m2 : (a ^^^ b) % 2 = (a % 2 ^^^ b % 2) := by simpa using Nat.xor_mod_two_pow (a := a) (b := b) (n := 1)
  rw [Nat.xor_div_two, m2, xor4]
  congr 1
  rcases Nat.mod_two_eq_zero_or_one a with e | e <;> rcases Nat.mod_two_eq_zero_or_one b with f | f <;> rw [e, f] <;> simp
theorem downK_xor (a b : Nat) : ∀ k, downK (a ^^^ b) k = downK a k ^^^ downK b k
  | 0 => rfl
  | k + 1 => by show bitS (downK (a ^^^ b) k) = _; rw [downK_xor a b k, bitS_xor]; rfl
theorem downK_add (h a : Nat) : ∀ b, downK h (a + b) = downK (downK h a) b
  | 0 => rfl
  | b + 1 => by show bitS (downK h (a + b)) = _; rw [downK_add h a b]; rfl
theorem bitS_even (x : Nat) : bitS (2 * x) = x := by
  unfold bitS
  rw [show 2 * x / 2 = x by omega, show 2 * x % 2 = 0 by omega]; simp
theorem downK_mul (x : Nat) : ∀ k, downK (x * 2 ^ k) k = x := by
  intro k
  induction k generalizing x with
  | zero => simp [downK]
  | succ k ih =>
    show bitS (downK (x * 2 ^ (k + 1)) k) = x
    rw [show x * 2 ^ (k + 1) = 2 * x * 2 ^ k by rw [Nat.pow_succ]; ac_rfl, ih, bitS_even]
theorem xor_zero_eq {a b : Nat} (h : a ^^^ b = 0) : a = b := by
  have h2 : a ^^^ b ^^^ b = 0 ^^^ b := by rw [h]
  rwa [Nat.xor_assoc, Nat.xor_self, Nat.xor_zero, Nat.zero_xor] at h2
theorem bitS_zero {x : Nat} (hx : x < 18446744073709551616) (h : bitS x = 0) : x = 0 := by
  unfold bitS at h
  replace h := xor_zero_eq h
  unfold turnP at h
  rcases Nat.mod_two_eq_zero_or_one x with e | e <;> rw [e] at h <;> omega
theorem downK_zero {x : Nat} (hx : x < 18446744073709551616) : ∀ k, downK x k = 0 → x = 0
  | 0 => fun h => h
  | k + 1 => fun h => downK_zero hx k (bitS_zero (downK_lt hx k) h)
theorem zero_down : ∀ k, downK 0 k = 0
  | 0 => rfl
  | k + 1 => by show bitS (downK 0 k) = 0; rw [zero_down k]; exact bitS_even 0
theorem downK_inj {a b : Nat} (ha : a < 18446744073709551616) (hb : b < 18446744073709551616) (k : Nat) (h : downK a k = downK b k) : a = b := by
  refine xor_zero_eq (downK_zero (xor_lt64 ha hb) k ?_)
  rw [downK_xor, h, Nat.xor_self]

/-- The bytes go in one by one. -/
def byteS (h : Nat) (b : UInt8) : Nat := downK (h ^^^ b.toNat) 8
def regL (h : Nat) (l : List UInt8) : Nat := l.foldl byteS h
def notN (h : Nat) : Nat := onesN - h
def nextN (s : Nat) (l : List UInt8) : Nat := notN (regL (notN s) l)
def sumL (l : List UInt8) : Nat := nextN 0 l
theorem regL_snoc (h : Nat) (l : List UInt8) (b : UInt8) : regL h (l ++ [b]) = byteS (regL h l) b := foldl_snoc byteS h l b
theorem regL_append (h : Nat) (l m : List UInt8) : regL h (l ++ m) = regL (regL h l) m := List.foldl_append
theorem byteS_lt {h : Nat} (hh : h < 18446744073709551616) (b : UInt8) : byteS h b < 18446744073709551616 := by
  have := b.toNat_lt
  exact downK_lt (xor_lt64 hh (by omega)) 8
theorem regL_lt {h : Nat} (hh : h < 18446744073709551616) (l : List UInt8) : regL h l < 18446744073709551616 := by
  induction l generalizing h with
  | nil => exact hh
  | cons b l ih => exact ih (byteS_lt hh b)
theorem notN_lt (h : Nat) : notN h < 18446744073709551616 := by unfold notN onesN; omega
theorem notN_not {h : Nat} (hh : h < 18446744073709551616) : notN (notN h) = h := by unfold notN onesN; omega
theorem nextN_lt (s : Nat) (l : List UInt8) : nextN s l < 18446744073709551616 := notN_lt _
theorem sumL_lt (l : List UInt8) : sumL l < 18446744073709551616 := notN_lt _
/-- Reckoned in parts. -/
theorem next_sum (l m : List UInt8) : nextN (sumL l) m = sumL (l ++ m) := by
  unfold sumL nextN
  rw [notN_not (regL_lt (notN_lt _) l), regL_append]
theorem leN_xor (b : UInt8) (l : List UInt8) : leN (b :: l) = b.toNat ^^^ leN l * 2 ^ 8 := by
  have hb : b.toNat < 2 ^ 8 := b.toNat_lt
  rw [leN]
  generalize leN l = x
  apply Nat.eq_of_testBit_eq
  intro i
  rw [Nat.testBit_xor, show b.toNat + 256 * x = 2 ^ 8 * x + b.toNat by omega, Nat.testBit_two_pow_mul_add _ hb, Nat.mul_comm x, Nat.testBit_two_pow_mul]
  by_cases h : i < 8
  · simp [h, show ¬ 8 ≤ i by omega]
  · have hbi : b.toNat.testBit i = false := Nat.testBit_lt_two_pow (Nat.lt_of_lt_of_le hb (Nat.pow_le_pow_right (by decide) (by omega)))
    rw [if_neg h, hbi]
    simp [show 8 ≤ i by omega]
/-- All the bytes at once. -/
theorem regL_eq (l : List UInt8) : ∀ h, regL h l = downK (h ^^^ leN l) (8 * l.length) := by
  induction l with
  | nil => intro h; simp [regL, leN, downK]
  | cons b l ih =>
    intro h
    show regL (byteS h b) l = _
    rw [ih, List.length_cons, show 8 * (l.length + 1) = 8 + 8 * l.length by omega, downK_add, leN_xor, ← Nat.xor_assoc, downK_xor (h ^^^ b.toNat) (leN l * 2 ^ 8) 8, downK_mul]
    rfl
theorem xor_not {h : Nat} (hh : h < 18446744073709551616) : h ^^^ notN h = onesN := by
  have hh' : h < 2 ^ 64 := by rw [pow64]; exact hh
  apply Nat.eq_of_testBit_eq
  intro i
  have e1 : notN h = 2 ^ 64 - (h + 1) := by unfold notN onesN; omega
  have e2 : onesN = 2 ^ 64 - 1 := by unfold onesN; rw [pow64]
  rw [Nat.testBit_xor, e1, e2, Nat.testBit_two_pow_sub_succ hh', Nat.testBit_two_pow_sub_one]
  by_cases hi : i < 64
  · cases h.testBit i <;> simp [hi]
  · simp [hi, Nat.testBit_lt_two_pow (Nat.lt_of_lt_of_le hh' (Nat.pow_le_pow_right (by decide) (show 64 ≤ i by omega)))]
theorem onesN_lt : onesN < 18446744073709551616 := by unfold onesN; omega
theorem not_iff {h c : Nat} (hh : h < 18446744073709551616) : c = notN h ↔ h ^^^ c = onesN := by
  constructor
  · rintro rfl; exact xor_not hh
  · intro e
    have h1 := xor_not hh
    have h2 : h ^^^ (h ^^^ c) = h ^^^ (h ^^^ notN h) := by rw [e, h1]
    rwa [← Nat.xor_assoc, ← Nat.xor_assoc, Nat.xor_self, Nat.zero_xor, Nat.zero_xor] at h2
/-- May a text be opened (of 8 bytes or more)? -/
def Opens (l : List UInt8) : Prop := leN (l.drop (l.length - 8)) = sumL (l.take (l.length - 8))
theorem opens_iff (l : List UInt8) (h : 8 ≤ l.length) : Opens l ↔ downK (onesN ^^^ leN l) (8 * l.length) = downK onesN 64 := by
  have e := regL_eq l onesN
  rw [← e]
  have hl : (l.drop (l.length - 8)).length = 8 := by rw [List.length_drop]; omega
  have e2 : regL onesN l = downK (regL onesN (l.take (l.length - 8)) ^^^ leN (l.drop (l.length - 8))) 64 := by
    have h1 : regL onesN l = regL onesN (l.take (l.length - 8) ++ l.drop (l.length - 8)) := by rw [List.take_append_drop]
    rw [h1, regL_append, regL_eq (l.drop (l.length - 8)), hl]
  have hr := regL_lt onesN_lt (l.take (l.length - 8))
  have hc : leN (l.drop (l.length - 8)) < 18446744073709551616 := by
    have := leN_lt (l.drop (l.length - 8))
    rw [hl, pow256, pow64] at this; exact this
  rw [e2]
  show _ = notN (regL onesN (l.take (l.length - 8))) ↔ _
  rw [not_iff hr]
  exact ⟨fun h => by rw [h], fun h => downK_inj (xor_lt64 hr hc) onesN_lt 64 h⟩
/-- Turned bits within 64 in a row are found. -/
theorem burst (l l' : List UInt8) (p a : Nat) (h8 : 8 ≤ l.length) (hl : l'.length = l.length) (hp : p < 18446744073709551616) (ha : a ≤ 8 * l.length) (he : leN l' = leN l ^^^ p * 2 ^ a) (ho : Opens l) : Opens l' ↔ p = 0 := by
  rw [opens_iff l' (by omega), hl, he, ← Nat.xor_assoc, downK_xor, (opens_iff l h8).1 ho]
  have e : downK (p * 2 ^ a) (8 * l.length) = downK p (8 * l.length - a) := by
    rw [show 8 * l.length = a + (8 * l.length - a) by omega, downK_add, downK_mul, show a + (8 * l.length - a) - a = 8 * l.length - a by omega]
  rw [e]
  constructor
  · intro h
    refine downK_zero hp (8 * l.length - a) ?_
    have h2 : downK onesN 64 ^^^ (downK onesN 64 ^^^ downK p (8 * l.length - a)) = downK onesN 64 ^^^ downK onesN 64 := by rw [h]
    rwa [← Nat.xor_assoc, Nat.xor_self, Nat.zero_xor] at h2
  · rintro rfl
    rw [zero_down, Nat.xor_zero]
/-- A word's eight bytes, the lowest first. -/
def bytes8 (x : Nat) : List UInt8 := bytesL (fun _ => x) 8
theorem bytes8_length (x : Nat) : (bytes8 x).length = 8 := bytesL_length _ _
theorem leN_bytes8 {x : Nat} (hx : x < 18446744073709551616) : leN (bytes8 x) = x := by
  have h := (words_of_bytes (fun _ => x) 8 1 (fun _ _ => hx)).2 (fun i h1 h2 => by omega) 0 (by omega)
  unfold wordAt at h
  rw [List.drop_zero, List.take_of_length_le (by rw [bytesL_length]; omega)] at h
  exact h
def sealL (l : List UInt8) : List UInt8 := l ++ bytes8 (sumL l)
theorem sealL_length (l : List UInt8) : (sealL l).length = l.length + 8 := by unfold sealL; rw [List.length_append, bytes8_length]
theorem seal_take (l : List UInt8) : (sealL l).take ((sealL l).length - 8) = l := by
  rw [sealL_length, Nat.add_sub_cancel]; exact List.take_left' rfl
theorem seal_drop (l : List UInt8) : (sealL l).drop ((sealL l).length - 8) = bytes8 (sumL l) := by
  rw [sealL_length, Nat.add_sub_cancel]; exact List.drop_left' rfl
theorem seal_opens (l : List UInt8) : Opens (sealL l) := by
  unfold Opens
  rw [seal_take, seal_drop, leN_bytes8 (sumL_lt l)]
theorem leN_inj : ∀ (l m : List UInt8), l.length = m.length → leN l = leN m → l = m
  | [], [], _, _ => rfl
  | [], _ :: _, h, _ => by simp at h
  | _ :: _, [], h, _ => by simp at h
  | b :: l, c :: m, h, e => by
    have hb := b.toNat_lt
    have hc := c.toNat_lt
    simp only [leN] at e
    have e1 : b.toNat = c.toNat := by omega
    rw [leN_inj l m (by simpa using h) (by omega), UInt8.toNat_inj.1 e1]
/-- A text that opens is a seal. -/
theorem opens_seal (l : List UInt8) (h8 : 8 ≤ l.length) (h : Opens l) : sealL (l.take (l.length - 8)) = l := by
  unfold sealL
  rw [show bytes8 (sumL (l.take (l.length - 8))) = l.drop (l.length - 8) from leN_inj _ _ (by rw [bytes8_length, List.length_drop]; omega) (by rw [leN_bytes8 (sumL_lt _)]; exact h.symm), List.take_append_drop]
/-- A bit is turned. -/
theorem leN_turn (l : List UInt8) (r : Nat) (hr : r < 8) : ∀ (j : Nat) (b : UInt8), l[j]? = some b → leN (l.set j (UInt8.ofNat (b.toNat ^^^ 2 ^ r))) = leN l ^^^ 2 ^ (8 * j + r) := by
  induction l with
  | nil => intro j b h; simp at h
  | cons c l ih =>
    intro j b h
    cases j with
    | zero =>
      have e : c = b := by simpa using h
      subst e
      have hc : c.toNat < 2 ^ 8 := c.toNat_lt
      have hx : c.toNat ^^^ 2 ^ r < 2 ^ 8 := Nat.xor_lt_two_pow hc (Nat.pow_lt_pow_right (by decide) hr)
      rw [List.set_cons_zero, leN_xor, leN_xor, ofNat_toNat hx, Nat.mul_zero, Nat.zero_add, Nat.xor_assoc, Nat.xor_assoc, Nat.xor_comm (2 ^ r)]
    | succ j =>
      have e := ih j b (by simpa using h)
      rw [List.set_cons_succ, leN_xor, leN_xor, e, Nat.xor_assoc]
      congr 1
      apply Nat.eq_of_testBit_eq
      intro i
      rw [Nat.testBit_xor, Nat.mul_comm _ (2 ^ 8), Nat.mul_comm _ (2 ^ 8), Nat.testBit_two_pow_mul, Nat.testBit_two_pow_mul, Nat.testBit_xor, Nat.testBit_two_pow, Nat.testBit_two_pow]
      by_cases hi : 8 ≤ i
      · have : (decide (8 * j + r = i - 8)) = decide (8 * (j + 1) + r = i) := by rw [decide_eq_decide]; omega
        simp [hi, this]
      · have : decide (8 * (j + 1) + r = i) = false := by rw [decide_eq_false_iff_not]; omega
        simp [hi, this]
/-- The turned bits so far, and one more. -/
theorem pat_one (p k a : Nat) (h : p / 2 ^ k % 2 = 1) : p % 2 ^ k * 2 ^ a ^^^ 2 ^ (a + k) = p % 2 ^ (k + 1) * 2 ^ a := by
  apply Nat.eq_of_testBit_eq
  intro i
  rw [Nat.testBit_xor, Nat.mul_comm _ (2 ^ a), Nat.mul_comm _ (2 ^ a), Nat.testBit_two_pow_mul, Nat.testBit_two_pow_mul, Nat.testBit_two_pow, Nat.testBit_mod_two_pow, Nat.testBit_mod_two_pow]
  have hb : p.testBit k = true := by rw [Nat.testBit_eq_decide_div_mod_eq, h]; rfl
  by_cases h1 : a ≤ i
  · by_cases h2 : a + k = i
    · subst h2; simp [hb]
    · have e : decide (i - a < k) = decide (i - a < k + 1) := by rw [decide_eq_decide]; omega
      simp [h1, h2, e]
  · simp [h1]; omega
theorem pat_zero (p k : Nat) (h : p / 2 ^ k % 2 = 0) : p % 2 ^ (k + 1) = p % 2 ^ k := by
  rw [Nat.pow_succ, Nat.mod_mul, h]; simp
theorem pat_some (p k : Nat) (h : p / 2 ^ k % 2 = 1) : p % 2 ^ (k + 1) ≠ 0 := by
  rw [Nat.pow_succ, Nat.mod_mul, h]
  have := pow_pos2 k
  omega
theorem pat_lt (p k : Nat) (hp : p < 18446744073709551616) : p % 2 ^ k < 18446744073709551616 := Nat.lt_of_le_of_lt (Nat.mod_le _ _) hp
theorem sum_example : sumL [49, 50, 51, 52, 53, 54, 55, 56, 57] = 11051210869376104954 := by
  show notN (byteS (byteS (byteS (byteS (byteS (byteS (byteS (byteS (byteS (notN 0) 49) 50) 51) 52) 53) 54) 55) 56) 57) = _
  rw [show notN 0 = 18446744073709551615 by decide, show byteS 18446744073709551615 49 = 15407079833324893458 by decide +kernel,
    show byteS 15407079833324893458 50 = 18150230534629729959 by decide +kernel,
    show byteS 18150230534629729959 51 = 14978083663061924510 by decide +kernel,
    show byteS 14978083663061924510 52 = 3580775586559638743 by decide +kernel,
    show byteS 3580775586559638743 53 = 11698303443272442646 by decide +kernel,
    show byteS 11698303443272442646 54 = 18128425328362403633 by decide +kernel,
    show byteS 18128425328362403633 55 = 10353600487410745951 by decide +kernel,
    show byteS 10353600487410745951 56 = 11778179352998676470 by decide +kernel,
    show byteS 11778179352998676470 57 = 7395533204333446661 by decide +kernel]
  decide
end Go.Proofs.YtfghfbmmaclcnaaGreat
namespace Go.Proofs.YtfghfbmmaclcnaaGreat
set_option maxRecDepth 20000
open Go.RowKit

theorem not_bits (h : Nat) (hh : h < 18446744073709551616) : bits .xor .u64 IntKind.u64.max (h : Int) = (notN h : Int) := by
  have e := u64_xor_nat onesN h onesN_lt hh
  have x := xor_not hh
  have : onesN ^^^ h = notN h := by rw [← x, Nat.xor_comm h, Nat.xor_assoc, Nat.xor_self, Nat.xor_zero]
  rw [this] at e
  exact e
theorem bit_bits (x : Nat) (hx : x < 18446744073709551616) : bits .xor .u64 ((x : Int) / 2) (IntKind.u64.wrap (bits .and .u64 (x : Int) 1 * 14514072000185962306)) = (bitS x : Int) := by
  have ha : bits .and .u64 (x : Int) 1 = ((x % 2 : Nat) : Int) := by
    have := u64_and_nat x 1 hx (by omega)
    rw [Nat.and_one_is_mod] at this
    exact this
  have hm : IntKind.u64.wrap (((x % 2 : Nat) : Int) * 14514072000185962306) = ((x % 2 * turnP : Nat) : Int) := by
    rw [IntKind.wrap_u64]; unfold turnP
    rcases Nat.mod_two_eq_zero_or_one x with e | e <;> rw [e] <;> omega
  have hd : ((x : Int) / 2) = ((x / 2 : Nat) : Int) := by omega
  have hl : x % 2 * turnP < 18446744073709551616 := by
    have := turnP_lt
    rcases Nat.mod_two_eq_zero_or_one x with e | e <;> rw [e] <;> omega
  rw [ha, hm, hd, u64_xor_nat _ _ (by omega) hl]
  rfl
set_option maxHeartbeats 400000 in
theorem down_any (h : Nat) (w : World) (hh : h < 18446744073709551616) :
    Calls Tryz.prog 230 #[.int .u64 (h : Int)] w fun e w' => e = .returned (.int .u64 (downK h 8 : Int)) ∧ w' = w := by
  go_enter Tryz.func230, Tryz.ntmps230
  go_wp2
  go_loop [0, 3] (fun x i => ∃ k : Nat, k ≤ 8 ∧ i = .int .i64 k ∧ x = .int .u64 (downK h k : Int)) (fun _ i => 8 - (intOf i).toNat)
  case atStart => exact ⟨0, by omega, rfl, rfl⟩
  case round =>
    obtain ⟨k, hk, rfl, rfl⟩ := hrel
    have hl := downK_lt hh k
    by_cases hlt : k < 8
    · obtain ⟨y, HY⟩ : ∃ y, Hid (y = downK h (k + 1)) := ⟨_, rfl⟩
      have M : Hid (bits .xor .u64 ((downK h k : Int) / 2) (IntKind.u64.wrap (bits .and .u64 (downK h k : Int) 1 * 14514072000185962306)) = (y : Int)) := by
        rw [HY.out]; exact bit_bits _ hl
      generalize downK h k = x at *
      go_wp2
      rw [M.out]
      go_round
      case rel => exact ⟨k + 1, by omega, by go_num, by rw [HY.out]⟩
      case measure => simp [intOf]; omega
    · have e : k = 8 := by omega
      subst e
      go_wp2
      go_ret
      exact ⟨rfl, rfl⟩
set_option maxHeartbeats 800000 in
theorem next_any (h : Nat) (s : ByteArray) (w : World) (hh : h < 18446744073709551616) (hs : s.size ≤ 1000000000) :
    Calls Tryz.prog 223 #[.int .u64 (h : Int), .string s] w fun e w' => e = .returned (.int .u64 (nextN h s.data.toList : Int)) ∧ w' = w := by
  have hsg : IntKind.u64.signed = false := rfl
  have N := hide (not_bits h hh)
  have hn := notN_lt h
  have HE : Hid (notN (regL (notN h) (s.data.toList.take s.size)) = nextN h s.data.toList) := by
    unfold Hid nextN; rw [List.take_of_length_le (by simp)]
  go_enter Tryz.func223, Tryz.ntmps223
  go_wp2
  rw [N.out]
  generalize notN h = z at *
  clear N
  go_loop [5, 11] (fun x i => ∃ k : Nat, k ≤ s.size ∧ i = .int .i64 k ∧ x = .int .u64 (regL z (s.data.toList.take k) : Int)) (fun _ i => s.size - (intOf i).toNat)
  case atStart => exact ⟨0, by omega, rfl, rfl⟩
  case round =>
    obtain ⟨k, hk, rfl, rfl⟩ := hrel
    have hl := regL_lt hn (s.data.toList.take k)
    by_cases hlt : k < s.size
    · obtain ⟨y, HY⟩ : ∃ y, Hid (y = regL z (s.data.toList.take (k + 1))) := ⟨_, rfl⟩
      have hby := (s[k]).toNat_lt
      have HB := hide (u64_xor_nat _ (s[k]).toNat hl (by omega))
      have hx := xor_lt64 hl (show (s[k]).toNat < 18446744073709551616 by omega)
      have M : Hid (downK (regL z (s.data.toList.take k) ^^^ (s[k]).toNat) 8 = y) := by
        rw [HY.out, take_snoc s k hlt, regL_snoc]; rfl
      generalize regL z (s.data.toList.take k) = x at *
      go_wp2_with fail
      rw [HB.out]
      refine (down_any _ _ hx).mono ?_
      rintro e w2 ⟨rfl, rfl⟩
      rw [M.out]
      go_wp2
      go_round
      case rel => exact ⟨k + 1, by omega, by go_num, by rw [HY.out]⟩
      case measure => simp [intOf]; omega
    · have e : k = s.size := by omega
      subst e
      have N2 := hide (not_bits _ hl)
      generalize regL z (s.data.toList.take s.size) = x at *
      go_wp2
      go_ret
      exact ⟨ret_int (by rw [N2.out, HE.out]), rfl⟩
set_option maxHeartbeats 400000 in
theorem sum_any (s : ByteArray) (w : World) (hs : s.size ≤ 1000000000) :
    Calls Tryz.prog 205 #[.string s] w fun e w' => e = .returned (.int .u64 (sumL s.data.toList : Int)) ∧ w' = w := by
  go_enter Tryz.func205, Tryz.ntmps205
  go_wp2_with fail
  refine (next_any 0 _ _ (by omega) hs).mono ?_
  rintro e w2 ⟨rfl, rfl⟩
  go_wp2
  go_ret
  exact ⟨rfl, rfl⟩
set_option maxHeartbeats 400000 in
theorem turned_any (a b : Nat) (w : World) (ha : a < 18446744073709551616) (hb : b < 18446744073709551616) :
    Calls Tryz.prog 228 #[.int .u64 (a : Int), .int .u64 (b : Int)] w fun e w' => e = .returned (.int .u64 ((a ^^^ b : Nat) : Int)) ∧ w' = w := by
  have H := hide (turn_bits a b ha hb)
  go_enter Tryz.func228, Tryz.ntmps228
  go_wp2
  go_ret
  exact ⟨ret_int H.out, rfl⟩
theorem turned_P (a : Nat) (w : World) (ha : a < 18446744073709551616) :
    Calls Tryz.prog 228 #[.int .u64 (a : Int), .int .u64 14514072000185962306] w fun e w' => e = .returned (.int .u64 ((a ^^^ turnP : Nat) : Int)) ∧ w' = w :=
  turned_any a turnP w ha turnP_lt
theorem bitS_0 {x : Nat} (h : x % 2 = 0) : x / 2 = bitS x := by unfold bitS; rw [h]; simp
theorem bitS_1 {x : Nat} (h : x % 2 = 1) : x / 2 ^^^ turnP = bitS x := by unfold bitS; rw [h, Nat.one_mul]
set_option maxHeartbeats 800000 in
theorem rsum_any (s : ByteArray) (w : World) (hs : s.size ≤ 1000000000) :
    Calls Tryz.prog 213 #[.string s] w fun e w' => e = .returned (.int .u64 (sumL s.data.toList : Int)) ∧ w' = w := by
  have HE : Hid (notN (regL onesN (s.data.toList.take s.size)) = sumL s.data.toList) := by
    unfold Hid sumL nextN; rw [List.take_of_length_le (by simp)]; rfl
  go_enter Tryz.func213, Tryz.ntmps213
  go_wp2
  go_loop [3, 4] (fun x i => ∃ k : Nat, k ≤ s.size ∧ i = .int .i64 k ∧ x = .int .u64 (regL onesN (s.data.toList.take k) : Int)) (fun _ i => s.size - (intOf i).toNat)
  case atStart => exact ⟨0, by omega, rfl, rfl⟩
  case round =>
    obtain ⟨k, hk, rfl, rfl⟩ := hrel
    have hl := regL_lt onesN_lt (s.data.toList.take k)
    by_cases hlt : k < s.size
    · obtain ⟨y, HY⟩ : ∃ y, Hid (y = regL onesN (s.data.toList.take (k + 1))) := ⟨_, rfl⟩
      have hby := (s[k]).toNat_lt
      have hx := xor_lt64 hl (show (s[k]).toNat < 18446744073709551616 by omega)
      have M : Hid (downK (regL onesN (s.data.toList.take k) ^^^ (s[k]).toNat) 8 = y) := by
        rw [HY.out, take_snoc s k hlt, regL_snoc]; rfl
      generalize regL onesN (s.data.toList.take k) = x at *
      go_wp2_with fail
      refine (turned_any _ _ _ hl (by omega)).mono ?_
      rintro e w2 ⟨rfl, rfl⟩
      generalize x ^^^ (s[k]).toNat = z at *
      clear hl
      go_wp2
      go_loop [3, 5] (fun x i => ∃ j : Nat, j ≤ 8 ∧ i = .int .i64 j ∧ x = .int .u64 (downK z j : Int)) (fun _ i => 8 - (intOf i).toNat)
      case atStart => exact ⟨0, by omega, rfl, rfl⟩
      case round =>
        obtain ⟨j, hj, rfl, rfl⟩ := hrel
        have hl := downK_lt hx j
        by_cases hj8 : j < 8
        · obtain ⟨q, HQ⟩ : ∃ q, Hid (q = downK z (j + 1)) := ⟨_, rfl⟩
          have HB : Hid (q = bitS (downK z j)) := HQ.out
          generalize downK z j = v at *
          rcases Nat.mod_two_eq_zero_or_one v with e | e
          · have HZ : Hid (v / 2 = q) := (bitS_0 e).trans HB.out.symm
            go_wp2
            go_round
            case rel => exact ⟨j + 1, by omega, by go_num, by rw [← HQ.out, ← HZ.out]; go_num⟩
            case measure => simp [intOf]; omega
          · have HZ : Hid (v / 2 ^^^ turnP = q) := (bitS_1 e).trans HB.out.symm
            go_wp2_with fail
            rw [show ((v : Int) / 2) = ((v / 2 : Nat) : Int) by omega]
            refine (turned_P _ _ (by omega)).mono ?_
            rintro e w2 ⟨rfl, rfl⟩
            rw [HZ.out]
            go_wp2
            go_round
            case rel => exact ⟨j + 1, by omega, by go_num, by rw [← HQ.out]⟩
            case measure => simp [intOf]; omega
        · have e : j = 8 := by omega
          subst e
          rw [M.out] at hl ⊢
          go_wp2
          go_round
          case rel => exact ⟨k + 1, by omega, by go_num, by rw [HY.out]⟩
          case measure => simp [intOf]; omega
    · have e : k = s.size := by omega
      subst e
      generalize regL onesN (s.data.toList.take s.size) = x at *
      go_wp2
      go_ret
      exact ⟨ret_int (by rw [← HE.out]; unfold notN onesN; omega), rfl⟩
end Go.Proofs.YtfghfbmmaclcnaaGreat
namespace Go.Proofs.YtfghfbmmaclcnaaGreat
set_option maxRecDepth 20000
open Go.RowKit

set_option maxHeartbeats 400000 in
theorem seal_any (s : ByteArray) (w : World) (hs : s.size ≤ 1000000) :
    Calls Tryz.prog 154 #[.string s] w fun e w' => e = .returned (.string (strL (sealL s.data.toList))) ∧ Below w.heap.size w w' := by
  have HA : Hid (s ++ (⟨(bytesL (fun _ => sumL s.data.toList) 8).toArray⟩ : ByteArray) = strL (sealL s.data.toList)) := str_append s (bytes8 (sumL s.data.toList))
  go_enter Tryz.func154, Tryz.ntmps154
  go_wp2_with fail
  refine (sum_any _ _ (by omega)).mono ?_
  rintro e w1 ⟨rfl, rfl⟩
  have SL := hide (sl_one w1 32 (sumL s.data.toList))
  generalize sumL s.data.toList = x at *
  have b1 : Below w1.heap.size w1 (w1.alloc (.cells #[.int .u64 (x : Int)] 32)) := (Below.refl _ _).alloc (Nat.le_refl _) _
  go_wp2_with fail
  refine (bytes_ok _ 1 1 8 (fun _ => x) _ (by omega) SL.out (by decide) (fun i h1 h2 => by omega)).mono ?_
  rintro e w2 ⟨rfl, b2⟩
  replace b2 := b1.trans (b2.mono b1.size)
  have hsz : (⟨(bytesL (fun _ => x) 8).toArray⟩ : ByteArray).size = 8 := by show (bytesL (fun _ => x) 8).toArray.size = 8; simp [bytesL_length]
  generalize (⟨(bytesL (fun _ => x) 8).toArray⟩ : ByteArray) = T at *
  go_wp2
  go_ret
  exact ⟨ret_str HA.out, b2⟩
set_option maxHeartbeats 800000 in
theorem rseal_any (s : ByteArray) (w : World) (hs : s.size ≤ 1000000000) :
    Calls Tryz.prog 183 #[.string s] w fun e w' => e = .returned (.string (strL (sealL s.data.toList))) ∧ Below w.heap.size w w' := by
  have HE : Hid (strL (s.data.toList ++ bytesL (fun _ => sumL s.data.toList) 8) = strL (sealL s.data.toList)) := rfl
  have hl := sumL_lt s.data.toList
  go_enter Tryz.func183, Tryz.ntmps183
  go_wp2_with fail
  refine (rsum_any _ _ hs).mono ?_
  rintro e x1 ⟨rfl, rfl⟩
  generalize sumL s.data.toList = S at *
  go_wp2
  go_loopw [0, 3, 4] (fun x y i wr => ∃ k : Nat, k ≤ 8 ∧ i = .int .i64 k ∧ y = .int .u64 ((S / 2 ^ (8 * k) : Nat) : Int) ∧ x = .string (strL (s.data.toList ++ bytesL (fun _ => S) k)) ∧ Below x1.heap.size x1 wr) (fun _ _ i _ => 8 - (intOf i).toNat)
  case atStart => exact ⟨0, by omega, rfl, by simp, by simp [bytesL, strL], Below.refl _ _⟩
  case round =>
    obtain ⟨k, hk, rfl, rfl, rfl, b1⟩ := hrel
    by_cases hlt : k < 8
    · obtain ⟨n, HN⟩ : ∃ n, Hid (n = S / 2 ^ (8 * k)) := ⟨_, rfl⟩
      obtain ⟨t, HT⟩ : ∃ t, Hid (t = strL (s.data.toList ++ bytesL (fun _ => S) k)) := ⟨_, rfl⟩
      have hn : n < 18446744073709551616 := by rw [HN.out]; exact Nat.lt_of_le_of_lt (Nat.div_le_self _ _) hl
      have HN2 : Hid (n / 256 = S / 2 ^ (8 * (k + 1))) := by rw [HN.out]; exact div_byte S k
      have HT2 : Hid (t ++ (⟨[UInt8.ofNat (n % 256)].toArray⟩ : ByteArray) = strL (s.data.toList ++ bytesL (fun _ => S) (k + 1))) := by
        unfold Hid
        rw [str_append, HT.out, strL_toList, bytesL_succ, byteAt_one S k hlt, HN.out, List.append_assoc]
      have hts : t.size ≤ 1000000008 := by
        rw [HT.out, strL_size, List.length_append, bytesL_length, show s.data.toList.length = s.size by simp]; omega
      have hcat : ¬ 9223372036854775807 < t.size + 1 := by omega
      rw [← HN.out, ← HT.out]
      have kc := run_convert_bytes_back (P := Tryz.prog) (wr.alloc (.cells #[.int .u8 ((n : Int) % 256)] 5)) 252 9 5 ⟨wr.heap.size, 0, none⟩ 1 [UInt8.ofNat (n % 256)] Tryz.underlying252 Tryz.underlying5 Tryz.underlying9 (fun j hj => by
        have hj' : j = 0 := by simpa using hj
        subst hj'
        rw [Go.WideShapes.add_plain, World.cell?_alloc_new]
        have := ofNat_toNat (show n % 256 < 256 by omega)
        simp [this])
      simp only [List.length_singleton] at kc
      have b2 : Below x1.heap.size x1 (wr.alloc (.cells #[.int .u8 ((n : Int) % 256)] 5)) := b1.alloc b1.size _
      go_wp2
      go_roundw
      case rel => exact ⟨k + 1, by omega, by go_num, by rw [← HN2.out]; go_num, by rw [← HT2.out], b2⟩
      case measure => simp [intOf]; omega
    · have e : k = 8 := by omega
      subst e
      go_wp2
      go_ret
      exact ⟨ret_str HE.out, b1⟩
end Go.Proofs.YtfghfbmmaclcnaaGreat
namespace Go.Proofs
set_option maxRecDepth 20000
open Go.Shelf
shelf_lay LaysPu.n25 Mp 25 at Tryz as Tryz.laysPu25
end Go.Proofs
namespace Go.Proofs.YtfghfbmmaclcnaaGreat
open Go.RowKit
set_option maxHeartbeats 400000 in
theorem clone_any (s : ByteArray) (w : World) (hs : s.size ≤ 1000000000) :
    Calls Tryz.prog 206 #[.string s] w fun e w' => e = .returned (.string s) ∧ Below w.heap.size w w' := by
  go_enter Tryz.func206, Tryz.ntmps206
  go_wp2_with fail
  refine (AnyPu.stringslite_Clone Tryz.laysPu25 s _ (by omega)).mono ?_
  rintro e w1 ⟨rfl, b1⟩
  go_wp2
  go_ret
  exact ⟨rfl, b1⟩
theorem words8 (t : ByteArray) (w : World) (h : t.size = 8) :
    Calls Tryz.prog 146 #[.string t] w fun e w' => ∃ g, e = .returned (.slice (some ⟨g, 0, none⟩) 1 1) ∧ w'.cell? ⟨g, 0, none⟩ = some (.int .u64 (leN t.data.toList : Int)) ∧ Below w.heap.size w w' := by
  have hw := words_any t w (by omega)
  rw [h, show wordsFor 8 = 1 by decide] at hw
  refine hw.mono ?_
  rintro e w' ⟨g, rfl, ho, b⟩
  refine ⟨g, rfl, ?_, b⟩
  have hc := own_cellsU ho (wordsL_length _ _) 0 (by omega)
  rw [wordsL_get _ _ _ (by omega)] at hc
  rw [hc]
  have : wordAt t.data.toList 0 = leN t.data.toList := by
    unfold wordAt
    rw [List.drop_zero, List.take_of_length_le (by rw [show t.data.toList.length = t.size by simp]; omega)]
  simp [this]
set_option maxHeartbeats 400000 in
theorem open_short (s : ByteArray) (w : World) (h : s.size < 8) :
    Calls Tryz.prog 145 #[.string s] w fun e w' => e = .returned (.tuple #[.string ⟨#[]⟩, .int .i64 3]) ∧ w' = w := by
  go_enter Tryz.func145, Tryz.ntmps145
  go_wp2
  go_ret2
  exact ⟨rfl, rfl⟩
set_option maxHeartbeats 1000000 in
theorem open_form (s : ByteArray) (w : World) (hs : s.size ≤ 1000000) (N : Nat) (hN : s.size = N + 8) (x y : Nat) (hx : leN (s.extract N s.size).data.toList = x) (hy : sumL (s.extract 0 N).data.toList = y) (hxy : x ≠ y) :
    Calls Tryz.prog 145 #[.string s] w fun e w' => e = .returned (.tuple #[.string ⟨#[]⟩, .int .i64 4]) ∧ Below w.heap.size w w' := by
  have H0 : Hid ((s.size : Int) - 8 = (N : Int)) := by unfold Hid; omega
  have s1 : (s.extract 0 N).size ≤ 1000000 := by rw [ByteArray.size_extract]; omega
  have s2 : (s.extract N s.size).size = 8 := by rw [ByteArray.size_extract]; omega
  have hle : N ≤ s.size := by omega
  have hne : ((x : Int) != (y : Int)) = true := by rw [bne_iff_ne]; omega
  have h8 : 8 ≤ s.size := by omega
  have HX := hide hx
  have HY := hide hy
  clear hN hx hy hxy
  go_enter Tryz.func145, Tryz.ntmps145
  go_wp2_with fail
  rw [H0.out]
  go_region_with (first | (go_at_call 146; refine (words8 _ _ s2).mono ?_; rintro e w1 ⟨g, rfl, hc, b1⟩; rw [HX.out] at hc) | (go_at_call 205; refine (sum_any _ _ (Nat.le_trans s1 (by decide))).mono ?_; rintro e w2 ⟨rfl, rfl⟩; rw [HY.out]))
  all_goals
    go_wp2
    go_ret2
    exact ⟨rfl, (Below.drew (Below.refl _ w)).trans b1⟩
set_option maxHeartbeats 1000000 in
theorem open_ok (s : ByteArray) (w : World) (hs : s.size ≤ 1000000) (N : Nat) (hN : s.size = N + 8) (x : Nat) (hx : leN (s.extract N s.size).data.toList = x) (hy : sumL (s.extract 0 N).data.toList = x) :
    Calls Tryz.prog 145 #[.string s] w fun e w' => e = .returned (.tuple #[.string (s.extract 0 N), .int .i64 0]) ∧ Below w.heap.size w w' := by
  have H0 : Hid ((s.size : Int) - 8 = (N : Int)) := by unfold Hid; omega
  have s1 : (s.extract 0 N).size ≤ 1000000 := by rw [ByteArray.size_extract]; omega
  have s2 : (s.extract N s.size).size = 8 := by rw [ByteArray.size_extract]; omega
  have hle : N ≤ s.size := by omega
  have hne : ((x : Int) != (x : Int)) = false := by simp
  have h8 : 8 ≤ s.size := by omega
  have HX := hide hx
  have HY := hide hy
  clear hN hx hy
  go_enter Tryz.func145, Tryz.ntmps145
  go_wp2_with fail
  rw [H0.out]
  go_region_with (first | (go_at_call 146; refine (words8 _ _ s2).mono ?_; rintro e w1 ⟨g, rfl, hc, b1⟩; rw [HX.out] at hc) | (go_at_call 205; refine (sum_any _ _ (Nat.le_trans s1 (by decide))).mono ?_; rintro e w2 ⟨rfl, rfl⟩; rw [HY.out]))
  all_goals
    replace b1 := (Below.drew (Below.refl _ w)).trans b1
    go_wp2_with fail
    refine (clone_any _ _ (Nat.le_trans s1 (by decide))).mono ?_
    rintro e w3 ⟨rfl, b3⟩
    replace b3 := b1.trans (b3.mono b1.size)
    go_wp2
    go_ret2
    exact ⟨rfl, b3⟩
theorem extract_from (l : List UInt8) (N : Nat) : ((strL l).extract N (strL l).size).data.toList = l.drop N := by
  rw [ByteArray.data_extract, Array.toList_extract, strL_size]
  show List.take (l.length - N) (List.drop N l) = _
  exact List.take_of_length_le (by simp)
theorem extract_to (l : List UInt8) (N : Nat) : ((strL l).extract 0 N).data.toList = l.take N := by
  rw [ByteArray.data_extract, Array.toList_extract]
  show List.take (N - 0) (List.drop 0 l) = _
  rw [List.drop_zero, Nat.sub_zero]
theorem extract_str (l : List UInt8) (N : Nat) : (strL l).extract 0 N = strL (l.take N) := by
  rw [← extract_to]; rfl
theorem open_no (l : List UInt8) (w : World) (h8 : 8 ≤ l.length) (hl : l.length ≤ 1000000) (h : ¬ Opens l) :
    Calls Tryz.prog 145 #[.string (strL l)] w fun e w' => e = .returned (.tuple #[.string ⟨#[]⟩, .int .i64 4]) ∧ Below w.heap.size w w' :=
  open_form (strL l) w (by rw [strL_size]; exact hl) (l.length - 8) (by rw [strL_size]; omega) _ _ rfl rfl (by rw [extract_from, extract_to]; exact h)
theorem open_yes (l : List UInt8) (w : World) (h8 : 8 ≤ l.length) (hl : l.length ≤ 1000000) (h : Opens l) :
    Calls Tryz.prog 145 #[.string (strL l)] w fun e w' => e = .returned (.tuple #[.string (strL (l.take (l.length - 8))), .int .i64 0]) ∧ Below w.heap.size w w' := by
  have := open_ok (strL l) w (by rw [strL_size]; exact hl) (l.length - 8) (by rw [strL_size]; omega) _ rfl (by rw [extract_from, extract_to]; exact h.symm)
  rw [extract_str] at this
  exact this
end Go.Proofs.YtfghfbmmaclcnaaGreat
namespace Go.Proofs.YtfghfbmmaclcnaaGreat
set_option maxRecDepth 20000
open Go.RowKit
/-- A slice of words as the source of an append: nil, or cells that are read. -/
def SrcU (w : World) (x : Value) (zs : List Nat) : Prop :=
  x = .slice none 0 0 ∧ zs = [] ∨ ∃ (ad : Addr) (c : Nat), x = .slice (some ad) zs.length c ∧ ∀ j, j < zs.length → w.cell? (ad.add j) = some (.int .u64 (zs[j]?.getD 0 : Nat))
theorem SrcU.below {w w' : World} {x : Value} {zs : List Nat} (h : SrcU w x zs) (hb : Below w.heap.size w w') : SrcU w' x zs := by
  rcases h with h | ⟨ad, c, h1, h2⟩
  · exact .inl h
  · exact .inr ⟨ad, c, h1, fun j hj => (hb.cell (World.block_lt_of_cell? w _ (h2 j hj))).trans (h2 j hj)⟩
theorem own_srcU {w : World} {base n : Nat} {e : TypeId} {v : Value} {zs : List Nat} (h : w.ownsRow base e 1 v n (uintsN zs)) (hl : zs.length = n) : SrcU w v zs := by
  rcases h.2 with ⟨h1, h2⟩ | ⟨g, cap, cur, h1, _⟩
  · exact .inl ⟨h1, List.eq_nil_of_length_eq_zero (by omega)⟩
  · subst h1
    exact .inr ⟨⟨g, 0, none⟩, cap, by rw [hl], fun j hj => by rw [Go.WideShapes.add_plain, Nat.zero_add]; exact own_cellsU h hl j (by omega)⟩
theorem uints_one {zs : List Nat} : ∀ u ∈ uintsN zs, u.oneCell' = true := by
  intro u hu
  simp only [uintsN, List.mem_map] at hu
  obtain ⟨a, _, rfl⟩ := hu
  rfl
theorem uintsN_append (a b : List Nat) : uintsN (a ++ b) = uintsN a ++ uintsN b := by simp [uintsN]
/-- Words appended to a row of the call's own. -/
theorem append_src {w : World} {ops : Array Oper} {rest : List Oper} {o : Oper} {a : Act} {Q : Exit → Act → World → Prop} (hgd : o.guard = none) (s x : Operand)
    (ho : o.op = .call { callee := .builtin .append, args := #[s, x], argTypes := #[51, 51] })
    (base : Nat) (v : Value) (ys : List Nat) (hs : a.eval s = v) (hown : w.ownsRow base 32 1 v ys.length (uintsN ys))
    (u : Value) (zs : List Nat) (hx : a.eval x = u) (hsrc : SrcU w u zs) (h63 : ys.length + zs.length ≤ 1000000) (hbase : base ≤ w.heap.size)
    (h : ∀ v' w' l, Hid (l = ys ++ zs) → w'.ownsRow base 32 1 v' l.length (uintsN l) → w.grownBy w' v.ownBlock → wpList Tryz.prog ops Q rest (a.put o.dst v') w') : wpList Tryz.prog ops Q (o :: rest) a w := by
  obtain ⟨i0, hi, hz0, hz1, hz2⟩ := info_parts Tryz.infoU64
  rcases hsrc with ⟨h1, rfl⟩ | ⟨ad, c, h1, hc⟩
  · refine wpList_append_own_none hgd s x 51 ho base 32 i0 1 Tryz.underlying51 hi v _ _ hs hown (by rw [hx, h1]) (h v w ys (by simp [Hid]) hown ⟨rfl, rfl, rfl, Nat.le_refl _, fun _ _ _ => rfl⟩)
  · refine wpList_append_own _ hgd s x 51 ho base 32 i0 (.int .u64 0) 1 8 Tryz.underlying51 hi hz0 hz1 hz2 rfl (by decide) v _ _ hs hown ad zs.length c (uintsN zs) (by rw [hx, h1]) (by rw [uintsN_length, Nat.mul_one]) ?_ uints_one (by unfold maxLen; omega) (by omega) hbase ?_
    · intro j y hj
      have hjl : j < zs.length := by
        have := (List.getElem?_eq_some_iff.1 hj).1
        rwa [uintsN_length] at this
      rw [uintsN_get _ _ hjl] at hj
      cases hj
      exact hc j hjl
    · intro v' w' h2 h3 _
      exact h v' w' _ rfl (by rw [List.length_append, uintsN_append]; exact h2) h3
theorem own_base {w : World} {base base' : Nat} {e : TypeId} {size : Nat} {v : Value} {n : Nat} {xs : List Value} (h : w.ownsRow base e size v n xs) (hb : base' ≤ base) : w.ownsRow base' e size v n xs := by
  obtain ⟨h1, h2⟩ := h
  refine ⟨h1, ?_⟩
  rcases h2 with h2 | ⟨g, cap, cur, hv, hg, r⟩
  · exact .inl h2
  · exact .inr ⟨g, cap, cur, hv, Nat.le_trans hb hg, r⟩
/-- What one round of appending does to the rest, the source's block made before. -/
theorem grow_src {W w w1 : World} {B : Nat} {e : TypeId} {v : Value} {n : Nat} {xs : List Value} (hown : w.ownsRow B e 1 v n xs) (hB : W.heap.size ≤ B) (hw : B ≤ w.heap.size)
    (hb : Below W.heap.size W w) (hg : w.grownBy w1 v.ownBlock) : Below W.heap.size W w1 :=
  hb.grown hg (by omega) (fun k hk => Nat.le_trans hB (hown.lt k hk).1)
end Go.Proofs.YtfghfbmmaclcnaaGreat
namespace Go.Proofs.YtfghfbmmaclcnaaGreat
set_option maxRecDepth 20000
/-- The bytes of words, eight a word. -/
def wordsT (l : List Nat) : List UInt8 := bytesL (fun j => l[j]?.getD 0) (8 * l.length)
theorem wordsT_length (l : List Nat) : (wordsT l).length = 8 * l.length := bytesL_length _ _
theorem bytesL_word (v : Nat → Nat) (k : Nat) : bytesL v (8 * (k + 1)) = bytesL v (8 * k) ++ bytesL (fun _ => v k) 8 := by
  apply List.ext_getElem?
  intro i
  by_cases h1 : i < 8 * k
  · rw [bytesL_get _ _ _ (by omega), List.getElem?_append_left (by rw [bytesL_length]; exact h1), bytesL_get _ _ _ h1]
  · rw [List.getElem?_append_right (by rw [bytesL_length]; omega), bytesL_length]
    by_cases h2 : i < 8 * (k + 1)
    · rw [bytesL_get _ _ _ h2, bytesL_get _ _ _ (by omega)]
      unfold byteAt
      rw [show i / 8 = k by omega, show (i - 8 * k) % 8 = i % 8 by omega]
    · rw [List.getElem?_eq_none (by rw [bytesL_length]; omega), List.getElem?_eq_none (by rw [bytesL_length]; omega)]
theorem wordsT_word (l : List Nat) (hv : ∀ j, j < l.length → l[j]?.getD 0 < 18446744073709551616) (j : Nat) (hj : j < l.length) : wordAt (wordsT l) j = l[j]?.getD 0 :=
  (words_of_bytes (fun j => l[j]?.getD 0) (8 * l.length) l.length hv).2 (fun i h1 h2 => by omega) j hj
theorem wordAt_take (t : List UInt8) (m j : Nat) (h : 8 * j + 8 ≤ m) : wordAt (t.take m) j = wordAt t j := by
  unfold wordAt
  rw [List.drop_take, List.take_take, Nat.min_eq_left (by omega)]
theorem wordAt_append (t b : List UInt8) (j : Nat) (h : 8 * j + 8 ≤ t.length) : wordAt (t ++ b) j = wordAt t j := by
  unfold wordAt
  rw [List.drop_append_of_le_length (by omega), List.take_append_of_le_length (by rw [List.length_drop]; omega)]
/-- A text that is some page's frame. -/
structure FrOK (t : List UInt8) : Prop where
  long : 32 ≤ t.length
  whole : t.length % 8 = 0
  opens : Opens t
  page : wordAt t 0 < 64
  count : wordAt t 1 = t.length / 8 - 3
  most : t.length / 8 - 3 ≤ 512
/-- A page's frame. -/
def frT (p : Nat) (l : List Nat) : List UInt8 := sealL (wordsT (p :: l.length :: l))
theorem frT_length (p : Nat) (l : List Nat) : (frT p l).length = 8 * l.length + 24 := by
  rw [frT, sealL_length, wordsT_length]; simp only [List.length_cons]; omega
theorem frT_word (p : Nat) (l : List Nat) (hp : p < 18446744073709551616) (hl : l.length < 18446744073709551616) (hv : ∀ j, j < l.length → l[j]?.getD 0 < 18446744073709551616) (j : Nat) (hj : j < l.length + 2) : wordAt (frT p l) j = (p :: l.length :: l)[j]?.getD 0 := by
  rw [frT, sealL, wordAt_append _ _ _ (by rw [wordsT_length]; simp only [List.length_cons]; omega)]
  refine wordsT_word _ (fun i hi => ?_) j (by simp only [List.length_cons]; omega)
  match i, hi with
  | 0, _ => exact hp
  | 1, _ => exact hl
  | i + 2, hi => exact hv i (by simp only [List.length_cons] at hi; omega)
theorem frT_ok (p : Nat) (l : List Nat) (hp : p < 64) (h1 : 1 ≤ l.length) (h2 : l.length ≤ 512) (hv : ∀ j, j < l.length → l[j]?.getD 0 < 18446744073709551616) : FrOK (frT p l) := by
  have hl := frT_length p l
  refine ⟨by omega, by omega, seal_opens _, ?_, ?_, by omega⟩
  · rw [frT_word p l (by omega) (by omega) hv 0 (by omega)]; exact hp
  · rw [frT_word p l (by omega) (by omega) hv 1 (by omega)]
    show l.length = _
    omega
/-- A beginning of a frame is none. -/
theorem frOK_take {t : List UInt8} (h : FrOK t) (a : Nat) (ha : a < t.length) : ¬ FrOK (t.take a) := by
  intro k
  have l1 : (t.take a).length = a := by rw [List.length_take]; omega
  have h1 := k.long
  have h2 := k.whole
  have h3 := k.count
  rw [l1] at h1 h2 h3
  rw [wordAt_take _ _ _ (by omega), h.count] at h3
  have := h.whole
  have := h.long
  omega
/-- Nor is a frame with something behind it. -/
theorem frOK_append {t : List UInt8} (h : FrOK t) (b : List UInt8) (hb : b ≠ []) : ¬ FrOK (t ++ b) := by
  intro k
  have l1 : 0 < b.length := List.length_pos_iff.2 hb
  have l2 : (t ++ b).length = t.length + b.length := List.length_append
  have h1 := h.long
  have h2 := h.whole
  have h3 := k.count
  have h4 := k.whole
  rw [wordAt_append _ _ _ (by omega), h.count] at h3
  omega
/-- The first n values of a function, as a list. -/
def listN (v : Nat → Nat) (n : Nat) : List Nat := (List.range n).map v
theorem listN_length (v : Nat → Nat) (n : Nat) : (listN v n).length = n := by simp [listN]
theorem listN_get (v : Nat → Nat) (n j : Nat) (h : j < n) : (listN v n)[j]?.getD 0 = v j := by simp [listN, h]
end Go.Proofs.YtfghfbmmaclcnaaGreat
namespace Go.Proofs.YtfghfbmmaclcnaaGreat
set_option maxRecDepth 20000
open Go.RowKit
set_option maxHeartbeats 400000 in
theorem count_yes (n : Int) (w : World) (h1 : 1 ≤ n) (h2 : n ≤ 512) :
    Calls Tryz.prog 66 #[.int .i64 n] w fun e w' => e = .returned (.bool true) ∧ w' = w := by
  go_enter Tryz.func66, Tryz.ntmps66
  go_wp2
  go_ret
  exact ⟨rfl, rfl⟩
set_option maxHeartbeats 400000 in
theorem count_no (n : Int) (w : World) (h : n < 1 ∨ 512 < n) :
    Calls Tryz.prog 66 #[.int .i64 n] w fun e w' => e = .returned (.bool false) ∧ w' = w := by
  by_cases h1 : n < 1
  · clear h
    go_enter Tryz.func66, Tryz.ntmps66
    go_wp2
    go_ret
    exact ⟨rfl, rfl⟩
  · have h2 : 512 < n := by omega
    clear h
    go_enter Tryz.func66, Tryz.ntmps66
    go_wp2
    go_ret
    exact ⟨ret_bool (by simp; omega), rfl⟩
set_option maxHeartbeats 400000 in
theorem number_yes (n : Int) (w : World) (h1 : 0 ≤ n) (h2 : n < 64) :
    Calls Tryz.prog 152 #[.int .i64 n] w fun e w' => e = .returned (.bool true) ∧ w' = w := by
  go_enter Tryz.func152, Tryz.ntmps152
  go_wp2
  go_ret
  exact ⟨rfl, rfl⟩
set_option maxHeartbeats 400000 in
theorem number_no (n : Int) (w : World) (h : n < 0 ∨ 64 ≤ n) :
    Calls Tryz.prog 152 #[.int .i64 n] w fun e w' => e = .returned (.bool false) ∧ w' = w := by
  by_cases h1 : n < 0
  · clear h
    go_enter Tryz.func152, Tryz.ntmps152
    go_wp2
    go_ret
    exact ⟨rfl, rfl⟩
  · have h2 : 64 ≤ n := by omega
    clear h
    go_enter Tryz.func152, Tryz.ntmps152
    go_wp2
    go_ret
    exact ⟨ret_bool (by simp; omega), rfl⟩
set_option maxHeartbeats 400000 in
theorem fpack_no (p : Int) (ao : Option Addr) (n cap : Nat) (w : World) (hn : n ≤ 1000000) (h : p < 0 ∨ 64 ≤ p ∨ n < 1 ∨ 512 < n) :
    Calls Tryz.prog 69 #[.int .i64 p, .slice ao n cap] w fun e w' => e = .returned (.tuple #[.string ⟨#[]⟩, .int .i64 1]) ∧ w' = w := by
  by_cases hp : p < 0 ∨ 64 ≤ p
  · go_enter Tryz.func69, Tryz.ntmps69
    go_wp2_with fail
    refine (number_no p _ hp).mono ?_
    rintro e x ⟨rfl, rfl⟩
    go_wp2
    go_ret2
    exact ⟨rfl, rfl⟩
  · have hc : (n : Int) < 1 ∨ 512 < (n : Int) := by omega
    go_enter Tryz.func69, Tryz.ntmps69
    go_wp2_with fail
    refine (number_yes p _ (by omega) (by omega)).mono ?_
    rintro e x ⟨rfl, rfl⟩
    go_wp2_with fail
    refine (count_no _ _ hc).mono ?_
    rintro e x ⟨rfl, rfl⟩
    go_wp2
    go_ret2
    exact ⟨rfl, rfl⟩
theorem own_lit2 (w : World) (a c : Nat) : (w.alloc (.cells #[.int .u64 (a : Int), .int .u64 (c : Int)] 32)).ownsRow w.heap.size 32 1 (.slice (some ⟨w.heap.size, 0, none⟩) 2 2) [a, c].length (uintsN [a, c]) :=
  World.ownsRow_lit w _ 2 (Nat.le_refl _) (by decide) rfl
/-- A slice of words that is there, or empty, as an append's source. -/
theorem sl_srcU {w : World} {ao : Option Addr} {cap : Nat} {l : List Nat} (h : Sl .u64 w ao l.length (fun j => ((l[j]?.getD 0 : Nat) : Int))) (hn : 1 ≤ l.length) : SrcU w (.slice ao l.length cap) l := by
  obtain ⟨b, off, rfl, _⟩ := h 0 (by omega)
  refine .inr ⟨_, cap, rfl, fun j hj => ?_⟩
  obtain ⟨b', off', he, hc⟩ := h j hj
  cases he
  rw [Go.WideShapes.add_plain]
  exact hc
set_option maxHeartbeats 1000000 in
theorem fpack_yes (p : Nat) (ao : Option Addr) (n cap : Nat) (l : List Nat) (w : World) (hl : l.length = n) (hp : p < 64) (h1 : 1 ≤ n) (h2 : n ≤ 512) (hs : Sl .u64 w ao n (fun j => ((l[j]?.getD 0 : Nat) : Int))) :
    Calls Tryz.prog 69 #[.int .i64 (p : Int), .slice ao n cap] w fun e w' => e = .returned (.tuple #[.string (strL (frT p l)), .int .i64 0]) ∧ Below w.heap.size w w' := by
  subst hl
  have s0 := sl_srcU (cap := cap) hs h1
  have HF : Hid (strL (sealL (wordsT (p :: l.length :: l))) = strL (frT p l)) := rfl
  have ho := own_lit2 w p l.length
  have hb : Below w.heap.size w (w.alloc (.cells #[.int .u64 (p : Int), .int .u64 (l.length : Int)] 32)) := (Below.refl _ _).alloc (Nat.le_refl _) _
  have s1 := s0.below ((Below.refl _ _).alloc (Nat.le_refl _) (.cells #[.int .u64 (p : Int), .int .u64 (l.length : Int)] 32))
  have hB : w.heap.size ≤ (w.alloc (.cells #[.int .u64 (p : Int), .int .u64 (l.length : Int)] 32)).heap.size := by simp
  clear s0 hs
  go_enter Tryz.func69, Tryz.ntmps69
  go_wp2_with fail
  refine (number_yes p _ (by omega) (by omega)).mono ?_
  rintro e x ⟨rfl, rfl⟩
  go_wp2_with fail
  refine (count_yes _ _ (by omega) (by omega)).mono ?_
  rintro e x ⟨rfl, rfl⟩
  go_wp2_with (at_builtin; refine append_src rfl _ _ rfl x.heap.size _ _ rfl ho _ _ rfl s1 ?c1 hB ?_)
  case c1 => simp only [List.length_cons, List.length_nil]; omega
  intro v2 w2 R HR o2 g2
  have hb2 := grow_src ho (Nat.le_refl _) hB hb g2
  have hR : Hid (R.length = l.length + 2) := by unfold Hid; rw [HR.out]; simp
  have hR2 : R.length ≤ 514 := by have := hR.out; omega
  obtain ⟨g, cap2, rfl, _, _⟩ := own_form o2 (by have := hR.out; omega)
  obtain ⟨_, _, he, sR⟩ := own_slU o2 rfl
  simp only [Value.slice.injEq, true_and] at he
  obtain ⟨rfl, rfl⟩ := he
  clear ho g2 hb hB s1 o2
  have HT : Hid ((⟨(bytesL (fun j => R[j]?.getD 0) (8 * R.length)).toArray⟩ : ByteArray) = strL (wordsT (p :: l.length :: l))) := by
    unfold Hid; rw [HR.out]; rfl
  obtain ⟨m, HM⟩ : ∃ m, Hid (m = 8 * R.length) := ⟨_, rfl⟩
  have hm : (R.length : Int) * 8 = (m : Int) := by rw [HM.out]; omega
  go_wp2_with fail
  refine (bytes_ok _ R.length cap2 m (fun j => R[j]?.getD 0) _ (by omega) sR (by have := HM.out; unfold wordsFor; omega) (fun i h1 h2 => by have := HM.out; omega)).mono ?_
  rintro e w3 ⟨rfl, b3⟩
  rw [HM.out, HT.out]
  replace b3 := hb2.trans (b3.mono hb2.size)
  have hsz : Hid ((strL (wordsT (p :: l.length :: l))).size ≤ 1000000) := by unfold Hid; rw [strL_size, wordsT_length]; simp only [List.length_cons]; omega
  have HW : Hid (∀ w, Calls Tryz.prog 154 #[.string (strL (wordsT (p :: l.length :: l)))] w fun e w' => e = .returned (.string (strL (frT p l))) ∧ Below w.heap.size w w') := fun w => seal_any _ w hsz.out
  generalize strL (wordsT (p :: l.length :: l)) = T at *
  clear HT HF hsz sR
  go_wp2_with fail
  refine (HW.out _).mono ?_
  rintro e w4 ⟨rfl, b4⟩
  replace b4 := b3.trans (b4.mono b3.size)
  go_wp2
  go_ret2
  exact ⟨rfl, b4⟩
end Go.Proofs.YtfghfbmmaclcnaaGreat
namespace Go.Proofs.YtfghfbmmaclcnaaGreat
set_option maxRecDepth 20000
open Go.RowKit
set_option maxHeartbeats 400000 in
theorem opened_no (t : List UInt8) (w : World) (hl : t.length ≤ 1000000) (h : ¬ (24 ≤ t.length ∧ t.length % 8 = 0 ∧ Opens t)) :
    Calls Tryz.prog 65 #[.string (strL t)] w fun e w' => e = .returned (.tuple #[.slice none 0 0, .int .i64 4]) ∧ Below w.heap.size w w' := by
  by_cases h8 : t.length < 8
  · have hs : (strL t).size < 8 := by rw [strL_size]; exact h8
    go_enter Tryz.func65, Tryz.ntmps65
    go_wp2_with fail
    refine (open_short _ _ hs).mono ?_
    rintro e x ⟨rfl, rfl⟩
    go_wp2
    go_ret2
    exact ⟨rfl, Below.refl _ _⟩
  · by_cases ho : Opens t
    · have HO := hide (fun w => open_yes t w (by omega) hl ho)
      have hsz : (strL (t.take (t.length - 8))).size = t.length - 8 := by rw [strL_size, List.length_take]; omega
      generalize strL (t.take (t.length - 8)) = T at *
      generalize strL t = s at *
      have hc : T.size < 16 ∨ T.size % 8 ≠ 0 := by
        by_cases h1 : 24 ≤ t.length
        · right; intro h2; exact h ⟨h1, by omega, ho⟩
        · left; omega
      have hm : T.size ≤ 1000000 := by omega
      clear h ho hsz
      by_cases h1 : T.size < 16
      · go_enter Tryz.func65, Tryz.ntmps65
        go_wp2_with fail
        refine (HO.out _).mono ?_
        rintro e x ⟨rfl, b⟩
        go_wp2
        go_ret2
        exact ⟨rfl, b⟩
      · have h2 : ((T.size : Int) % 8 != 0) = true := by rw [bne_iff_ne]; omega
        clear hc
        go_enter Tryz.func65, Tryz.ntmps65
        go_wp2_with fail
        refine (HO.out _).mono ?_
        rintro e x ⟨rfl, b⟩
        go_wp2
        go_ret2
        exact ⟨rfl, b⟩
    · have HO := hide (fun w => open_no t w (by omega) hl ho)
      go_enter Tryz.func65, Tryz.ntmps65
      go_wp2_with fail
      refine (HO.out _).mono ?_
      rintro e x ⟨rfl, b⟩
      go_wp2
      go_ret2
      exact ⟨rfl, b⟩
set_option maxHeartbeats 400000 in
theorem opened_yes (t : List UInt8) (N : Nat) (w : World) (hl : t.length ≤ 1000000) (h1 : 24 ≤ t.length) (h2 : t.length = 8 * N + 8) (ho : Opens t) :
    Calls Tryz.prog 65 #[.string (strL t)] w fun e w' => ∃ g, e = .returned (.tuple #[.slice (some ⟨g, 0, none⟩) N N, .int .i64 0]) ∧
      (∀ j, j < N → w'.cell? ⟨g, j, none⟩ = some (.int .u64 (wordAt t j : Int))) ∧ Below w.heap.size w w' := by
  have HO := hide (fun w => open_yes t w (by omega) hl ho)
  have hsz : (strL (t.take (t.length - 8))).size = 8 * N := by rw [strL_size, List.length_take]; omega
  have HW : Hid (∀ w, Calls Tryz.prog 146 #[.string (strL (t.take (t.length - 8)))] w fun e w' => ∃ g, e = .returned (.slice (some ⟨g, 0, none⟩) N N) ∧ (∀ j, j < N → w'.cell? ⟨g, j, none⟩ = some (.int .u64 (wordAt t j : Int))) ∧ Below w.heap.size w w') := fun w => by
    have := words_any (strL (t.take (t.length - 8))) w (by omega)
    rw [hsz, show wordsFor (8 * N) = N by unfold wordsFor; omega] at this
    refine this.mono ?_
    rintro e w' ⟨g, rfl, o, b⟩
    refine ⟨g, rfl, fun j hj => ?_, b⟩
    rw [own_cellsU o (wordsL_length _ _) j hj, wordsL_get _ _ _ hj, strL_toList, wordAt_take _ _ _ (by omega)]
    rfl
  generalize strL (t.take (t.length - 8)) = T at *
  generalize strL t = s at *
  have hs0 : ¬ T.size < 16 := by omega
  have hs1 : ((T.size : Int) % 8 != 0) = false := by rw [bne_eq_false_iff_eq]; omega
  have hm : T.size ≤ 1000000 := by omega
  clear hsz h1 h2 ho
  go_enter Tryz.func65, Tryz.ntmps65
  go_wp2_with fail
  refine (HO.out _).mono ?_
  rintro e x ⟨rfl, b⟩
  go_wp2_with fail
  refine (HW.out _).mono ?_
  rintro e x2 ⟨g, rfl, hc, b2⟩
  replace b2 := b.trans (b2.mono b.size)
  go_wp2
  go_ret2
  exact ⟨g, rfl, hc, b2⟩
set_option maxHeartbeats 1000000 in
theorem unpack_yes (t : List UInt8) (n p : Nat) (w : World) (h : FrOK t) (hn : t.length = 8 * n + 24) (hp : wordAt t 0 = p) :
    Calls Tryz.prog 21 #[.string (strL t)] w fun e w' => ∃ ao, e = .returned (.tuple #[.int .i64 (p : Int), .slice ao n n, .int .i64 0]) ∧
      Sl .u64 w' ao n (fun j => ((wordAt t (j + 2) : Nat) : Int)) ∧ Below w.heap.size w w' := by
  have h1 := h.long
  have h5 := h.count
  have h6 := h.most
  have h4 := h.page
  rw [hp] at h4
  have HO : Hid (∀ w, Calls Tryz.prog 65 #[.string (strL t)] w fun e w' => ∃ g, e = .returned (.tuple #[.slice (some ⟨g, 0, none⟩) (n + 2) (n + 2), .int .i64 0]) ∧
      (∀ j, j < n + 2 → w'.cell? ⟨g, j, none⟩ = some (.int .u64 (wordAt t j : Int))) ∧ Below w.heap.size w w') := fun w => opened_yes t (n + 2) w (by omega) (by omega) (by omega) h.opens
  have n1 : 1 ≤ n := by omega
  have n2 : n ≤ 512 := by omega
  have hq : Hid (wordAt t 1 = n) := by unfold Hid; omega
  clear h h5 h6 hn h1
  generalize strL t = s at *
  have HP := hide hp
  clear hp
  have hnn : ((n : Int) != (n : Int)) = false := by simp
  have hp6 : decide ((64 : Int) ≤ (p : Int)) = false := by simp; omega
  go_enter Tryz.func21, Tryz.ntmps21
  go_wp2_with fail
  refine (HO.out _).mono ?_
  rintro e x ⟨g, rfl, hc, b⟩
  have c0 := hc 0 (by omega)
  have c1 := hc 1 (by omega)
  rw [HP.out] at c0
  rw [hq.out] at c1
  have HC := hide hc
  clear hc
  go_wp2_with fail
  all_goals
    refine (count_yes _ _ (by omega) (by omega)).mono ?_
    rintro e x2 ⟨rfl, rfl⟩
    go_wp2
    go_ret3
    exact ⟨_, rfl, fun j hj => ⟨g, 2, rfl, by rw [Nat.add_comm 2 j]; exact HC.out (j + 2) (by omega)⟩, b⟩
set_option maxHeartbeats 1000000 in
theorem unpack_no (t : List UInt8) (w : World) (hl : t.length ≤ 1000000) (h : ¬ FrOK t) :
    Calls Tryz.prog 21 #[.string (strL t)] w fun e w' => e = .returned (.tuple #[.int .i64 0, .slice none 0 0, .int .i64 4]) ∧ Below w.heap.size w w' := by
  by_cases h0 : 24 ≤ t.length ∧ t.length % 8 = 0 ∧ Opens t
  · obtain ⟨h1, h2, h3⟩ := h0
    obtain ⟨n, hn⟩ : ∃ n, t.length = 8 * n + 24 := ⟨(t.length - 24) / 8, by omega⟩
    have HO : Hid (∀ w, Calls Tryz.prog 65 #[.string (strL t)] w fun e w' => ∃ g, e = .returned (.tuple #[.slice (some ⟨g, 0, none⟩) (n + 2) (n + 2), .int .i64 0]) ∧
      (∀ j, j < n + 2 → w'.cell? ⟨g, j, none⟩ = some (.int .u64 (wordAt t j : Int))) ∧ Below w.heap.size w w') := fun w => opened_yes t (n + 2) w (by omega) (by omega) (by omega) h3
    have hc : ¬ (1 ≤ n ∧ n ≤ 512) ∨ (1 ≤ n ∧ n ≤ 512) ∧ wordAt t 1 ≠ n ∨ (1 ≤ n ∧ n ≤ 512) ∧ wordAt t 1 = n ∧ ¬ wordAt t 0 < 64 := by
      by_cases a1 : 1 ≤ n ∧ n ≤ 512
      · by_cases a2 : wordAt t 1 = n
        · exact .inr (.inr ⟨a1, a2, fun a3 => h ⟨by omega, h2, h3, a3, by omega, by omega⟩⟩)
        · exact .inr (.inl ⟨a1, a2⟩)
      · exact .inl a1
    have hnm : n ≤ 1000000 := by omega
    clear h h1 h2 h3 hn hl
    generalize strL t = s at *
    rcases hc with a | ⟨a, a2⟩ | ⟨a, a2, a3⟩
    · go_enter Tryz.func21, Tryz.ntmps21
      go_wp2_with fail
      refine (HO.out _).mono ?_
      rintro e x ⟨g, rfl, hc, b⟩
      clear hc
      go_wp2_with fail
      all_goals
        refine (count_no _ _ (by omega)).mono ?_
        rintro e x2 ⟨rfl, rfl⟩
        go_wp2
        go_ret3
        exact ⟨rfl, b⟩
    · obtain ⟨n1, n2⟩ := a
      have hne : ((wordAt t 1 : Int) != (n : Int)) = true := by rw [bne_iff_ne]; omega
      clear a2
      go_enter Tryz.func21, Tryz.ntmps21
      go_wp2_with fail
      refine (HO.out _).mono ?_
      rintro e x ⟨g, rfl, hc, b⟩
      have c1 := hc 1 (by omega)
      clear hc
      generalize wordAt t 1 = q at *
      go_wp2_with fail
      all_goals
        refine (count_yes _ _ (by omega) (by omega)).mono ?_
        rintro e x2 ⟨rfl, rfl⟩
        go_wp2
        go_ret3
        exact ⟨rfl, b⟩
    · obtain ⟨n1, n2⟩ := a
      have hnn : ((n : Int) != (n : Int)) = false := by simp
      have hp6 : decide ((64 : Int) ≤ (wordAt t 0 : Int)) = true := by simp; omega
      have HQ := hide a2
      clear a2 a3
      go_enter Tryz.func21, Tryz.ntmps21
      go_wp2_with fail
      refine (HO.out _).mono ?_
      rintro e x ⟨g, rfl, hc, b⟩
      have c0 := hc 0 (by omega)
      have c1 := hc 1 (by omega)
      rw [HQ.out] at c1
      clear hc
      generalize wordAt t 0 = q at *
      go_wp2_with fail
      all_goals
        refine (count_yes _ _ (by omega) (by omega)).mono ?_
        rintro e x2 ⟨rfl, rfl⟩
        go_wp2
        go_ret3
        exact ⟨rfl, b⟩
  · have HO := hide (fun w => opened_no t w hl h0)
    go_enter Tryz.func21, Tryz.ntmps21
    go_wp2_with fail
    refine (HO.out _).mono ?_
    rintro e x ⟨rfl, b⟩
    go_wp2
    go_ret3
    exact ⟨rfl, b⟩
end Go.Proofs.YtfghfbmmaclcnaaGreat
namespace Go.Proofs.YtfghfbmmaclcnaaGreat
set_option maxRecDepth 20000
open Go.RowKit
/-- A number as a value. -/
def valS (n : Nat) : ByteArray := strL (bytesL (fun _ => n) 8)
/-- A value's number. -/
def numN (s : ByteArray) : Nat := if s.size = 8 then leN s.data.toList else 0
theorem valS_size (n : Nat) : (valS n).size = 8 := by rw [valS, strL_size, bytesL_length]
theorem leN_bytes (n : Nat) (hn : n < 18446744073709551616) : leN (bytesL (fun _ => n) 8) = n := by
  have h := (words_of_bytes (fun _ => n) 8 1 (fun _ _ => hn)).2 (fun i h1 h2 => by omega) 0 (by decide)
  simpa only [wordAt, Nat.mul_zero, List.drop_zero, List.take_of_length_le (show (bytesL (fun _ => n) 8).length ≤ 8 by rw [bytesL_length]; decide)] using h
theorem numN_val (n : Nat) (hn : n < 18446744073709551616) : numN (valS n) = n := by
  rw [numN, if_pos (valS_size n), valS, strL_toList, leN_bytes n hn]
theorem numN_lt (s : ByteArray) : numN s < 18446744073709551616 := by
  unfold numN
  split
  · rename_i h
    have := leN_lt s.data.toList
    rw [show s.data.toList.length = 8 by simpa using h] at this
    exact this
  · decide
theorem bytesV_snoc (l : List UInt8) (x : Nat) (hx : x < 256) : bytesV (l ++ [UInt8.ofNat x]) = bytesV l ++ [.int .u8 (x : Int)] := by
  simp [bytesV, ofNat_toNat hx]
/-- Owned bytes as a string. -/
theorem own_str {w : World} {base g cap : Nat} {l : List UInt8} (h : w.ownsRow base 5 1 (.slice (some ⟨g, 0, none⟩) l.length cap) l.length (bytesV l)) (j : Nat) (hj : j < l.length) :
    w.cell? ((⟨g, 0, none⟩ : Addr).add j) = some (.int .u8 ((l[j]).toNat : Int)) := by
  rw [Go.WideShapes.add_plain, Nat.zero_add, h.cellAt j (by omega)]
  simp [bytesV, List.getElem?_eq_getElem hj]
set_option maxHeartbeats 1000000 in
theorem rvalue_any (n : Nat) (w : World) (hn : n < 18446744073709551616) :
    Calls Tryz.prog 182 #[.int .u64 (n : Int)] w fun e w' => e = .returned (.string (valS n)) ∧ Below w.heap.size w w' := by
  obtain ⟨i0, hi, hz0, hz1, hz2⟩ := info_parts Tryz.infoU8
  have HV : Hid (valS n = ⟨(bytesL (fun _ => n) 8).toArray⟩) := rfl
  go_enter Tryz.func182, Tryz.ntmps182
  go_wp2
  go_loopw [0, 3, 4] (fun x b i wr => ∃ k m : Nat, k ≤ 8 ∧ Hid (m = n / 2 ^ (8 * k)) ∧ i = .int .i64 k ∧ x = .int .u64 (m : Int) ∧ wr.ownsRow w.heap.size 5 1 b k (bytesV (bytesL (fun _ => n) k)) ∧ Below w.heap.size w wr) (fun _ _ i _ => 8 - (intOf i).toNat)
  case atStart => exact ⟨0, n, by omega, by simp [Hid], rfl, rfl, by simpa [bytesV, bytesL] using World.ownsRow_made (e := 5) (size := 1) w #[] 0 (Nat.le_refl _) (by decide) (by simp), (Below.refl _ _).alloc (Nat.le_refl _) _⟩
  case round =>
    obtain ⟨k, m, hk, HM, rfl, rfl, hown, hb⟩ := hrel
    have hB := hb.size
    by_cases hlt : k < 8
    · have hm : m < 18446744073709551616 := by rw [HM.out]; exact Nat.lt_of_le_of_lt (Nat.div_le_self _ _) hn
      have HM2 : Hid (m / 256 = n / 2 ^ (8 * (k + 1))) := by rw [HM.out]; exact div_byte n k
      have HS : Hid (bytesV (bytesL (fun _ => n) (k + 1)) = bytesV (bytesL (fun _ => n) k) ++ [.int .u8 ((m : Int) % 256)]) := by
        unfold Hid
        rw [bytesL_succ, byteAt_one n k hlt, ← HM.out, bytesV_snoc _ _ (Nat.mod_lt _ (by decide))]; simp
      have hown2 := hown.alloc (.cells #[.int .u8 ((m : Int) % 256)] 5)
      go_wp2_with (at_builtin; refine wpList_append_own _ rfl _ _ 252 rfl w.heap.size 5 i0 (.int .u8 0) 1 1 Tryz.underlying252 hi hz0 hz1 hz2 rfl (by decide) _ _ _ rfl hown2 ⟨wr.heap.size, 0, none⟩ 1 1 [.int .u8 ((m : Int) % 256)] rfl rfl (cell_one _ _ _) one_int ?c3 ?c4 ?c5 ?_)
      case c3 => unfold maxLen; omega
      case c4 => omega
      case c5 => simpa using Nat.le_succ_of_le hB
      intro v' w3 hown' hgrow _
      have R := grow_step hown hB hb hgrow
      rw [← HS.out] at hown'
      clear hgrow hown hown2 hb
      go_wp2
      go_roundw
      case rel => exact ⟨k + 1, m / 256, by omega, HM2, by go_num, by go_num, hown', R⟩
      case measure => simp [intOf]; omega
    · have e : k = 8 := by omega
      subst e
      obtain ⟨g, cap, rfl, _, _⟩ := own_form hown (by decide)
      have kc := run_convert_bytes_back (P := Tryz.prog) wr 252 9 5 ⟨g, 0, none⟩ cap (bytesL (fun _ => n) 8) Tryz.underlying252 Tryz.underlying5 Tryz.underlying9 (own_str (by rw [bytesL_length]; exact hown))
      rw [bytesL_length] at kc
      clear hown
      go_wp2
      go_ret
      exact ⟨ret_str HV.out.symm, hb⟩
end Go.Proofs.YtfghfbmmaclcnaaGreat
namespace Go.Proofs.YtfghfbmmaclcnaaGreat
set_option maxRecDepth 20000
open Go.RowKit
set_option maxHeartbeats 400000 in
theorem rmay_yes (p n : Int) (w : World) (h1 : 0 ≤ p) (h2 : p ≤ 63) (h3 : 1 ≤ n) (h4 : n ≤ 512) :
    Calls Tryz.prog 181 #[.int .i64 p, .int .i64 n] w fun e w' => e = .returned (.bool true) ∧ w' = w := by
  go_enter Tryz.func181, Tryz.ntmps181
  go_wp2
  go_ret
  exact ⟨ret_bool (by simp; try omega), rfl⟩
set_option maxHeartbeats 400000 in
theorem rmay_no (p n : Int) (w : World) (h : p < 0 ∨ 64 ≤ p ∨ n < 1 ∨ 512 < n) :
    Calls Tryz.prog 181 #[.int .i64 p, .int .i64 n] w fun e w' => e = .returned (.bool false) ∧ w' = w := by
  by_cases a1 : p < 0
  · clear h
    go_enter Tryz.func181, Tryz.ntmps181
    go_wp2
    go_ret
    exact ⟨ret_bool (by simp; try omega), rfl⟩
  by_cases a2 : 64 ≤ p
  · clear h
    go_enter Tryz.func181, Tryz.ntmps181
    go_wp2
    go_ret
    exact ⟨ret_bool (by simp; try omega), rfl⟩
  by_cases a3 : n < 1
  · clear h
    go_enter Tryz.func181, Tryz.ntmps181
    go_wp2
    go_ret
    exact ⟨ret_bool (by simp; try omega), rfl⟩
  have a4 : 512 < n := by omega
  clear h
  go_enter Tryz.func181, Tryz.ntmps181
  go_wp2
  go_ret
  exact ⟨ret_bool (by simp; try omega), rfl⟩
set_option maxHeartbeats 400000 in
theorem rfpack_no (p : Int) (ao : Option Addr) (n cap : Nat) (w : World) (hn : n ≤ 1000000) (h : p < 0 ∨ 64 ≤ p ∨ n < 1 ∨ 512 < n) :
    Calls Tryz.prog 116 #[.int .i64 p, .slice ao n cap] w fun e w' => e = .returned (.tuple #[.string ⟨#[]⟩, .int .i64 1]) ∧ w' = w := by
  go_enter Tryz.func116, Tryz.ntmps116
  go_wp2_with fail
  refine (rmay_no _ _ _ (by omega)).mono ?_
  rintro e x ⟨rfl, rfl⟩
  go_wp2
  go_ret2
  exact ⟨rfl, rfl⟩
theorem valS_append (s : ByteArray) (n : Nat) : s ++ valS n = strL (s.data.toList ++ bytesL (fun _ => n) 8) := str_append s _
theorem valS_eq (n : Nat) : valS n = strL (bytesL (fun _ => n) 8) := rfl
set_option maxHeartbeats 2000000 in
theorem rfpack_run (p : Nat) (ao : Option Addr) (n cap : Nat) (v : Nat → Nat) (T : Nat → ByteArray) (F S0 : ByteArray) (w : World) (hp : p < 64) (h1 : 1 ≤ n) (h2 : n ≤ 512) (HS : Sl .u64 w ao n (fun j => ((v j : Nat) : Int))) (HB : ∀ j, j < n → v j < 18446744073709551616)
    (HX : valS p ++ valS n = S0) (H0 : S0 = T 0) (HN : ∀ k, T k ++ valS (v k) = T (k + 1)) (HZ : ∀ k, (T k).size = 8 * (k + 2)) (HF : ∀ w, Calls Tryz.prog 183 #[.string (T n)] w fun e w' => e = .returned (.string F) ∧ Below w.heap.size w w') :
    Calls Tryz.prog 116 #[.int .i64 (p : Int), .slice ao n cap] w fun e w' => e = .returned (.tuple #[.string F, .int .i64 0]) ∧ Below w.heap.size w w' := by
  replace HS := hide HS
  replace HB := hide HB
  replace HX := hide HX
  replace H0 := hide H0
  replace HN := hide HN
  replace HZ := hide HZ
  replace HF := hide HF
  have hz1 : (valS p).size = 8 := valS_size p
  have hz2 : (valS n).size = 8 := valS_size n
  go_enter Tryz.func116, Tryz.ntmps116
  go_wp2_with fail
  refine (rmay_yes _ _ _ (by omega) (by omega) (by omega) (by omega)).mono ?_
  rintro e x ⟨rfl, rfl⟩
  go_wp2_with fail
  refine (rvalue_any p _ (by omega)).mono ?_
  rintro e x1 ⟨rfl, b1⟩
  go_wp2_with fail
  refine (rvalue_any n _ (by omega)).mono ?_
  rintro e x2 ⟨rfl, b2⟩
  replace b2 := b1.trans (b2.mono b1.size)
  clear b1
  generalize valS p = A at *
  generalize valS n = B at *
  go_wp2
  rw [HX.out]
  clear HX hz1 hz2
  go_loopw [6, 7] (fun s i wr => ∃ k : Nat, k ≤ n ∧ i = .int .i64 k ∧ s = .string (T k) ∧ Below x.heap.size x wr) (fun _ i _ => n - (intOf i).toNat)
  case atStart => exact ⟨0, by omega, rfl, by rw [H0.out], b2⟩
  case round =>
    clear b2
    obtain ⟨k, hk, rfl, rfl, b⟩ := hrel
    by_cases hlt : k < n
    · obtain ⟨bb, off, hao, hc⟩ := HS.out.below b k hlt
      subst hao
      replace hc : wr.cell? ⟨bb, off + k, none⟩ = some (.int .u64 (v k : Int)) := hc
      have hvk := HB.out k hlt
      have HNk := hide (HN.out k)
      have hzk := HZ.out k
      have hzv : (valS (v k)).size = 8 := valS_size _
      generalize v k = X at *
      obtain ⟨S, HS1⟩ : ∃ S, Hid (T k = S) := ⟨_, rfl⟩
      obtain ⟨S', HS2⟩ : ∃ S', Hid (T (k + 1) = S') := ⟨_, rfl⟩
      rw [HS1.out] at HNk hzk ⊢
      rw [HS2.out] at HNk
      have HRV : Hid (∀ w, Calls Tryz.prog 182 #[.int .u64 (X : Int)] w fun e w' => e = .returned (.string (valS X)) ∧ Below w.heap.size w w') := fun w => rvalue_any X w hvk
      generalize valS X = Y at *
      go_wp2_with fail
      refine (HRV.out _).mono ?_
      rintro e w3 ⟨rfl, b3⟩
      replace b3 := b.trans (b3.mono b.size)
      go_wp2
      rw [HNk.out]
      go_roundw
      case rel => exact ⟨k + 1, by omega, by go_num, by rw [HS2.out], b3⟩
      case measure => simp [intOf]; omega
    · obtain rfl : k = n := by omega
      generalize T k = S at *
      go_wp2_with fail
      refine (HF.out _).mono ?_
      rintro e w3 ⟨rfl, b3⟩
      replace b3 := b.trans (b3.mono b.size)
      go_wp2
      go_ret2
      exact ⟨rfl, b3⟩
theorem rfpack_yes (p : Nat) (ao : Option Addr) (n cap : Nat) (l : List Nat) (w : World) (hl : l.length = n) (hp : p < 64) (h1 : 1 ≤ n) (h2 : n ≤ 512) (hs : Sl .u64 w ao n (fun j => ((l[j]?.getD 0 : Nat) : Int))) (hv : ∀ j, j < n → l[j]?.getD 0 < 18446744073709551616) :
    Calls Tryz.prog 116 #[.int .i64 (p : Int), .slice ao n cap] w fun e w' => e = .returned (.tuple #[.string (strL (frT p l)), .int .i64 0]) ∧ Below w.heap.size w w' := by
  have HW : frT p l = sealL (bytesL (fun j => (p :: n :: l)[j]?.getD 0) (8 * (n + 2))) := by
    rw [frT, wordsT, hl]; simp only [List.length_cons, hl]
  refine rfpack_run p ao n cap (fun j => l[j]?.getD 0) (fun k => strL (bytesL (fun j => (p :: n :: l)[j]?.getD 0) (8 * (k + 2)))) _ _ w hp h1 h2 hs hv rfl ?_ (fun k => ?_) (fun k => ?_) (fun w => ?_)
  · rw [valS_append, valS_eq, strL_toList, show 8 * (0 + 2) = 8 * (1 + 1) by rfl, bytesL_word, show 8 * 1 = 8 * (0 + 1) by rfl, bytesL_word]
    rfl
  · rw [valS_append, strL_toList]
    exact congrArg strL (bytesL_word (fun j => (p :: n :: l)[j]?.getD 0) (k + 2)).symm
  · rw [strL_size, bytesL_length]
  · rw [HW]
    exact rseal_any _ w (by rw [strL_size, bytesL_length]; omega)
end Go.Proofs.YtfghfbmmaclcnaaGreat
