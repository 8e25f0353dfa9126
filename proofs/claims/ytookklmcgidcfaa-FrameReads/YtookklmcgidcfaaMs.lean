/- Plain arithmetic of sums of bytes (no Go in sight): the step of a bit, its linearity, what turned bits do. -/
import Derived.Test.YtookklmcgidcfaaMm
import Derived.Test.YtookklmcgidcfaaMf
namespace Go.Proofs.Ytookklmcgidcfaa

def turnP : Nat := 14514072000185962306
def onesN : Nat := 18446744073709551615
/-- A bit falls out. -/
def bitS (h : Nat) : Nat := (h / 2) ^^^ (h % 2 * turnP)
/-- k bits fall out. -/
def downK (h : Nat) : Nat → Nat
  | 0 => h
  | k + 1 => bitS (downK h k)
theorem turnP_lt : turnP < 18446744073709551616 := by unfold turnP; omega
theorem bitS_lt {h : Nat} (hh : h < 18446744073709551616) : bitS h < 18446744073709551616 := by
  have ht := turnP_lt
  unfold bitS
  refine xor_lt64 (by omega) ?_
  rcases Nat.mod_two_eq_zero_or_one h with e | e <;> rw [e] <;> omega
theorem downK_lt {h : Nat} (hh : h < 18446744073709551616) : ∀ k, downK h k < 18446744073709551616
  | 0 => hh
  | k + 1 => bitS_lt (downK_lt hh k)
theorem xor4 (a b c d : Nat) : (a ^^^ b) ^^^ (c ^^^ d) = (a ^^^ c) ^^^ (b ^^^ d) := by
  rw [Nat.xor_assoc, ← Nat.xor_assoc b, Nat.xor_comm b c, Nat.xor_assoc c, ← Nat.xor_assoc a]
theorem bitS_xor (a b : Nat) : bitS (a ^^^ b) = bitS a ^^^ bitS b := by
  unfold bitS
  generalize turnP = P
  have m2 : (a ^^^ b) % 2 = (a % 2 ^^^ b % 2) := by simpa using Nat.xor_mod_two_pow (a := a) (b := b) (n := 1)
  rw [Nat.xor_div_two, m2, xor4]
  congr 1
  rcases Nat.mod_two_eq_zero_or_one a with e | e <;> rcases Nat.mod_two_eq_zero_or_one b with f | f <;> rw [e, f] <;> simp
theorem downK_xor (a b : Nat) : ∀ k, downK (a ^^^ b) k = downK a k ^^^ downK b k
  | 0 => rfl
  | k + 1 => by show bitS (downK (a ^^^ b) k) = _; rw [downK_xor a b k, bitS_xor]; rfl
theorem downK_add (h a : Nat) : ∀ b, downK h (a + b) = downK (downK h a) b
  | 0 => rfl
  | b + 1 => by show bitS (downK h (a + b)) = _; rw [downK_add h a b]; rfl
theorem bitS_even (x : Nat) : bitS (2 * x) = x := by
  unfold bitS
  rw [show 2 * x / 2 = x by omega, show 2 * x % 2 = 0 by omega]; simp
theorem downK_mul (x : Nat) : ∀ k, downK (x * 2 ^ k) k = x := by
  intro k
  induction k generalizing x with
  | zero => simp [downK]
  | succ k ih =>
    show bitS (downK (x * 2 ^ (k + 1)) k) = x
    rw [show x * 2 ^ (k + 1) = 2 * x * 2 ^ k by rw [Nat.pow_succ]; ac_rfl, ih, bitS_even]
theorem xor_zero_eq {a b : Nat} (h : a ^^^ b = 0) : a = b := by
  have h2 : a ^^^ b ^^^ b = 0 ^^^ b := by rw [h]
  rwa [Nat.xor_assoc, Nat.xor_self, Nat.xor_zero, Nat.zero_xor] at h2
theorem bitS_zero {x : Nat} (hx : x < 18446744073709551616) (h : bitS x = 0) : x = 0 := by
  unfold bitS at h
  replace h := xor_zero_eq h
  unfold turnP at h
  rcases Nat.mod_two_eq_zero_or_one x with e | e <;> rw [e] at h <;> omega
theorem downK_zero {x : Nat} (hx : x < 18446744073709551616) : ∀ k, downK x k = 0 → x = 0
  | 0 => fun h => h
  | k + 1 => fun h => downK_zero hx k (bitS_zero (downK_lt hx k) h)
theorem zero_down : ∀ k, downK 0 k = 0
  | 0 => rfl
  | k + 1 => by show bitS (downK 0 k) = 0; rw [zero_down k]; exact bitS_even 0
theorem downK_inj {a b : Nat} (ha : a < 18446744073709551616) (hb : b < 18446744073709551616) (k : Nat) (h : downK a k = downK b k) : a = b := by
  refine xor_zero_eq (downK_zero (xor_lt64 ha hb) k ?_)
  rw [downK_xor, h, Nat.xor_self]

/-- The bytes go in one by one. -/
def byteS (h : Nat) (b : UInt8) : Nat := downK (h ^^^ b.toNat) 8
def regL (h : Nat) (l : List UInt8) : Nat := l.foldl byteS h
def notN (h : Nat) : Nat := onesN - h
def nextN (s : Nat) (l : List UInt8) : Nat := notN (regL (notN s) l)
def sumL (l : List UInt8) : Nat := nextN 0 l
theorem regL_snoc (h : Nat) (l : List UInt8) (b : UInt8) : regL h (l ++ [b]) = byteS (regL h l) b := foldl_snoc byteS h l b
theorem regL_append (h : Nat) (l m : List UInt8) : regL h (l ++ m) = regL (regL h l) m := List.foldl_append
theorem byteS_lt {h : Nat} (hh : h < 18446744073709551616) (b : UInt8) : byteS h b < 18446744073709551616 := by
  have := b.toNat_lt
  exact downK_lt (xor_lt64 hh (by omega)) 8
theorem regL_lt {h : Nat} (hh : h < 18446744073709551616) (l : List UInt8) : regL h l < 18446744073709551616 := by
  induction l generalizing h with
  | nil => exact hh
  | cons b l ih => exact ih (byteS_lt hh b)
theorem notN_lt (h : Nat) : notN h < 18446744073709551616 := by unfold notN onesN; omega
theorem notN_not {h : Nat} (hh : h < 18446744073709551616) : notN (notN h) = h := by unfold notN onesN; omega
theorem nextN_lt (s : Nat) (l : List UInt8) : nextN s l < 18446744073709551616 := notN_lt _
theorem sumL_lt (l : List UInt8) : sumL l < 18446744073709551616 := notN_lt _
/-- Reckoned in parts. -/
theorem next_sum (l m : List UInt8) : nextN (sumL l) m = sumL (l ++ m) := by
  unfold sumL nextN
  rw [notN_not (regL_lt (notN_lt _) l), regL_append]
theorem leN_xor (b : UInt8) (l : List UInt8) : leN (b :: l) = b.toNat ^^^ leN l * 2 ^ 8 := by
  have hb : b.toNat < 2 ^ 8 := b.toNat_lt
  rw [leN]
  generalize leN l = x
  apply Nat.eq_of_testBit_eq
  intro i
  rw [Nat.testBit_xor, show b.toNat + 256 * x = 2 ^ 8 * x + b.toNat by omega, Nat.testBit_two_pow_mul_add _ hb, Nat.mul_comm x, Nat.testBit_two_pow_mul]
  by_cases h : i < 8
  · simp [h, show ¬ 8 ≤ i by omega]
  · have hbi : b.toNat.testBit i = false := Nat.testBit_lt_two_pow (Nat.lt_of_lt_of_le hb (Nat.pow_le_pow_right (by decide) (by omega)))
    rw [if_neg h, hbi]
    simp [show 8 ≤ i by omega]
/-- All the bytes at once. -/
theorem regL_eq (l : List UInt8) : ∀ h, regL h l = downK (h ^^^ leN l) (8 * l.length) := by
  induction l with
  | nil => intro h; simp [regL, leN, downK]
  | cons b l ih =>
    intro h
    show regL (byteS h b) l = _
    rw [ih, List.length_cons, show 8 * (l.length + 1) = 8 + 8 * l.length by omega, downK_add, leN_xor, ← Nat.xor_assoc, downK_xor (h ^^^ b.toNat) (leN l * 2 ^ 8) 8, downK_mul]
    rfl
theorem xor_not {h : Nat} (hh : h < 18446744073709551616) : h ^^^ notN h = onesN := by
  have hh' : h < 2 ^ 64 := by rw [pow64]; exact hh
  apply Nat.eq_of_testBit_eq
  intro i
  have e1 : notN h = 2 ^ 64 - (h + 1) := by unfold notN onesN; omega
  have e2 : onesN = 2 ^ 64 - 1 := by unfold onesN; rw [pow64]
  rw [Nat.testBit_xor, e1, e2, Nat.testBit_two_pow_sub_succ hh', Nat.testBit_two_pow_sub_one]
  by_cases hi : i < 64
  · cases h.testBit i <;> simp [hi]
  · simp [hi, Nat.testBit_lt_two_pow (Nat.lt_of_lt_of_le hh' (Nat.pow_le_pow_right (by decide) (show 64 ≤ i by omega)))]
theorem onesN_lt : onesN < 18446744073709551616 := by unfold onesN; omega
theorem not_iff {h c : Nat} (hh : h < 18446744073709551616) : c = notN h ↔ h ^^^ c = onesN := by
  constructor
  · rintro rfl; exact xor_not hh
  · intro e
    have h1 := xor_not hh
    have h2 : h ^^^ (h ^^^ c) = h ^^^ (h ^^^ notN h) := by rw [e, h1]
    rwa [← Nat.xor_assoc, ← Nat.xor_assoc, Nat.xor_self, Nat.zero_xor, Nat.zero_xor] at h2
/-- May a text be opened (of 8 bytes or more)? -/
def Opens (l : List UInt8) : Prop := leN (l.drop (l.length - 8)) = sumL (l.take (l.length - 8))
theorem opens_iff (l : List UInt8) (h : 8 ≤ l.length) : Opens l ↔ downK (onesN ^^^ leN l) (8 * l.length) = downK onesN 64 := by
  have e := regL_eq l onesN
  rw [← e]
  have hl : (l.drop (l.length - 8)).length = 8 := by rw [List.length_drop]; omega
  have e2 : regL onesN l = downK (regL onesN (l.take (l.length - 8)) ^^^ leN (l.drop (l.length - 8))) 64 := by
    have h1 : regL onesN l = regL onesN (l.take (l.length - 8) ++ l.drop (l.length - 8)) := by rw [List.take_append_drop]
    rw [h1, regL_append, regL_eq (l.drop (l.length - 8)), hl]
  have hr := regL_lt onesN_lt (l.take (l.length - 8))
  have hc : leN (l.drop (l.length - 8)) < 18446744073709551616 := by
    have := leN_lt (l.drop (l.length - 8))
    rw [hl, pow256, pow64] at this; exact this
  rw [e2]
  show _ = notN (regL onesN (l.take (l.length - 8))) ↔ _
  rw [not_iff hr]
  exact ⟨fun h => by rw [h], fun h => downK_inj (xor_lt64 hr hc) onesN_lt 64 h⟩
/-- Turned bits within 64 in a row are found. -/
theorem burst (l l' : List UInt8) (p a : Nat) (h8 : 8 ≤ l.length) (hl : l'.length = l.length) (hp : p < 18446744073709551616) (ha : a ≤ 8 * l.length) (he : leN l' = leN l ^^^ p * 2 ^ a) (ho : Opens l) : Opens l' ↔ p = 0 := by
  rw [opens_iff l' (by omega), hl, he, ← Nat.xor_assoc, downK_xor, (opens_iff l h8).1 ho]
  have e : downK (p * 2 ^ a) (8 * l.length) = downK p (8 * l.length - a) := by
    rw [show 8 * l.length = a + (8 * l.length - a) by omega, downK_add, downK_mul, show a + (8 * l.length - a) - a = 8 * l.length - a by omega]
  rw [e]
  constructor
  · intro h
    refine downK_zero hp (8 * l.length - a) ?_
    have h2 : downK onesN 64 ^^^ (downK onesN 64 ^^^ downK p (8 * l.length - a)) = downK onesN 64 ^^^ downK onesN 64 := by rw [h]
    rwa [← Nat.xor_assoc, Nat.xor_self, Nat.zero_xor] at h2
  · rintro rfl
    rw [zero_down, Nat.xor_zero]
/-- A word's eight bytes, the lowest first. -/
def bytes8 (x : Nat) : List UInt8 := bytesL (fun _ => x) 8
theorem bytes8_length (x : Nat) : (bytes8 x).length = 8 := bytesL_length _ _
theorem leN_bytes8 {x : Nat} (hx : x < 18446744073709551616) : leN (bytes8 x) = x := by
  have h := (words_of_bytes (fun _ => x) 8 1 (fun _ _ => hx)).2 (fun i h1 h2 => by omega) 0 (by omega)
  unfold wordAt at h
  rw [List.drop_zero, List.take_of_length_le (by rw [bytesL_length]; omega)] at h
  exact h
def sealL (l : List UInt8) : List UInt8 := l ++ bytes8 (sumL l)
theorem sealL_length (l : List UInt8) : (sealL l).length = l.length + 8 := by unfold sealL; rw [List.length_append, bytes8_length]
theorem seal_take (l : List UInt8) : (sealL l).take ((sealL l).length - 8) = l := by
  rw [sealL_length, Nat.add_sub_cancel]; exact List.take_left' rfl
theorem seal_drop (l : List UInt8) : (sealL l).drop ((sealL l).length - 8) = bytes8 (sumL l) := by
  rw [sealL_length, Nat.add_sub_cancel]; exact List.drop_left' rfl
theorem seal_opens (l : List UInt8) : Opens (sealL l) := by
  unfold Opens
  rw [seal_take, seal_drop, leN_bytes8 (sumL_lt l)]
theorem leN_inj : ∀ (l m : List UInt8), l.length = m.length → leN l = leN m → l = m
  | [], [], _, _ => rfl
  | [], _ :: _, h, _ => by simp at h
  | _ :: _, [], h, _ => by simp at h
  | b :: l, c :: m, h, e => by
    have hb := b.toNat_lt
    have hc := c.toNat_lt
    simp only [leN] at e
    have e1 : b.toNat = c.toNat := by omega
    rw [leN_inj l m (by simpa using h) (by omega), UInt8.toNat_inj.1 e1]
/-- A text that opens is a seal. -/
theorem opens_seal (l : List UInt8) (h8 : 8 ≤ l.length) (h : Opens l) : sealL (l.take (l.length - 8)) = l := by
  unfold sealL
  rw [show bytes8 (sumL (l.take (l.length - 8))) = l.drop (l.length - 8) from leN_inj _ _ (by rw [bytes8_length, List.length_drop]; omega) (by rw [leN_bytes8 (sumL_lt _)]; exact h.symm), List.take_append_drop]
/-- A bit is turned. -/
theorem leN_turn (l : List UInt8) (r : Nat) (hr : r < 8) : ∀ (j : Nat) (b : UInt8), l[j]? = some b → leN (l.set j (UInt8.ofNat (b.toNat ^^^ 2 ^ r))) = leN l ^^^ 2 ^ (8 * j + r) := by
  induction l with
  | nil => intro j b h; simp at h
  | cons c l ih =>
    intro j b h
    cases j with
    | zero =>
      have e : c = b := by simpa using h
      subst e
      have hc : c.toNat < 2 ^ 8 := c.toNat_lt
      have hx : c.toNat ^^^ 2 ^ r < 2 ^ 8 := Nat.xor_lt_two_pow hc (Nat.pow_lt_pow_right (by decide) hr)
      rw [List.set_cons_zero, leN_xor, leN_xor, ofNat_toNat hx, Nat.mul_zero, Nat.zero_add, Nat.xor_assoc, Nat.xor_assoc, Nat.xor_comm (2 ^ r)]
    | succ j =>
      have e := ih j b (by simpa using h)
      rw [List.set_cons_succ, leN_xor, leN_xor, e, Nat.xor_assoc]
      congr 1
      apply Nat.eq_of_testBit_eq
      intro i
      rw [Nat.testBit_xor, Nat.mul_comm _ (2 ^ 8), Nat.mul_comm _ (2 ^ 8), Nat.testBit_two_pow_mul, Nat.testBit_two_pow_mul, Nat.testBit_xor, Nat.testBit_two_pow, Nat.testBit_two_pow]
      by_cases hi : 8 ≤ i
      · have : (decide (8 * j + r = i - 8)) = decide (8 * (j + 1) + r = i) := by rw [decide_eq_decide]; omega
        simp [hi, this]
      · have : decide (8 * (j + 1) + r = i) = false := by rw [decide_eq_false_iff_not]; omega
        simp [hi, this]
/-- The turned bits so far, and one more. -/
theorem pat_one (p k a : Nat) (h : p / 2 ^ k % 2 = 1) : p % 2 ^ k * 2 ^ a ^^^ 2 ^ (a + k) = p % 2 ^ (k + 1) * 2 ^ a := by
  apply Nat.eq_of_testBit_eq
  intro i
  rw [Nat.testBit_xor, Nat.mul_comm _ (2 ^ a), Nat.mul_comm _ (2 ^ a), Nat.testBit_two_pow_mul, Nat.testBit_two_pow_mul, Nat.testBit_two_pow, Nat.testBit_mod_two_pow, Nat.testBit_mod_two_pow]
  have hb : p.testBit k = true := by rw [Nat.testBit_eq_decide_div_mod_eq, h]; rfl
  by_cases h1 : a ≤ i
  · by_cases h2 : a + k = i
    · subst h2; simp [hb]
    · have e : decide (i - a < k) = decide (i - a < k + 1) := by rw [decide_eq_decide]; omega
      simp [h1, h2, e]
  · simp [h1]; omega
theorem pat_zero (p k : Nat) (h : p / 2 ^ k % 2 = 0) : p % 2 ^ (k + 1) = p % 2 ^ k := by
  rw [Nat.pow_succ, Nat.mod_mul, h]; simp
theorem pat_some (p k : Nat) (h : p / 2 ^ k % 2 = 1) : p % 2 ^ (k + 1) ≠ 0 := by
  rw [Nat.pow_succ, Nat.mod_mul, h]
  have := pow_pos2 k
  omega
theorem pat_lt (p k : Nat) (hp : p < 18446744073709551616) : p % 2 ^ k < 18446744073709551616 := Nat.lt_of_le_of_lt (Nat.mod_le _ _) hp
theorem sum_example : sumL [49, 50, 51, 52, 53, 54, 55, 56, 57] = 11051210869376104954 := by
  show notN (byteS (byteS (byteS (byteS (byteS (byteS (byteS (byteS (byteS (notN 0) 49) 50) 51) 52) 53) 54) 55) 56) 57) = _
  rw [show notN 0 = 18446744073709551615 by decide, show byteS 18446744073709551615 49 = 15407079833324893458 by decide +kernel,
    show byteS 15407079833324893458 50 = 18150230534629729959 by decide +kernel,
    show byteS 18150230534629729959 51 = 14978083663061924510 by decide +kernel,
    show byteS 14978083663061924510 52 = 3580775586559638743 by decide +kernel,
    show byteS 3580775586559638743 53 = 11698303443272442646 by decide +kernel,
    show byteS 11698303443272442646 54 = 18128425328362403633 by decide +kernel,
    show byteS 18128425328362403633 55 = 10353600487410745951 by decide +kernel,
    show byteS 10353600487410745951 56 = 11778179352998676470 by decide +kernel,
    show byteS 11778179352998676470 57 = 7395533204333446661 by decide +kernel]
  decide
end Go.Proofs.Ytookklmcgidcfaa
