/- Plain arithmetic of addresses: a page and an offset in it (no Go in sight). -/
import Derived.Test.YtpkoohpobcfjcaaMa
namespace Go.Proofs.Ytpkoohpobcfjcaa

def mayB (b : Int) : Bool := decide (5 ≤ b ∧ b ≤ 9)
def sizeN (b : Int) : Nat := if 5 ≤ b ∧ b ≤ 9 then 2 ^ b.toNat else 0
def partsB (b : Int) (a : Nat) : Bool := decide ((5 ≤ b ∧ b ≤ 9) ∧ a ≤ 281474976710655)
def pageN (b : Int) (a : Nat) : Nat := if (5 ≤ b ∧ b ≤ 9) ∧ a ≤ 281474976710655 then a / 2 ^ b.toNat else 0
def offN (b : Int) (a : Nat) : Nat := if (5 ≤ b ∧ b ≤ 9) ∧ a ≤ 281474976710655 then a % 2 ^ b.toNat else 0
def roomN (b : Int) (a : Nat) : Nat := if (5 ≤ b ∧ b ≤ 9) ∧ a ≤ 281474976710655 then 2 ^ b.toNat - a % 2 ^ b.toNat else 0
/-- Is it told ErrArg? -/
def ofArg (b p o : Int) : Bool := decide (¬ ((5 ≤ b ∧ b ≤ 9) ∧ 0 ≤ p ∧ 0 ≤ o ∧ o < (sizeN b : Int)))
def ofV (b p o : Int) : Nat := if ofArg b p o = true then 0 else if p.toNat * 2 ^ b.toNat + o.toNat ≤ 281474976710655 then p.toNat * 2 ^ b.toNat + o.toNat else 0
def ofE (b p o : Int) : Int := if ofArg b p o = true then 1 else if p.toNat * 2 ^ b.toNat + o.toNat ≤ 281474976710655 then 0 else 13
def fitsB (b : Int) (a : Nat) (n : Int) : Bool := decide (1 ≤ n ∧ n ≤ (roomN b a : Int))
def addV (a : Nat) (n : Int) : Nat := if a ≤ 281474976710655 ∧ 0 ≤ n then (if a + n.toNat ≤ 281474976710655 then a + n.toNat else 0) else 0
def addE (a : Nat) (n : Int) : Int := if a ≤ 281474976710655 ∧ 0 ≤ n then (if a + n.toNat ≤ 281474976710655 then 0 else 13) else 1

/-- The page sizes, one by one. -/
theorem five {b : Int} (h : 5 ≤ b ∧ b ≤ 9) : b = 5 ∨ b = 6 ∨ b = 7 ∨ b = 8 ∨ b = 9 := by omega
theorem sizeN_yes {b : Int} (h : 5 ≤ b ∧ b ≤ 9) : sizeN b = 2 ^ b.toNat := by simp [sizeN, h]
theorem sizeN_no {b : Int} (h : ¬ (5 ≤ b ∧ b ≤ 9)) : sizeN b = 0 := by simp only [sizeN, if_neg h]
theorem sizeN_bounds (b : Int) : sizeN b ≤ 512 := by
  by_cases h : 5 ≤ b ∧ b ≤ 9
  · rcases five h with rfl | rfl | rfl | rfl | rfl <;> decide
  · rw [sizeN_no h]; decide
theorem sizeN_pos {b : Int} (h : 5 ≤ b ∧ b ≤ 9) : 32 ≤ sizeN b := by
  rcases five h with rfl | rfl | rfl | rfl | rfl <;> decide

theorem get_page (b : Int) (a : Nat) (h : 5 ≤ b ∧ b ≤ 9) (ha : a ≤ 281474976710655) : getN a b.toNat (48 - b).toNat = a / 2 ^ b.toNat := by
  rcases five h with rfl | rfl | rfl | rfl | rfl <;> simp only [getN, show (2 : Nat) ^ Int.toNat 5 = 32 by decide, show (2 : Nat) ^ Int.toNat 6 = 64 by decide, show (2 : Nat) ^ Int.toNat 7 = 128 by decide, show (2 : Nat) ^ Int.toNat 8 = 256 by decide, show (2 : Nat) ^ Int.toNat 9 = 512 by decide,
    show (2 : Nat) ^ Int.toNat (48 - 5) = 8796093022208 by decide, show (2 : Nat) ^ Int.toNat (48 - 6) = 4398046511104 by decide, show (2 : Nat) ^ Int.toNat (48 - 7) = 2199023255552 by decide, show (2 : Nat) ^ Int.toNat (48 - 8) = 1099511627776 by decide, show (2 : Nat) ^ Int.toNat (48 - 9) = 549755813888 by decide] <;> omega
theorem get_off (b : Int) (a : Nat) : getN a 0 b.toNat = a % 2 ^ b.toNat := by simp [getN]
theorem right_page (b : Int) (h : 5 ≤ b ∧ b ≤ 9) : rightB b (48 - b) = true := by rw [rightB_iff]; omega
theorem right_off (b : Int) (h : 5 ≤ b ∧ b ≤ 9) : rightB 0 b = true := by rw [rightB_iff]; omega
theorem pageN_le (b : Int) (a : Nat) : pageN b a ≤ 281474976710655 := by
  unfold pageN
  split
  · have := Nat.div_le_self a (2 ^ b.toNat); omega
  · decide
theorem offN_le (b : Int) (a : Nat) : offN b a ≤ 511 := by
  unfold offN
  split
  · rename_i h
    have h1 := Nat.mod_lt a (pow_pos2 b.toNat)
    have h2 := sizeN_bounds b
    rw [sizeN_yes h.1] at h2
    omega
  · decide
theorem roomN_le (b : Int) (a : Nat) : roomN b a ≤ 512 := by
  unfold roomN
  split
  · rename_i h
    have h2 := sizeN_bounds b
    rw [sizeN_yes h.1] at h2
    omega
  · decide

theorem put_page (b : Int) (p o : Nat) (h : 5 ≤ b ∧ b ≤ 9) (ho : o < 2 ^ b.toNat) : putN o b.toNat (48 - b).toNat p = p * 2 ^ b.toNat + o := by
  have h1 : o / 2 ^ (b.toNat + (48 - b).toNat) = 0 := by
    apply Nat.div_eq_of_lt
    exact Nat.lt_of_lt_of_le ho (Nat.pow_le_pow_right (by decide) (by omega))
  unfold putN
  rw [h1, Nat.mod_eq_of_lt ho]
  omega
theorem most_page (b : Int) (p o : Nat) (h : 5 ≤ b ∧ b ≤ 9) (ho : o < 2 ^ b.toNat) : p ≤ mostN (48 - b) ↔ p * 2 ^ b.toNat + o ≤ 281474976710655 := by
  rw [most_mid (48 - b) (by omega) (by omega)]
  rcases five h with rfl | rfl | rfl | rfl | rfl <;> simp only [show (2 : Nat) ^ Int.toNat 5 = 32 by decide, show (2 : Nat) ^ Int.toNat 6 = 64 by decide, show (2 : Nat) ^ Int.toNat 7 = 128 by decide, show (2 : Nat) ^ Int.toNat 8 = 256 by decide, show (2 : Nat) ^ Int.toNat 9 = 512 by decide,
    show (2 : Nat) ^ Int.toNat (48 - 5) = 8796093022208 by decide, show (2 : Nat) ^ Int.toNat (48 - 6) = 4398046511104 by decide, show (2 : Nat) ^ Int.toNat (48 - 7) = 2199023255552 by decide, show (2 : Nat) ^ Int.toNat (48 - 8) = 1099511627776 by decide, show (2 : Nat) ^ Int.toNat (48 - 9) = 549755813888 by decide] at * <;> omega
theorem div_over (M s p o : Nat) (hs : 0 < s) (ho : o ≤ M) : (M - o) / s < p ↔ ¬ (p * s + o ≤ M) := by
  rw [Nat.div_lt_iff_lt_mul hs]; omega
theorem of_parts (b : Int) (a : Nat) (h : 5 ≤ b ∧ b ≤ 9) (ha : a ≤ 281474976710655) : ofV b (pageN b a) (offN b a) = a ∧ ofE b (pageN b a) (offN b a) = 0 := by
  have hp : pageN b a = a / 2 ^ b.toNat := by simp only [pageN, if_pos (And.intro h ha)]
  have ho : offN b a = a % 2 ^ b.toNat := by simp only [offN, if_pos (And.intro h ha)]
  have hl := Nat.mod_lt a (pow_pos2 b.toNat)
  have hA : ofArg b (pageN b a) (offN b a) = false := by
    unfold ofArg; rw [sizeN_yes h, ho]; simp [h]; exact ⟨by omega, by exact_mod_cast hl⟩
  have e : (a / 2 ^ b.toNat) * 2 ^ b.toNat + a % 2 ^ b.toNat = a := by rw [Nat.mul_comm]; exact Nat.div_add_mod _ _
  constructor
  · unfold ofV; rw [hA, hp, ho]; simp only [Int.toNat_natCast, e]; simp [ha]
  · unfold ofE; rw [hA, hp, ho]; simp only [Int.toNat_natCast, e]; simp [ha]
/-- So many words are in a page just if the last of them is. -/
theorem fits_last (s a n : Nat) (hs : 0 < s) (hn : 1 ≤ n) : n ≤ s - a % s ↔ (a + (n - 1)) / s = a / s := by
  have h1 := Nat.div_add_mod a s
  have h2 := Nat.mod_lt a hs
  generalize a / s = q at *
  generalize a % s = r at *
  subst h1
  constructor
  · intro h
    rw [Nat.add_assoc, Nat.mul_add_div hs, Nat.div_eq_of_lt (by omega), Nat.add_zero]
  · intro h
    have h3 := Nat.div_add_mod (s * q + r + (n - 1)) s
    have h4 := Nat.mod_lt (s * q + r + (n - 1)) hs
    rw [h] at h3
    omega
end Go.Proofs.Ytpkoohpobcfjcaa
