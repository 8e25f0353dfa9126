/- Parts of the proof: Wa Mp Wp Wq. -/
import Derived.Test.YtikpphbgjbfddaaJ1
namespace Go.Proofs.Ytikpphbgjbfddaa
set_option maxRecDepth 20000
open Go.RowKit
set_option maxHeartbeats 400000 in
theorem right_any (a b : Int) (w : World) :
    Calls Try.prog 83 #[.int .i64 a, .int .i64 b] w fun e w' => e = .returned (.bool (rightB a b)) ∧ w' = w := by
  by_cases h0 : 0 ≤ a
  · by_cases h1 : a < 64
    · by_cases h2 : 1 ≤ b
      · go_enter Try.func83, Try.ntmps83
        go_wp2
        go_ret
        exact ⟨by simp [rightB, h0, h1, h2], rfl⟩
      · go_enter Try.func83, Try.ntmps83
        go_wp2
        go_ret
        exact ⟨by simp [rightB]; omega, rfl⟩
    · go_enter Try.func83, Try.ntmps83
      go_wp2
      go_ret
      exact ⟨by simp [rightB]; omega, rfl⟩
  · go_enter Try.func83, Try.ntmps83
    go_wp2
    go_ret
    exact ⟨by simp [rightB]; omega, rfl⟩

set_option maxHeartbeats 400000 in
theorem most_any (b : Int) (w : World) :
    Calls Try.prog 84 #[.int .i64 b] w fun e w' => e = .returned (.int .u64 (mostN b : Int)) ∧ w' = w := by
  by_cases h0 : b < 1
  · rw [most_lo b h0]
    go_enter Try.func84, Try.ntmps84
    go_wp2
    go_ret
    exact ⟨rfl, rfl⟩
  · by_cases h1 : 64 ≤ b
    · rw [most_hi b h1]
      go_enter Try.func84, Try.ntmps84
      go_wp2
      go_ret
      exact ⟨rfl, rfl⟩
    · go_enter Try.func84, Try.ntmps84
      go_wp2
      go_ret
      exact ⟨ret_int (wrap_pow b (by omega) (by omega)), rfl⟩

set_option maxHeartbeats 400000 in
theorem get_yes (n : Nat) (a b : Int) (w : World) (hn : n < 18446744073709551616) (hr : rightB a b = true) :
    Calls Try.prog 62 #[.int .u64 (n : Int), .int .i64 a, .int .i64 b] w fun e w' => e = .returned (.int .u64 (getN n a.toNat b.toNat : Int)) ∧ ∃ k, w' = w.drewN k := by
  have H : Hid (bits .and .u64 ((n : Int) / 2 ^ min a.toNat 64) (mostN b : Int) = (getN n a.toNat b.toNat : Int)) := get_bits n a b hn hr
  have ha : 0 ≤ a := ((rightB_iff a b).1 hr).1
  go_enter Try.func62, Try.ntmps62
  go_wp2_with (go_at_call 83; refine (right_any _ _ _).mono ?_; rintro e w' ⟨rfl, rfl⟩)
  go_quiet ((go_at_call 84; exact Calls.quiet_of_same (most_any _ _)))
  go_wp2
  go_ret
  exact ⟨ret_int H.out, _, rfl⟩
set_option maxHeartbeats 400000 in
theorem get_no (n : Nat) (a b : Int) (w : World) (hr : rightB a b = false) :
    Calls Try.prog 62 #[.int .u64 (n : Int), .int .i64 a, .int .i64 b] w fun e w' => e = .returned (.int .u64 0) ∧ w' = w := by
  go_enter Try.func62, Try.ntmps62
  go_wp2_with (go_at_call 83; refine (right_any _ _ _).mono ?_; rintro e w' ⟨rfl, rfl⟩)
  go_ret
  exact ⟨rfl, rfl⟩
def getI (n : Nat) (a b : Int) : Nat := if rightB a b = true then getN n a.toNat b.toNat else 0
theorem get_any (n : Nat) (a b : Int) (w : World) (hn : n < 18446744073709551616) :
    Calls Try.prog 62 #[.int .u64 (n : Int), .int .i64 a, .int .i64 b] w fun e w' => e = .returned (.int .u64 (getI n a b : Int)) ∧ ∃ k, w' = w.drewN k := by
  cases hr : rightB a b
  · exact (get_no n a b w hr).mono fun e w' ⟨h, h'⟩ => ⟨by simp [h, getI, hr], 0, h'⟩
  · exact (get_yes n a b w hn hr).mono fun e w' ⟨h, h'⟩ => ⟨by simp [h, getI, hr], h'⟩

theorem getI_lt (n : Nat) (a b : Int) : getI n a b < 18446744073709551616 := by
  unfold getI
  split
  · rename_i hr
    have := (rightB_iff a b).1 hr
    exact getN_lt64 _ _ _ (by omega)
  · decide

set_option maxHeartbeats 400000 in
theorem put_yes (n : Nat) (a b : Int) (v : Nat) (w : World) (hn : n < 18446744073709551616) (hr : rightB a b = true) (hv : v ≤ mostN b) :
    Calls Try.prog 103 #[.int .u64 (n : Int), .int .i64 a, .int .i64 b, .int .u64 (v : Int)] w fun e w' => e = .returned (.tuple #[.int .u64 (putN n a.toNat b.toNat v : Int), .int .i64 0]) ∧ ∃ k, w' = w.drewN k := by
  have H : Hid (bits .or .u64 (bits .andNot .u64 (n : Int) (IntKind.u64.wrap ((mostN b : Int) * 2 ^ min a.toNat 64))) (IntKind.u64.wrap ((v : Int) * 2 ^ min a.toNat 64)) = (putN n a.toNat b.toNat v : Int)) := put_bits n a b v hn hr hv
  have ha : 0 ≤ a := ((rightB_iff a b).1 hr).1
  go_enter Try.func103, Try.ntmps103
  go_wp2_with (first | (go_at_call 83; refine (right_any _ _ _).mono ?_; rintro e w' ⟨rfl, rfl⟩) | (go_at_call 84; refine (most_any _ _).mono ?_; rintro e w' ⟨rfl, rfl⟩))
  go_quiet ((go_at_call 84; exact Calls.quiet_of_same (most_any _ _)))
  go_wp2
  go_ret2
  exact ⟨ret_two H.out rfl, _, rfl⟩
set_option maxHeartbeats 400000 in
theorem put_arg (n : Nat) (a b : Int) (v : Nat) (w : World) (hr : rightB a b = false) :
    Calls Try.prog 103 #[.int .u64 (n : Int), .int .i64 a, .int .i64 b, .int .u64 (v : Int)] w fun e w' => e = .returned (.tuple #[.int .u64 0, .int .i64 1]) ∧ w' = w := by
  go_enter Try.func103, Try.ntmps103
  go_wp2_with (first | (go_at_call 83; refine (right_any _ _ _).mono ?_; rintro e w' ⟨rfl, rfl⟩) | (go_at_call 84; refine (most_any _ _).mono ?_; rintro e w' ⟨rfl, rfl⟩))
  go_ret2
  exact ⟨rfl, rfl⟩
set_option maxHeartbeats 400000 in
theorem put_over (n : Nat) (a b : Int) (v : Nat) (w : World) (hr : rightB a b = true) (hv : mostN b < v) :
    Calls Try.prog 103 #[.int .u64 (n : Int), .int .i64 a, .int .i64 b, .int .u64 (v : Int)] w fun e w' => e = .returned (.tuple #[.int .u64 0, .int .i64 13]) ∧ w' = w := by
  go_enter Try.func103, Try.ntmps103
  go_wp2_with (first | (go_at_call 83; refine (right_any _ _ _).mono ?_; rintro e w' ⟨rfl, rfl⟩) | (go_at_call 84; refine (most_any _ _).mono ?_; rintro e w' ⟨rfl, rfl⟩))
  go_ret2
  exact ⟨rfl, rfl⟩
def putV (n : Nat) (a b : Int) (v : Nat) : Nat := if rightB a b = true then (if v ≤ mostN b then putN n a.toNat b.toNat v else 0) else 0
def putE (a b : Int) (v : Nat) : Int := if rightB a b = true then (if v ≤ mostN b then 0 else 13) else 1
theorem put_any (n : Nat) (a b : Int) (v : Nat) (w : World) (hn : n < 18446744073709551616) :
    Calls Try.prog 103 #[.int .u64 (n : Int), .int .i64 a, .int .i64 b, .int .u64 (v : Int)] w fun e w' => e = .returned (.tuple #[.int .u64 (putV n a b v : Int), .int .i64 (putE a b v)]) ∧ ∃ k, w' = w.drewN k := by
  cases hr : rightB a b
  · exact (put_arg n a b v w hr).mono fun e w' ⟨h, h'⟩ => ⟨by simp [h, putV, putE, hr], 0, h'⟩
  · by_cases hv : v ≤ mostN b
    · exact (put_yes n a b v w hn hr hv).mono fun e w' ⟨h, h'⟩ => ⟨by simp [h, putV, putE, hr, hv], h'⟩
    · exact (put_over n a b v w hr (by omega)).mono fun e w' ⟨h, h'⟩ => ⟨by simp [h, putV, putE, hr, hv], 0, h'⟩
theorem putV_lt (n : Nat) (a b : Int) (v : Nat) (hn : n < 18446744073709551616) : putV n a b v < 18446744073709551616 := by
  unfold putV
  split
  · split
    · exact putN_lt64 n a b v hn ‹_› ‹_›
    · decide
  · decide
set_option maxHeartbeats 400000 in
theorem flag_any (n : Nat) (a : Int) (w : World) (hn : n < 18446744073709551616) :
    Calls Try.prog 88 #[.int .u64 (n : Int), .int .i64 a] w fun e w' => e = .returned (.bool ((getI n a 1 : Int) == 1)) ∧ ∃ k, w' = w.drewN k := by
  go_enter Try.func88, Try.ntmps88
  go_wp2_with (go_at_call 62; refine (get_any _ _ _ _ hn).mono ?_; rintro e w' ⟨rfl, k, rfl⟩)
  all_goals go_ret
  all_goals exact ⟨rfl, _, rfl⟩

def setN (n : Nat) (a : Int) (on : Bool) : Nat := if 0 ≤ a ∧ a < 64 then putN n a.toNat 1 (if on then 1 else 0) else n
set_option maxHeartbeats 400000 in
theorem set_any (n : Nat) (a : Int) (on : Bool) (w : World) (hn : n < 18446744073709551616) :
    Calls Try.prog 90 #[.int .u64 (n : Int), .int .i64 a, .bool on] w fun e w' => e = .returned (.int .u64 (setN n a on : Int)) ∧ w' = w := by
  by_cases h : 0 ≤ a ∧ a < 64
  · obtain ⟨h0, h1⟩ := h
    have hr : rightB a 1 = true := by rw [rightB_iff]; omega
    have H1 : Hid (bits .andNot .u64 (n : Int) (IntKind.u64.wrap (2 ^ a.toNat)) = (putN n a.toNat 1 0 : Int)) := set_off n a hn h0 h1
    have H2 : Hid (bits .or .u64 (n : Int) (IntKind.u64.wrap (2 ^ a.toNat)) = (putN n a.toNat 1 1 : Int)) := set_on n a hn h0 h1
    have E1 : Hid (setN n a false = putN n a.toNat 1 0) := by simp [Hid, setN, h0, h1]
    have E2 : Hid (setN n a true = putN n a.toNat 1 1) := by simp [Hid, setN, h0, h1]
    cases on
    · go_enter Try.func90, Try.ntmps90
      go_wp2_with (go_at_call 83; refine (right_any _ _ _).mono ?_; rintro e w' ⟨rfl, rfl⟩)
      go_ret
      exact ⟨ret_int (by rw [E1.out, H1.out]), rfl⟩
    · go_enter Try.func90, Try.ntmps90
      go_wp2_with (go_at_call 83; refine (right_any _ _ _).mono ?_; rintro e w' ⟨rfl, rfl⟩)
      go_ret
      exact ⟨ret_int (by rw [E2.out, H2.out]), rfl⟩
  · have hr : rightB a 1 = false := by rw [rightB_not]; omega
    have E1 : Hid (setN n a on = n) := by simp only [Hid, setN, if_neg h]
    go_enter Try.func90, Try.ntmps90
    go_wp2_with (go_at_call 83; refine (right_any _ _ _).mono ?_; rintro e w' ⟨rfl, rfl⟩)
    go_ret
    exact ⟨ret_int (by rw [E1.out]), rfl⟩
end Go.Proofs.Ytikpphbgjbfddaa
namespace Go.Proofs.Ytikpphbgjbfddaa
set_option maxRecDepth 20000

def mayB (b : Int) : Bool := decide (5 ≤ b ∧ b ≤ 9)
def sizeN (b : Int) : Nat := if 5 ≤ b ∧ b ≤ 9 then 2 ^ b.toNat else 0
def partsB (b : Int) (a : Nat) : Bool := decide ((5 ≤ b ∧ b ≤ 9) ∧ a ≤ 281474976710655)
def pageN (b : Int) (a : Nat) : Nat := if (5 ≤ b ∧ b ≤ 9) ∧ a ≤ 281474976710655 then a / 2 ^ b.toNat else 0
def offN (b : Int) (a : Nat) : Nat := if (5 ≤ b ∧ b ≤ 9) ∧ a ≤ 281474976710655 then a % 2 ^ b.toNat else 0
def roomN (b : Int) (a : Nat) : Nat := if (5 ≤ b ∧ b ≤ 9) ∧ a ≤ 281474976710655 then 2 ^ b.toNat - a % 2 ^ b.toNat else 0
/-- Is it told ErrArg? -/
def ofArg (b p o : Int) : Bool := decide (¬ ((5 ≤ b ∧ b ≤ 9) ∧ 0 ≤ p ∧ 0 ≤ o ∧ o < (sizeN b : Int)))
def ofV (b p o : Int) : Nat := if ofArg b p o = true then 0 else if p.toNat * 2 ^ b.toNat + o.toNat ≤ 281474976710655 then p.toNat * 2 ^ b.toNat + o.toNat else 0
def ofE (b p o : Int) : Int := if ofArg b p o = true then 1 else if p.toNat * 2 ^ b.toNat + o.toNat ≤ 281474976710655 then 0 else 13
def fitsB (b : Int) (a : Nat) (n : Int) : Bool := decide (1 ≤ n ∧ n ≤ (roomN b a : Int))
def addV (a : Nat) (n : Int) : Nat := if a ≤ 281474976710655 ∧ 0 ≤ n then (if a + n.toNat ≤ 281474976710655 then a + n.toNat else 0) else 0
def addE (a : Nat) (n : Int) : Int := if a ≤ 281474976710655 ∧ 0 ≤ n then (if a + n.toNat ≤ 281474976710655 then 0 else 13) else 1

/-- The page sizes, one by one. -/
theorem five {b : Int} (h : 5 ≤ b ∧ b ≤ 9) : b = 5 ∨ b = 6 ∨ b = 7 ∨ b = 8 ∨ b = 9 := by omega
theorem sizeN_yes {b : Int} (h : 5 ≤ b ∧ b ≤ 9) : sizeN b = 2 ^ b.toNat := by simp [sizeN, h]
theorem sizeN_no {b : Int} (h : ¬ (5 ≤ b ∧ b ≤ 9)) : sizeN b = 0 := by simp only [sizeN, if_neg h]
theorem sizeN_bounds (b : Int) : sizeN b ≤ 512 := by
  by_cases h : 5 ≤ b ∧ b ≤ 9
  · rcases five h with rfl | rfl | rfl | rfl | rfl <;> decide
  · rw [sizeN_no h]; decide
theorem sizeN_pos {b : Int} (h : 5 ≤ b ∧ b ≤ 9) : 32 ≤ sizeN b := by
  rcases five h with rfl | rfl | rfl | rfl | rfl <;> decide

theorem get_page (b : Int) (a : Nat) (h : 5 ≤ b ∧ b ≤ 9) (ha : a ≤ 281474976710655) : getN a b.toNat (48 - b).toNat = a / 2 ^ b.toNat := by
  rcases five h with rfl | rfl | rfl | rfl | rfl <;> simp only [getN, show (2 : Nat) ^ Int.toNat 5 = 32 by decide, show (2 : Nat) ^ Int.toNat 6 = 64 by decide, show (2 : Nat) ^ Int.toNat 7 = 128 by decide, show (2 : Nat) ^ Int.toNat 8 = 256 by decide, show (2 : Nat) ^ Int.toNat 9 = 512 by decide,
    show (2 : Nat) ^ Int.toNat (48 - 5) = 8796093022208 by decide, show (2 : Nat) ^ Int.toNat (48 - 6) = 4398046511104 by decide, show (2 : Nat) ^ Int.toNat (48 - 7) = 2199023255552 by decide, show (2 : Nat) ^ Int.toNat (48 - 8) = 1099511627776 by decide, show (2 : Nat) ^ Int.toNat (48 - 9) = 549755813888 by decide] <;> omega
theorem get_off (b : Int) (a : Nat) : getN a 0 b.toNat = a % 2 ^ b.toNat := by simp [getN]
theorem right_page (b : Int) (h : 5 ≤ b ∧ b ≤ 9) : rightB b (48 - b) = true := by rw [rightB_iff]; omega
theorem right_off (b : Int) (h : 5 ≤ b ∧ b ≤ 9) : rightB 0 b = true := by rw [rightB_iff]; omega
theorem pageN_le (b : Int) (a : Nat) : pageN b a ≤ 281474976710655 := by
  unfold pageN
  split
  · have := Nat.div_le_self a (2 ^ b.toNat); omega
  · decide
theorem offN_le (b : Int) (a : Nat) : offN b a ≤ 511 := by
  unfold offN
  split
  · rename_i h
    have h1 := Nat.mod_lt a (pow_pos2 b.toNat)
    have h2 := sizeN_bounds b
    rw [sizeN_yes h.1] at h2
    omega
  · decide
theorem roomN_le (b : Int) (a : Nat) : roomN b a ≤ 512 := by
  unfold roomN
  split
  · rename_i h
    have h2 := sizeN_bounds b
    rw [sizeN_yes h.1] at h2
    omega
  · decide

theorem put_page (b : Int) (p o : Nat) (h : 5 ≤ b ∧ b ≤ 9) (ho : o < 2 ^ b.toNat) : putN o b.toNat (48 - b).toNat p = p * 2 ^ b.toNat + o := by
  have h1 : o / 2 ^ (b.toNat + (48 - b).toNat) = 0 := by
    apply Nat.div_eq_of_lt
    exact Nat.lt_of_lt_of_le ho (Nat.pow_le_pow_right (by decide) (by omega))
  unfold putN
  rw [h1, Nat.mod_eq_of_lt ho]
  omega
theorem most_page (b : Int) (p o : Nat) (h : 5 ≤ b ∧ b ≤ 9) (ho : o < 2 ^ b.toNat) : p ≤ mostN (48 - b) ↔ p * 2 ^ b.toNat + o ≤ 281474976710655 := by
  rw [most_mid (48 - b) (by omega) (by omega)]
  rcases five h with rfl | rfl | rfl | rfl | rfl <;> simp only [show (2 : Nat) ^ Int.toNat 5 = 32 by decide, show (2 : Nat) ^ Int.toNat 6 = 64 by decide, show (2 : Nat) ^ Int.toNat 7 = 128 by decide, show (2 : Nat) ^ Int.toNat 8 = 256 by decide, show (2 : Nat) ^ Int.toNat 9 = 512 by decide,
    show (2 : Nat) ^ Int.toNat (48 - 5) = 8796093022208 by decide, show (2 : Nat) ^ Int.toNat (48 - 6) = 4398046511104 by decide, show (2 : Nat) ^ Int.toNat (48 - 7) = 2199023255552 by decide, show (2 : Nat) ^ Int.toNat (48 - 8) = 1099511627776 by decide, show (2 : Nat) ^ Int.toNat (48 - 9) = 549755813888 by decide] at * <;> omega
theorem div_over (M s p o : Nat) (hs : 0 < s) (ho : o ≤ M) : (M - o) / s < p ↔ ¬ (p * s + o ≤ M) := by
  rw [Nat.div_lt_iff_lt_mul hs]; omega
theorem of_parts (b : Int) (a : Nat) (h : 5 ≤ b ∧ b ≤ 9) (ha : a ≤ 281474976710655) : ofV b (pageN b a) (offN b a) = a ∧ ofE b (pageN b a) (offN b a) = 0 := by
  have hp : pageN b a = a / 2 ^ b.toNat := by simp only [pageN, if_pos (And.intro h ha)]
  have ho : offN b a = a % 2 ^ b.toNat := by simp only [offN, if_pos (And.intro h ha)]
  have hl := Nat.mod_lt a (pow_pos2 b.toNat)
  have hA : ofArg b (pageN b a) (offN b a) = false := by
    unfold ofArg; rw [sizeN_yes h, ho]; simp [h]; exact ⟨by omega, by exact_mod_cast hl⟩
  have e : (a / 2 ^ b.toNat) * 2 ^ b.toNat + a % 2 ^ b.toNat = a := by rw [Nat.mul_comm]; exact Nat.div_add_mod _ _
  constructor
  · unfold ofV; rw [hA, hp, ho]; simp only [Int.toNat_natCast, e]; simp [ha]
  · unfold ofE; rw [hA, hp, ho]; simp only [Int.toNat_natCast, e]; simp [ha]
/-- So many words are in a page just if the last of them is. -/
theorem fits_last (s a n : Nat) (hs : 0 < s) (hn : 1 ≤ n) : n ≤ s - a % s ↔ (a + (n - 1)) / s = a / s := by
  have h1 := Nat.div_add_mod a s
  have h2 := Nat.mod_lt a hs
  generalize a / s = q at *
  generalize a % s = r at *
  subst h1
  constructor
  · intro h
    rw [Nat.add_assoc, Nat.mul_add_div hs, Nat.div_eq_of_lt (by omega), Nat.add_zero]
  · intro h
    have h3 := Nat.div_add_mod (s * q + r + (n - 1)) s
    have h4 := Nat.mod_lt (s * q + r + (n - 1)) hs
    rw [h] at h3
    omega
end Go.Proofs.Ytikpphbgjbfddaa
namespace Go.Proofs.Ytikpphbgjbfddaa
set_option maxRecDepth 20000
open Go.RowKit

set_option maxHeartbeats 400000 in
theorem may_any (b : Int) (w : World) :
    Calls Try.prog 36 #[.int .i64 b] w fun e w' => e = .returned (.bool (mayB b)) ∧ w' = w := by
  by_cases h0 : 5 ≤ b
  · go_enter Try.func36, Try.ntmps36
    go_wp2
    go_ret
    exact ⟨ret_bool (by simp [mayB, h0]), rfl⟩
  · go_enter Try.func36, Try.ntmps36
    go_wp2
    go_ret
    exact ⟨ret_bool (by simp only [mayB]; symm; rw [decide_eq_false_iff_not]; omega), rfl⟩
set_option maxHeartbeats 400000 in
theorem psize_any (b : Int) (w : World) :
    Calls Try.prog 76 #[.int .i64 b] w fun e w' => e = .returned (.int .i64 (sizeN b : Int)) ∧ w' = w := by
  by_cases h : 5 ≤ b ∧ b ≤ 9
  · have hm : mayB b = true := by simp [mayB, h]
    rcases five h with rfl | rfl | rfl | rfl | rfl
    all_goals
      go_enter Try.func76, Try.ntmps76
      go_wp2_with (go_at_call 36; refine (may_any _ _).mono ?_; rintro e w' ⟨rfl, rfl⟩)
      go_ret
      exact ⟨rfl, rfl⟩
  · have hm : mayB b = false := by simp only [mayB, decide_eq_false_iff_not]; exact h
    rw [sizeN_no h]
    go_enter Try.func76, Try.ntmps76
    go_wp2_with (go_at_call 36; refine (may_any _ _).mono ?_; rintro e w' ⟨rfl, rfl⟩)
    go_ret
    exact ⟨rfl, rfl⟩
set_option maxHeartbeats 400000 in
theorem parts_any (b : Int) (a : Nat) (w : World) :
    Calls Try.prog 61 #[.int .i64 b, .int .u64 (a : Int)] w fun e w' => e = .returned (.bool (partsB b a)) ∧ w' = w := by
  by_cases h : 5 ≤ b ∧ b ≤ 9
  · have hm : mayB b = true := by simp [mayB, h]
    have H : Hid (partsB b a = decide ((a : Int) ≤ 281474976710655)) := by simp only [Hid, partsB, h, true_and, and_self, decide_eq_decide]; omega
    go_enter Try.func61, Try.ntmps61
    go_wp2_with (go_at_call 36; refine (may_any _ _).mono ?_; rintro e w' ⟨rfl, rfl⟩)
    go_ret
    exact ⟨ret_bool H.out.symm, rfl⟩
  · have hm : mayB b = false := by simp only [mayB, decide_eq_false_iff_not]; exact h
    have H : Hid (partsB b a = false) := by simp only [Hid, partsB, decide_eq_false_iff_not]; exact fun x => h x.1
    go_enter Try.func61, Try.ntmps61
    go_wp2_with (go_at_call 36; refine (may_any _ _).mono ?_; rintro e w' ⟨rfl, rfl⟩)
    go_ret
    exact ⟨ret_bool H.out.symm, rfl⟩
set_option maxHeartbeats 400000 in
theorem pageBits_any (b : Int) (w : World) (h : 5 ≤ b ∧ b ≤ 9) :
    Calls Try.prog 80 #[.int .i64 b] w fun e w' => e = .returned (.int .i64 (48 - b)) ∧ w' = w := by
  go_enter Try.func80, Try.ntmps80
  go_wp2
  go_ret
  exact ⟨ret_int (by go_num), rfl⟩
set_option maxHeartbeats 400000 in
theorem page_any (b : Int) (a : Nat) (w : World) (hn : a < 18446744073709551616) :
    Calls Try.prog 57 #[.int .i64 b, .int .u64 (a : Int)] w fun e w' => e = .returned (.int .i64 (pageN b a : Int)) ∧ Below w.heap.size w w' := by
  by_cases h : (5 ≤ b ∧ b ≤ 9) ∧ a ≤ 281474976710655
  · have hp : partsB b a = true := by simp only [partsB, decide_eq_true_eq]; exact h
    have hb := h.1
    have H : Hid (getN a b.toNat (48 - b).toNat = pageN b a) := by simp only [Hid, pageN, if_pos h]; exact get_page b a h.1 h.2
    have hl := pageN_le b a
    have hr := right_page b hb
    clear h
    go_enter Try.func57, Try.ntmps57
    go_wp2_with fail
    refine (parts_any _ _ _).mono ?_
    rintro e w1 ⟨rfl, rfl⟩
    go_wp2_with fail
    refine (pageBits_any _ _ hb).mono ?_
    rintro e w2 ⟨rfl, rfl⟩
    go_wp2_with fail
    refine (get_yes _ _ _ _ hn hr).mono ?_
    rintro e w3 ⟨rfl, b3⟩
    rw [H.out]
    replace b3 := below_drewN' b3
    go_wp2
    go_ret
    exact ⟨ret_int (by go_num), b3⟩
  · have hp : partsB b a = false := by simp only [partsB, decide_eq_false_iff_not]; exact h
    have H : Hid (pageN b a = 0) := by simp only [Hid, pageN, if_neg h]
    go_enter Try.func57, Try.ntmps57
    go_wp2_with fail
    refine (parts_any _ _ _).mono ?_
    rintro e w1 ⟨rfl, rfl⟩
    go_wp2
    go_ret
    exact ⟨ret_int (by rw [H.out]; rfl), Below.refl _ _⟩
set_option maxHeartbeats 400000 in
theorem offset_any (b : Int) (a : Nat) (w : World) (hn : a < 18446744073709551616) :
    Calls Try.prog 35 #[.int .i64 b, .int .u64 (a : Int)] w fun e w' => e = .returned (.int .i64 (offN b a : Int)) ∧ Below w.heap.size w w' := by
  by_cases h : (5 ≤ b ∧ b ≤ 9) ∧ a ≤ 281474976710655
  · have hp : partsB b a = true := by simp only [partsB, decide_eq_true_eq]; exact h
    have hb := h.1
    have H : Hid (getN a (Int.toNat 0) b.toNat = offN b a) := by simp only [Hid, offN, if_pos h]; exact get_off b a
    have hl := offN_le b a
    have hr := right_off b hb
    clear h
    go_enter Try.func35, Try.ntmps35
    go_wp2_with fail
    refine (parts_any _ _ _).mono ?_
    rintro e w1 ⟨rfl, rfl⟩
    go_wp2_with fail
    refine (get_yes _ _ _ _ hn hr).mono ?_
    rintro e w3 ⟨rfl, b3⟩
    rw [H.out]
    replace b3 := below_drewN' b3
    go_wp2
    go_ret
    exact ⟨ret_int (by go_num), b3⟩
  · have hp : partsB b a = false := by simp only [partsB, decide_eq_false_iff_not]; exact h
    have H : Hid (offN b a = 0) := by simp only [Hid, offN, if_neg h]
    go_enter Try.func35, Try.ntmps35
    go_wp2_with fail
    refine (parts_any _ _ _).mono ?_
    rintro e w1 ⟨rfl, rfl⟩
    go_wp2
    go_ret
    exact ⟨ret_int (by rw [H.out]; rfl), Below.refl _ _⟩
set_option maxHeartbeats 400000 in
theorem room_any (b : Int) (a : Nat) (w : World) (hn : a < 18446744073709551616) :
    Calls Try.prog 87 #[.int .i64 b, .int .u64 (a : Int)] w fun e w' => e = .returned (.int .i64 (roomN b a : Int)) ∧ Below w.heap.size w w' := by
  by_cases h : (5 ≤ b ∧ b ≤ 9) ∧ a ≤ 281474976710655
  · have hp : partsB b a = true := by simp only [partsB, decide_eq_true_eq]; exact h
    have hb := h.1
    have hl := offN_le b a
    have hs := sizeN_bounds b
    have H : Hid ((sizeN b : Int) - (offN b a : Int) = (roomN b a : Int)) := by
      have h1 := Nat.mod_lt a (pow_pos2 b.toNat)
      simp only [Hid, roomN, offN, if_pos h, sizeN_yes hb]
      omega
    clear h
    go_enter Try.func87, Try.ntmps87
    go_wp2_with fail
    refine (parts_any _ _ _).mono ?_
    rintro e w1 ⟨rfl, rfl⟩
    go_wp2_with fail
    refine (psize_any _ _).mono ?_
    rintro e w2 ⟨rfl, rfl⟩
    go_wp2_with fail
    refine (offset_any _ _ _ hn).mono ?_
    rintro e w3 ⟨rfl, b3⟩
    go_wp2
    go_ret
    exact ⟨ret_int (by rw [← H.out]), b3⟩
  · have hp : partsB b a = false := by simp only [partsB, decide_eq_false_iff_not]; exact h
    have H : Hid (roomN b a = 0) := by simp only [Hid, roomN, if_neg h]
    go_enter Try.func87, Try.ntmps87
    go_wp2_with fail
    refine (parts_any _ _ _).mono ?_
    rintro e w1 ⟨rfl, rfl⟩
    go_wp2
    go_ret
    exact ⟨ret_int (by rw [H.out]; rfl), Below.refl _ _⟩
set_option maxHeartbeats 400000 in
theorem fits_any (b : Int) (a : Nat) (n : Int) (w : World) (ha : a < 18446744073709551616) :
    Calls Try.prog 64 #[.int .i64 b, .int .u64 (a : Int), .int .i64 n] w fun e w' => e = .returned (.bool (fitsB b a n)) ∧ Below w.heap.size w w' := by
  have hr := roomN_le b a
  by_cases h : 1 ≤ n
  · have H : Hid (fitsB b a n = decide (n ≤ (roomN b a : Int))) := by simp only [Hid, fitsB, h, true_and]
    go_enter Try.func64, Try.ntmps64
    go_wp2_with fail
    refine (room_any _ _ _ ha).mono ?_
    rintro e w1 ⟨rfl, b1⟩
    go_wp2
    go_ret
    exact ⟨ret_bool (by rw [H.out]), b1⟩
  · have H : Hid (fitsB b a n = false) := by simp only [Hid, fitsB, h, false_and, decide_false]
    go_enter Try.func64, Try.ntmps64
    go_wp2
    go_ret
    exact ⟨ret_bool (by rw [H.out]), Below.refl _ _⟩
end Go.Proofs.Ytikpphbgjbfddaa
namespace Go.Proofs.Ytikpphbgjbfddaa
set_option maxRecDepth 20000
open Go.RowKit

theorem ofNat_ne {n : Nat} (h : 32 ≤ n) : ¬ ((n : Int) = 0) := by omega
end Go.Proofs.Ytikpphbgjbfddaa
