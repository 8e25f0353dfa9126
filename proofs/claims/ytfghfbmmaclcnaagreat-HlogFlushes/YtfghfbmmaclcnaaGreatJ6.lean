/- Parts of the proof: Wa Mp Wp Wq. -/
import Derived.Test.YtfghfbmmaclcnaaGreatJ1
namespace Go.Proofs.YtfghfbmmaclcnaaGreat
set_option maxRecDepth 20000
open Go.RowKit
set_option maxHeartbeats 400000 in
theorem right_any (a b : Int) (w : World) :
    Calls Tryz.prog 203 #[.int .i64 a, .int .i64 b] w fun e w' => e = .returned (.bool (rightB a b)) ∧ w' = w := by
  by_cases h0 : 0 ≤ a
  · by_cases h1 : a < 64
    · by_cases h2 : 1 ≤ b
      · go_enter Tryz.func203, Tryz.ntmps203
        go_wp2
        go_ret
        exact ⟨by simp [rightB, h0, h1, h2], rfl⟩
      · go_enter Tryz.func203, Tryz.ntmps203
        go_wp2
        go_ret
        exact ⟨by simp [rightB]; omega, rfl⟩
    · go_enter Tryz.func203, Tryz.ntmps203
      go_wp2
      go_ret
      exact ⟨by simp [rightB]; omega, rfl⟩
  · go_enter Tryz.func203, Tryz.ntmps203
    go_wp2
    go_ret
    exact ⟨by simp [rightB]; omega, rfl⟩

set_option maxHeartbeats 400000 in
theorem most_any (b : Int) (w : World) :
    Calls Tryz.prog 204 #[.int .i64 b] w fun e w' => e = .returned (.int .u64 (mostN b : Int)) ∧ w' = w := by
  by_cases h0 : b < 1
  · rw [most_lo b h0]
    go_enter Tryz.func204, Tryz.ntmps204
    go_wp2
    go_ret
    exact ⟨rfl, rfl⟩
  · by_cases h1 : 64 ≤ b
    · rw [most_hi b h1]
      go_enter Tryz.func204, Tryz.ntmps204
      go_wp2
      go_ret
      exact ⟨rfl, rfl⟩
    · go_enter Tryz.func204, Tryz.ntmps204
      go_wp2
      go_ret
      exact ⟨ret_int (wrap_pow b (by omega) (by omega)), rfl⟩

set_option maxHeartbeats 400000 in
theorem get_yes (n : Nat) (a b : Int) (w : World) (hn : n < 18446744073709551616) (hr : rightB a b = true) :
    Calls Tryz.prog 142 #[.int .u64 (n : Int), .int .i64 a, .int .i64 b] w fun e w' => e = .returned (.int .u64 (getN n a.toNat b.toNat : Int)) ∧ ∃ k, w' = w.drewN k := by
  have H : Hid (bits .and .u64 ((n : Int) / 2 ^ min a.toNat 64) (mostN b : Int) = (getN n a.toNat b.toNat : Int)) := get_bits n a b hn hr
  have ha : 0 ≤ a := ((rightB_iff a b).1 hr).1
  go_enter Tryz.func142, Tryz.ntmps142
  go_wp2_with (go_at_call 203; refine (right_any _ _ _).mono ?_; rintro e w' ⟨rfl, rfl⟩)
  go_quiet ((go_at_call 204; exact Calls.quiet_of_same (most_any _ _)))
  go_wp2
  go_ret
  exact ⟨ret_int H.out, _, rfl⟩
set_option maxHeartbeats 400000 in
theorem get_no (n : Nat) (a b : Int) (w : World) (hr : rightB a b = false) :
    Calls Tryz.prog 142 #[.int .u64 (n : Int), .int .i64 a, .int .i64 b] w fun e w' => e = .returned (.int .u64 0) ∧ w' = w := by
  go_enter Tryz.func142, Tryz.ntmps142
  go_wp2_with (go_at_call 203; refine (right_any _ _ _).mono ?_; rintro e w' ⟨rfl, rfl⟩)
  go_ret
  exact ⟨rfl, rfl⟩
def getI (n : Nat) (a b : Int) : Nat := if rightB a b = true then getN n a.toNat b.toNat else 0
theorem get_any (n : Nat) (a b : Int) (w : World) (hn : n < 18446744073709551616) :
    Calls Tryz.prog 142 #[.int .u64 (n : Int), .int .i64 a, .int .i64 b] w fun e w' => e = .returned (.int .u64 (getI n a b : Int)) ∧ ∃ k, w' = w.drewN k := by
  cases hr : rightB a b
  · exact (get_no n a b w hr).mono fun e w' ⟨h, h'⟩ => ⟨by simp [h, getI, hr], 0, h'⟩
  · exact (get_yes n a b w hn hr).mono fun e w' ⟨h, h'⟩ => ⟨by simp [h, getI, hr], h'⟩

theorem getI_lt (n : Nat) (a b : Int) : getI n a b < 18446744073709551616 := by
  unfold getI
  split
  · rename_i hr
    have := (rightB_iff a b).1 hr
    exact getN_lt64 _ _ _ (by omega)
  · decide

set_option maxHeartbeats 400000 in
theorem put_yes (n : Nat) (a b : Int) (v : Nat) (w : World) (hn : n < 18446744073709551616) (hr : rightB a b = true) (hv : v ≤ mostN b) :
    Calls Tryz.prog 232 #[.int .u64 (n : Int), .int .i64 a, .int .i64 b, .int .u64 (v : Int)] w fun e w' => e = .returned (.tuple #[.int .u64 (putN n a.toNat b.toNat v : Int), .int .i64 0]) ∧ ∃ k, w' = w.drewN k := by
  have H : Hid (bits .or .u64 (bits .andNot .u64 (n : Int) (IntKind.u64.wrap ((mostN b : Int) * 2 ^ min a.toNat 64))) (IntKind.u64.wrap ((v : Int) * 2 ^ min a.toNat 64)) = (putN n a.toNat b.toNat v : Int)) := put_bits n a b v hn hr hv
  have ha : 0 ≤ a := ((rightB_iff a b).1 hr).1
  go_enter Tryz.func232, Tryz.ntmps232
  go_wp2_with (first | (go_at_call 203; refine (right_any _ _ _).mono ?_; rintro e w' ⟨rfl, rfl⟩) | (go_at_call 204; refine (most_any _ _).mono ?_; rintro e w' ⟨rfl, rfl⟩))
  go_quiet ((go_at_call 204; exact Calls.quiet_of_same (most_any _ _)))
  go_wp2
  go_ret2
  exact ⟨ret_two H.out rfl, _, rfl⟩
set_option maxHeartbeats 400000 in
theorem put_arg (n : Nat) (a b : Int) (v : Nat) (w : World) (hr : rightB a b = false) :
    Calls Tryz.prog 232 #[.int .u64 (n : Int), .int .i64 a, .int .i64 b, .int .u64 (v : Int)] w fun e w' => e = .returned (.tuple #[.int .u64 0, .int .i64 1]) ∧ w' = w := by
  go_enter Tryz.func232, Tryz.ntmps232
  go_wp2_with (first | (go_at_call 203; refine (right_any _ _ _).mono ?_; rintro e w' ⟨rfl, rfl⟩) | (go_at_call 204; refine (most_any _ _).mono ?_; rintro e w' ⟨rfl, rfl⟩))
  go_ret2
  exact ⟨rfl, rfl⟩
set_option maxHeartbeats 400000 in
theorem put_over (n : Nat) (a b : Int) (v : Nat) (w : World) (hr : rightB a b = true) (hv : mostN b < v) :
    Calls Tryz.prog 232 #[.int .u64 (n : Int), .int .i64 a, .int .i64 b, .int .u64 (v : Int)] w fun e w' => e = .returned (.tuple #[.int .u64 0, .int .i64 13]) ∧ w' = w := by
  go_enter Tryz.func232, Tryz.ntmps232
  go_wp2_with (first | (go_at_call 203; refine (right_any _ _ _).mono ?_; rintro e w' ⟨rfl, rfl⟩) | (go_at_call 204; refine (most_any _ _).mono ?_; rintro e w' ⟨rfl, rfl⟩))
  go_ret2
  exact ⟨rfl, rfl⟩
def putV (n : Nat) (a b : Int) (v : Nat) : Nat := if rightB a b = true then (if v ≤ mostN b then putN n a.toNat b.toNat v else 0) else 0
def putE (a b : Int) (v : Nat) : Int := if rightB a b = true then (if v ≤ mostN b then 0 else 13) else 1
theorem put_any (n : Nat) (a b : Int) (v : Nat) (w : World) (hn : n < 18446744073709551616) :
    Calls Tryz.prog 232 #[.int .u64 (n : Int), .int .i64 a, .int .i64 b, .int .u64 (v : Int)] w fun e w' => e = .returned (.tuple #[.int .u64 (putV n a b v : Int), .int .i64 (putE a b v)]) ∧ ∃ k, w' = w.drewN k := by
  cases hr : rightB a b
  · exact (put_arg n a b v w hr).mono fun e w' ⟨h, h'⟩ => ⟨by simp [h, putV, putE, hr], 0, h'⟩
  · by_cases hv : v ≤ mostN b
    · exact (put_yes n a b v w hn hr hv).mono fun e w' ⟨h, h'⟩ => ⟨by simp [h, putV, putE, hr, hv], h'⟩
    · exact (put_over n a b v w hr (by omega)).mono fun e w' ⟨h, h'⟩ => ⟨by simp [h, putV, putE, hr, hv], 0, h'⟩
theorem putV_lt (n : Nat) (a b : Int) (v : Nat) (hn : n < 18446744073709551616) : putV n a b v < 18446744073709551616 := by
  unfold putV
  split
  · split
    · exact putN_lt64 n a b v hn ‹_› ‹_›
    · decide
  · decide
end Go.Proofs.YtfghfbmmaclcnaaGreat
namespace Go.Proofs.YtfghfbmmaclcnaaGreat
set_option maxRecDepth 20000

def mayB (b : Int) : Bool := decide (5 ≤ b ∧ b ≤ 9)
def sizeN (b : Int) : Nat := if 5 ≤ b ∧ b ≤ 9 then 2 ^ b.toNat else 0
def partsB (b : Int) (a : Nat) : Bool := decide ((5 ≤ b ∧ b ≤ 9) ∧ a ≤ 281474976710655)
def pageN (b : Int) (a : Nat) : Nat := if (5 ≤ b ∧ b ≤ 9) ∧ a ≤ 281474976710655 then a / 2 ^ b.toNat else 0
def offN (b : Int) (a : Nat) : Nat := if (5 ≤ b ∧ b ≤ 9) ∧ a ≤ 281474976710655 then a % 2 ^ b.toNat else 0
def roomN (b : Int) (a : Nat) : Nat := if (5 ≤ b ∧ b ≤ 9) ∧ a ≤ 281474976710655 then 2 ^ b.toNat - a % 2 ^ b.toNat else 0
/-- Is it told ErrArg? -/
def ofArg (b p o : Int) : Bool := decide (¬ ((5 ≤ b ∧ b ≤ 9) ∧ 0 ≤ p ∧ 0 ≤ o ∧ o < (sizeN b : Int)))
def ofV (b p o : Int) : Nat := if ofArg b p o = true then 0 else if p.toNat * 2 ^ b.toNat + o.toNat ≤ 281474976710655 then p.toNat * 2 ^ b.toNat + o.toNat else 0
def ofE (b p o : Int) : Int := if ofArg b p o = true then 1 else if p.toNat * 2 ^ b.toNat + o.toNat ≤ 281474976710655 then 0 else 13
def fitsB (b : Int) (a : Nat) (n : Int) : Bool := decide (1 ≤ n ∧ n ≤ (roomN b a : Int))
def addV (a : Nat) (n : Int) : Nat := if a ≤ 281474976710655 ∧ 0 ≤ n then (if a + n.toNat ≤ 281474976710655 then a + n.toNat else 0) else 0
def addE (a : Nat) (n : Int) : Int := if a ≤ 281474976710655 ∧ 0 ≤ n then (if a + n.toNat ≤ 281474976710655 then 0 else 13) else 1

/-- The page sizes, one by one. -/
theorem five {b : Int} (h : 5 ≤ b ∧ b ≤ 9) : b = 5 ∨ b = 6 ∨ b = 7 ∨ b = 8 ∨ b = 9 := by omega
theorem sizeN_yes {b : Int} (h : 5 ≤ b ∧ b ≤ 9) : sizeN b = 2 ^ b.toNat := by simp [sizeN, h]
theorem sizeN_no {b : Int} (h : ¬ (5 ≤ b ∧ b ≤ 9)) : sizeN b = 0 := by simp only [sizeN, if_neg h]
theorem sizeN_bounds (b : Int) : sizeN b ≤ 512 := by
  by_cases h : 5 ≤ b ∧ b ≤ 9
  · rcases five h with rfl | rfl | rfl | rfl | rfl <;> decide
  · rw [sizeN_no h]; decide
theorem sizeN_pos {b : Int} (h : 5 ≤ b ∧ b ≤ 9) : 32 ≤ sizeN b := by
  rcases five h with rfl | rfl | rfl | rfl | rfl <;> decide

theorem get_page (b : Int) (a : Nat) (h : 5 ≤ b ∧ b ≤ 9) (ha : a ≤ 281474976710655) : getN a b.toNat (48 - b).toNat = a / 2 ^ b.toNat := by
  rcases five h with rfl | rfl | rfl | rfl | rfl <;> simp only [getN, show (2 : Nat) ^ Int.toNat 5 = 32 by decide, show (2 : Nat) ^ Int.toNat 6 = 64 by decide, show (2 : Nat) ^ Int.toNat 7 = 128 by decide, show (2 : Nat) ^ Int.toNat 8 = 256 by decide, show (2 : Nat) ^ Int.toNat 9 = 512 by decide,
    show (2 : Nat) ^ Int.toNat (48 - 5) = 8796093022208 by decide, show (2 : Nat) ^ Int.toNat (48 - 6) = 4398046511104 by decide, show (2 : Nat) ^ Int.toNat (48 - 7) = 2199023255552 by decide, show (2 : Nat) ^ Int.toNat (48 - 8) = 1099511627776 by decide, show (2 : Nat) ^ Int.toNat (48 - 9) = 549755813888 by decide] <;> omega
theorem get_off (b : Int) (a : Nat) : getN a 0 b.toNat = a % 2 ^ b.toNat := by simp [getN]
theorem right_page (b : Int) (h : 5 ≤ b ∧ b ≤ 9) : rightB b (48 - b) = true := by rw [rightB_iff]; omega
theorem right_off (b : Int) (h : 5 ≤ b ∧ b ≤ 9) : rightB 0 b = true := by rw [rightB_iff]; omega
theorem pageN_le (b : Int) (a : Nat) : pageN b a ≤ 281474976710655 := by
  unfold pageN
  split
  · have := Nat.div_le_self a (2 ^ b.toNat); omega
  · decide
theorem offN_le (b : Int) (a : Nat) : offN b a ≤ 511 := by
  unfold offN
  split
  · rename_i h
    have h1 := Nat.mod_lt a (pow_pos2 b.toNat)
    have h2 := sizeN_bounds b
    rw [sizeN_yes h.1] at h2
    omega
  · decide
theorem roomN_le (b : Int) (a : Nat) : roomN b a ≤ 512 := by
  unfold roomN
  split
  · rename_i h
    have h2 := sizeN_bounds b
    rw [sizeN_yes h.1] at h2
    omega
  · decide

theorem put_page (b : Int) (p o : Nat) (h : 5 ≤ b ∧ b ≤ 9) (ho : o < 2 ^ b.toNat) : putN o b.toNat (48 - b).toNat p = p * 2 ^ b.toNat + o := by
  have h1 : o / 2 ^ (b.toNat + (48 - b).toNat) = 0 := by
    apply Nat.div_eq_of_lt
    exact Nat.lt_of_lt_of_le ho (Nat.pow_le_pow_right (by decide) (by omega))
  unfold putN
  rw [h1, Nat.mod_eq_of_lt ho]
  omega
theorem most_page (b : Int) (p o : Nat) (h : 5 ≤ b ∧ b ≤ 9) (ho : o < 2 ^ b.toNat) : p ≤ mostN (48 - b) ↔ p * 2 ^ b.toNat + o ≤ 281474976710655 := by
  rw [most_mid (48 - b) (by omega) (by omega)]
  rcases five h with rfl | rfl | rfl | rfl | rfl <;> simp only [show (2 : Nat) ^ Int.toNat 5 = 32 by decide, show (2 : Nat) ^ Int.toNat 6 = 64 by decide, show (2 : Nat) ^ Int.toNat 7 = 128 by decide, show (2 : Nat) ^ Int.toNat 8 = 256 by decide, show (2 : Nat) ^ Int.toNat 9 = 512 by decide,
    show (2 : Nat) ^ Int.toNat (48 - 5) = 8796093022208 by decide, show (2 : Nat) ^ Int.toNat (48 - 6) = 4398046511104 by decide, show (2 : Nat) ^ Int.toNat (48 - 7) = 2199023255552 by decide, show (2 : Nat) ^ Int.toNat (48 - 8) = 1099511627776 by decide, show (2 : Nat) ^ Int.toNat (48 - 9) = 549755813888 by decide] at * <;> omega
theorem div_over (M s p o : Nat) (hs : 0 < s) (ho : o ≤ M) : (M - o) / s < p ↔ ¬ (p * s + o ≤ M) := by
  rw [Nat.div_lt_iff_lt_mul hs]; omega
theorem of_parts (b : Int) (a : Nat) (h : 5 ≤ b ∧ b ≤ 9) (ha : a ≤ 281474976710655) : ofV b (pageN b a) (offN b a) = a ∧ ofE b (pageN b a) (offN b a) = 0 := by
  have hp : pageN b a = a / 2 ^ b.toNat := by simp only [pageN, if_pos (And.intro h ha)]
  have ho : offN b a = a % 2 ^ b.toNat := by simp only [offN, if_pos (And.intro h ha)]
  have hl := Nat.mod_lt a (pow_pos2 b.toNat)
  have hA : ofArg b (pageN b a) (offN b a) = false := by
    unfold ofArg; rw [sizeN_yes h, ho]; simp [h]; exact ⟨by omega, by exact_mod_cast hl⟩
  have e : (a / 2 ^ b.toNat) * 2 ^ b.toNat + a % 2 ^ b.toNat = a := by rw [Nat.mul_comm]; exact Nat.div_add_mod _ _
  constructor
  · unfold ofV; rw [hA, hp, ho]; simp only [Int.toNat_natCast, e]; simp [ha]
  · unfold ofE; rw [hA, hp, ho]; simp only [Int.toNat_natCast, e]; simp [ha]
/-- So many words are in a page just if the last of them is. -/
theorem fits_last (s a n : Nat) (hs : 0 < s) (hn : 1 ≤ n) : n ≤ s - a % s ↔ (a + (n - 1)) / s = a / s := by
  have h1 := Nat.div_add_mod a s
  have h2 := Nat.mod_lt a hs
  generalize a / s = q at *
  generalize a % s = r at *
  subst h1
  constructor
  · intro h
    rw [Nat.add_assoc, Nat.mul_add_div hs, Nat.div_eq_of_lt (by omega), Nat.add_zero]
  · intro h
    have h3 := Nat.div_add_mod (s * q + r + (n - 1)) s
    have h4 := Nat.mod_lt (s * q + r + (n - 1)) hs
    rw [h] at h3
    omega
end Go.Proofs.YtfghfbmmaclcnaaGreat
namespace Go.Proofs.YtfghfbmmaclcnaaGreat
set_option maxRecDepth 20000
open Go.RowKit

set_option maxHeartbeats 400000 in
theorem may_any (b : Int) (w : World) :
    Calls Tryz.prog 159 #[.int .i64 b] w fun e w' => e = .returned (.bool (mayB b)) ∧ w' = w := by
  by_cases h0 : 5 ≤ b
  · go_enter Tryz.func159, Tryz.ntmps159
    go_wp2
    go_ret
    exact ⟨ret_bool (by simp [mayB, h0]), rfl⟩
  · go_enter Tryz.func159, Tryz.ntmps159
    go_wp2
    go_ret
    exact ⟨ret_bool (by simp only [mayB]; symm; rw [decide_eq_false_iff_not]; omega), rfl⟩
set_option maxHeartbeats 400000 in
theorem psize_any (b : Int) (w : World) :
    Calls Tryz.prog 161 #[.int .i64 b] w fun e w' => e = .returned (.int .i64 (sizeN b : Int)) ∧ w' = w := by
  by_cases h : 5 ≤ b ∧ b ≤ 9
  · have hm : mayB b = true := by simp [mayB, h]
    rcases five h with rfl | rfl | rfl | rfl | rfl
    all_goals
      go_enter Tryz.func161, Tryz.ntmps161
      go_wp2_with (go_at_call 159; refine (may_any _ _).mono ?_; rintro e w' ⟨rfl, rfl⟩)
      go_ret
      exact ⟨rfl, rfl⟩
  · have hm : mayB b = false := by simp only [mayB, decide_eq_false_iff_not]; exact h
    rw [sizeN_no h]
    go_enter Tryz.func161, Tryz.ntmps161
    go_wp2_with (go_at_call 159; refine (may_any _ _).mono ?_; rintro e w' ⟨rfl, rfl⟩)
    go_ret
    exact ⟨rfl, rfl⟩
set_option maxHeartbeats 400000 in
theorem parts_any (b : Int) (a : Nat) (w : World) :
    Calls Tryz.prog 141 #[.int .i64 b, .int .u64 (a : Int)] w fun e w' => e = .returned (.bool (partsB b a)) ∧ w' = w := by
  by_cases h : 5 ≤ b ∧ b ≤ 9
  · have hm : mayB b = true := by simp [mayB, h]
    have H : Hid (partsB b a = decide ((a : Int) ≤ 281474976710655)) := by simp only [Hid, partsB, h, true_and, and_self, decide_eq_decide]; omega
    go_enter Tryz.func141, Tryz.ntmps141
    go_wp2_with (go_at_call 159; refine (may_any _ _).mono ?_; rintro e w' ⟨rfl, rfl⟩)
    go_ret
    exact ⟨ret_bool H.out.symm, rfl⟩
  · have hm : mayB b = false := by simp only [mayB, decide_eq_false_iff_not]; exact h
    have H : Hid (partsB b a = false) := by simp only [Hid, partsB, decide_eq_false_iff_not]; exact fun x => h x.1
    go_enter Tryz.func141, Tryz.ntmps141
    go_wp2_with (go_at_call 159; refine (may_any _ _).mono ?_; rintro e w' ⟨rfl, rfl⟩)
    go_ret
    exact ⟨ret_bool H.out.symm, rfl⟩
set_option maxHeartbeats 400000 in
theorem pageBits_any (b : Int) (w : World) (h : 5 ≤ b ∧ b ≤ 9) :
    Calls Tryz.prog 143 #[.int .i64 b] w fun e w' => e = .returned (.int .i64 (48 - b)) ∧ w' = w := by
  go_enter Tryz.func143, Tryz.ntmps143
  go_wp2
  go_ret
  exact ⟨ret_int (by go_num), rfl⟩
set_option maxHeartbeats 400000 in
theorem page_any (b : Int) (a : Nat) (w : World) (hn : a < 18446744073709551616) :
    Calls Tryz.prog 61 #[.int .i64 b, .int .u64 (a : Int)] w fun e w' => e = .returned (.int .i64 (pageN b a : Int)) ∧ Below w.heap.size w w' := by
  by_cases h : (5 ≤ b ∧ b ≤ 9) ∧ a ≤ 281474976710655
  · have hp : partsB b a = true := by simp only [partsB, decide_eq_true_eq]; exact h
    have hb := h.1
    have H : Hid (getN a b.toNat (48 - b).toNat = pageN b a) := by simp only [Hid, pageN, if_pos h]; exact get_page b a h.1 h.2
    have hl := pageN_le b a
    have hr := right_page b hb
    clear h
    go_enter Tryz.func61, Tryz.ntmps61
    go_wp2_with fail
    refine (parts_any _ _ _).mono ?_
    rintro e w1 ⟨rfl, rfl⟩
    go_wp2_with fail
    refine (pageBits_any _ _ hb).mono ?_
    rintro e w2 ⟨rfl, rfl⟩
    go_wp2_with fail
    refine (get_yes _ _ _ _ hn hr).mono ?_
    rintro e w3 ⟨rfl, b3⟩
    rw [H.out]
    replace b3 := below_drewN' b3
    go_wp2
    go_ret
    exact ⟨ret_int (by go_num), b3⟩
  · have hp : partsB b a = false := by simp only [partsB, decide_eq_false_iff_not]; exact h
    have H : Hid (pageN b a = 0) := by simp only [Hid, pageN, if_neg h]
    go_enter Tryz.func61, Tryz.ntmps61
    go_wp2_with fail
    refine (parts_any _ _ _).mono ?_
    rintro e w1 ⟨rfl, rfl⟩
    go_wp2
    go_ret
    exact ⟨ret_int (by rw [H.out]; rfl), Below.refl _ _⟩
set_option maxHeartbeats 400000 in
theorem offset_any (b : Int) (a : Nat) (w : World) (hn : a < 18446744073709551616) :
    Calls Tryz.prog 128 #[.int .i64 b, .int .u64 (a : Int)] w fun e w' => e = .returned (.int .i64 (offN b a : Int)) ∧ Below w.heap.size w w' := by
  by_cases h : (5 ≤ b ∧ b ≤ 9) ∧ a ≤ 281474976710655
  · have hp : partsB b a = true := by simp only [partsB, decide_eq_true_eq]; exact h
    have hb := h.1
    have H : Hid (getN a (Int.toNat 0) b.toNat = offN b a) := by simp only [Hid, offN, if_pos h]; exact get_off b a
    have hl := offN_le b a
    have hr := right_off b hb
    clear h
    go_enter Tryz.func128, Tryz.ntmps128
    go_wp2_with fail
    refine (parts_any _ _ _).mono ?_
    rintro e w1 ⟨rfl, rfl⟩
    go_wp2_with fail
    refine (get_yes _ _ _ _ hn hr).mono ?_
    rintro e w3 ⟨rfl, b3⟩
    rw [H.out]
    replace b3 := below_drewN' b3
    go_wp2
    go_ret
    exact ⟨ret_int (by go_num), b3⟩
  · have hp : partsB b a = false := by simp only [partsB, decide_eq_false_iff_not]; exact h
    have H : Hid (offN b a = 0) := by simp only [Hid, offN, if_neg h]
    go_enter Tryz.func128, Tryz.ntmps128
    go_wp2_with fail
    refine (parts_any _ _ _).mono ?_
    rintro e w1 ⟨rfl, rfl⟩
    go_wp2
    go_ret
    exact ⟨ret_int (by rw [H.out]; rfl), Below.refl _ _⟩
set_option maxHeartbeats 400000 in
theorem of_yes (b p o : Int) (w : World) (hpm : p ≤ 9223372036854775807) (hA : ofArg b p o = false) :
    Calls Tryz.prog 231 #[.int .i64 b, .int .i64 p, .int .i64 o] w fun e w' => e = .returned (.tuple #[.int .u64 (ofV b p o : Int), .int .i64 (ofE b p o)]) ∧ Below w.heap.size w w' := by
  have h := hA
  simp only [ofArg, decide_eq_false_iff_not, Decidable.not_not] at h
  obtain ⟨hb, hp, ho, hos⟩ := h
  have hm : mayB b = true := by simp only [mayB, decide_eq_true_eq]; exact hb
  obtain ⟨P, rfl⟩ := Int.eq_ofNat_of_zero_le hp
  obtain ⟨O, rfl⟩ := Int.eq_ofNat_of_zero_le ho
  have hs := sizeN_bounds b
  have hO : O < 2 ^ b.toNat := by rw [← sizeN_yes hb]; omega
  have hr := right_page b hb
  have HV : Hid (putV O b (48 - b) P = ofV b P O) := by
    simp only [Hid, putV, ofV, hr, hA, if_true, Int.toNat_natCast, most_page b P O hb hO, put_page b P O hb hO, Bool.false_eq_true, if_false]
  have HE : Hid (putE b (48 - b) P = ofE b P O) := by
    simp only [Hid, putE, ofE, hr, hA, if_true, Int.toNat_natCast, most_page b P O hb hO, Bool.false_eq_true, if_false]
  clear hO hA hr
  go_enter Tryz.func231, Tryz.ntmps231
  go_wp2_with fail
  refine (may_any _ _).mono ?_
  rintro e w1 ⟨rfl, rfl⟩
  go_wp2_with fail
  refine (psize_any _ _).mono ?_
  rintro e w1 ⟨rfl, rfl⟩
  go_wp2_with fail
  refine (pageBits_any _ _ hb).mono ?_
  rintro e w2 ⟨rfl, rfl⟩
  go_wp2_with fail
  refine (put_any O _ _ P _ (by omega)).mono ?_
  rintro e w3 ⟨rfl, b3⟩
  rw [HV.out, HE.out]
  replace b3 := below_drewN' b3
  go_wp2
  go_ret2
  exact ⟨rfl, b3⟩
set_option maxHeartbeats 400000 in
theorem of_no (b p o : Int) (w : World) (hA : ofArg b p o = true) :
    Calls Tryz.prog 231 #[.int .i64 b, .int .i64 p, .int .i64 o] w fun e w' => e = .returned (.tuple #[.int .u64 0, .int .i64 1]) ∧ Below w.heap.size w w' := by
  have h := hA
  simp only [ofArg, decide_eq_true_eq] at h
  clear hA
  by_cases hb : 5 ≤ b ∧ b ≤ 9
  · have hm : mayB b = true := by simp only [mayB, decide_eq_true_eq]; exact hb
    have hs := sizeN_bounds b
    by_cases hp : 0 ≤ p
    · by_cases ho : 0 ≤ o
      · have hos : ¬ o < (sizeN b : Int) := fun x => h ⟨hb, hp, ho, x⟩
        go_enter Tryz.func231, Tryz.ntmps231
        go_wp2_with fail
        refine (may_any _ _).mono ?_
        rintro e w1 ⟨rfl, rfl⟩
        go_wp2_with fail
        refine (psize_any _ _).mono ?_
        rintro e w1 ⟨rfl, rfl⟩
        go_wp2
        go_ret2
        exact ⟨rfl, Below.refl _ _⟩
      · go_enter Tryz.func231, Tryz.ntmps231
        go_wp2_with fail
        refine (may_any _ _).mono ?_
        rintro e w1 ⟨rfl, rfl⟩
        go_wp2
        go_ret2
        exact ⟨rfl, Below.refl _ _⟩
    · go_enter Tryz.func231, Tryz.ntmps231
      go_wp2_with fail
      refine (may_any _ _).mono ?_
      rintro e w1 ⟨rfl, rfl⟩
      go_wp2
      go_ret2
      exact ⟨rfl, Below.refl _ _⟩
  · have hm : mayB b = false := by simp only [mayB, decide_eq_false_iff_not]; exact hb
    go_enter Tryz.func231, Tryz.ntmps231
    go_wp2_with fail
    refine (may_any _ _).mono ?_
    rintro e w1 ⟨rfl, rfl⟩
    go_wp2
    go_ret2
    exact ⟨rfl, Below.refl _ _⟩
theorem of_any (b p o : Int) (w : World) (hpm : p ≤ 9223372036854775807) :
    Calls Tryz.prog 231 #[.int .i64 b, .int .i64 p, .int .i64 o] w fun e w' => e = .returned (.tuple #[.int .u64 (ofV b p o : Int), .int .i64 (ofE b p o)]) ∧ Below w.heap.size w w' := by
  cases hA : ofArg b p o
  · exact of_yes b p o w hpm hA
  · exact (of_no b p o w hA).mono fun e w' ⟨h, h'⟩ => ⟨by simp [h, ofV, ofE, hA], h'⟩
set_option maxHeartbeats 400000 in
theorem first_any (b p : Int) (w : World) (hpm : p ≤ 9223372036854775807) :
    Calls Tryz.prog 227 #[.int .i64 b, .int .i64 p] w fun e w' => e = .returned (.int .u64 (ofV b p 0 : Int)) ∧ Below w.heap.size w w' := by
  go_enter Tryz.func227, Tryz.ntmps227
  go_wp2_with fail
  refine (of_any _ _ _ _ hpm).mono ?_
  rintro e w1 ⟨rfl, b1⟩
  go_wp2
  go_ret
  exact ⟨rfl, b1⟩
set_option maxHeartbeats 400000 in
theorem add_any (a : Nat) (n : Int) (w : World) (hn : n ≤ 9223372036854775807) :
    Calls Tryz.prog 226 #[.int .u64 (a : Int), .int .i64 n] w fun e w' => e = .returned (.tuple #[.int .u64 (addV a n : Int), .int .i64 (addE a n)]) ∧ Below w.heap.size w w' := by
  by_cases ha : a ≤ 281474976710655
  · by_cases h0 : 0 ≤ n
    · obtain ⟨N, rfl⟩ := Int.eq_ofNat_of_zero_le h0
      by_cases hs : a + N ≤ 281474976710655
      · have HV : Hid (addV a N = a + N) := by simp [Hid, addV, ha, hs]
        have HE : Hid (addE a N = 0) := by simp [Hid, addE, ha, hs]
        go_enter Tryz.func226, Tryz.ntmps226
        go_wp2
        go_ret2
        exact ⟨ret_two (by rw [HV.out]; go_num) (by rw [HE.out]), Below.refl _ _⟩
      · have HV : Hid (addV a N = 0) := by simp [Hid, addV, ha, hs]
        have HE : Hid (addE a N = 13) := by simp [Hid, addE, ha, hs]
        go_enter Tryz.func226, Tryz.ntmps226
        go_wp2
        go_ret2
        exact ⟨ret_two (by rw [HV.out]; rfl) (by rw [HE.out]), Below.refl _ _⟩
    · have HV : Hid (addV a n = 0) := by simp only [Hid, addV, h0, and_false, if_false]
      have HE : Hid (addE a n = 1) := by simp only [Hid, addE, h0, and_false, if_false]
      go_enter Tryz.func226, Tryz.ntmps226
      go_wp2
      go_ret2
      exact ⟨ret_two (by rw [HV.out]; rfl) (by rw [HE.out]), Below.refl _ _⟩
  · have HV : Hid (addV a n = 0) := by simp only [Hid, addV, ha, false_and, if_false]
    have HE : Hid (addE a n = 1) := by simp only [Hid, addE, ha, false_and, if_false]
    go_enter Tryz.func226, Tryz.ntmps226
    go_wp2
    go_ret2
    exact ⟨ret_two (by rw [HV.out]; rfl) (by rw [HE.out]), Below.refl _ _⟩
end Go.Proofs.YtfghfbmmaclcnaaGreat
namespace Go.Proofs.YtfghfbmmaclcnaaGreat
set_option maxRecDepth 20000
open Go.RowKit

set_option maxHeartbeats 400000 in
theorem rsize_any (b : Int) (w : World) :
    Calls Tryz.prog 180 #[.int .i64 b] w fun e w' => e = .returned (.int .i64 (sizeN b : Int)) ∧ w' = w := by
  by_cases h : 5 ≤ b ∧ b ≤ 9
  · rcases five h with rfl | rfl | rfl | rfl | rfl
    all_goals
      go_enter Tryz.func180, Tryz.ntmps180
      go_wp2
      go_ret
      exact ⟨rfl, rfl⟩
  · rw [sizeN_no h]
    have h5 : ¬ b = 5 := by omega
    have h6 : ¬ b = 6 := by omega
    have h7 : ¬ b = 7 := by omega
    have h8 : ¬ b = 8 := by omega
    have h9 : ¬ b = 9 := by omega
    clear h
    go_enter Tryz.func180, Tryz.ntmps180
    go_wp2
    go_ret
    exact ⟨rfl, rfl⟩
theorem ofNat_ne {n : Nat} (h : 32 ≤ n) : ¬ ((n : Int) = 0) := by omega
set_option maxHeartbeats 400000 in
theorem rpage_any (b : Int) (a : Nat) (w : World) (hn : a < 18446744073709551616) :
    Calls Tryz.prog 190 #[.int .i64 b, .int .u64 (a : Int)] w fun e w' => e = .returned (.int .i64 (pageN b a : Int)) ∧ w' = w := by
  by_cases hb : 5 ≤ b ∧ b ≤ 9
  · have hs := sizeN_bounds b
    have hp := sizeN_pos hb
    have hz : ((sizeN b : Int) == 0) = false := by simp; omega
    by_cases ha : a ≤ 281474976710655
    · have H : Hid (a / sizeN b = pageN b a) := by simp only [Hid, pageN, if_pos (And.intro hb ha), sizeN_yes hb]
      have hd0 : 0 ≤ (a : Int) / (sizeN b : Int) := Int.natCast_ediv a (sizeN b) ▸ Int.natCast_nonneg _
      have hd : (a : Int) / (sizeN b : Int) ≤ 281474976710655 := by have := Nat.div_le_self a (sizeN b); rw [← Int.natCast_ediv]; omega
      go_enter Tryz.func190, Tryz.ntmps190
      go_wp2_with fail
      refine (rsize_any _ _).mono ?_
      rintro e w1 ⟨rfl, rfl⟩
      go_wp2
      go_ret
      exact ⟨ret_int (by rw [← H.out]; go_num), rfl⟩
    · have H : Hid (pageN b a = 0) := by simp only [Hid, pageN, if_neg (fun x : (5 ≤ b ∧ b ≤ 9) ∧ a ≤ 281474976710655 => ha x.2)]
      go_enter Tryz.func190, Tryz.ntmps190
      go_wp2_with fail
      refine (rsize_any _ _).mono ?_
      rintro e w1 ⟨rfl, rfl⟩
      go_wp2
      go_ret
      exact ⟨ret_int (by rw [H.out]; rfl), rfl⟩
  · have H : Hid (pageN b a = 0) := by simp only [Hid, pageN, if_neg (fun x : (5 ≤ b ∧ b ≤ 9) ∧ a ≤ 281474976710655 => hb x.1)]
    go_enter Tryz.func190, Tryz.ntmps190
    go_wp2_with fail
    refine (rsize_any _ _).mono ?_
    rintro e w1 ⟨rfl, rfl⟩
    rw [sizeN_no hb]
    go_wp2
    go_ret
    exact ⟨ret_int (by rw [H.out]; rfl), rfl⟩
set_option maxHeartbeats 400000 in
theorem roff_any (b : Int) (a : Nat) (w : World) (hn : a < 18446744073709551616) :
    Calls Tryz.prog 131 #[.int .i64 b, .int .u64 (a : Int)] w fun e w' => e = .returned (.int .i64 (offN b a : Int)) ∧ w' = w := by
  by_cases hb : 5 ≤ b ∧ b ≤ 9
  · have hs := sizeN_bounds b
    have hp := sizeN_pos hb
    have hz : ((sizeN b : Int) == 0) = false := by simp; omega
    by_cases ha : a ≤ 281474976710655
    · have H : Hid (a % sizeN b = offN b a) := by simp only [Hid, offN, if_pos (And.intro hb ha), sizeN_yes hb]
      have hd : a % sizeN b ≤ 511 := by have := Nat.mod_lt a (show 0 < sizeN b by omega); omega
      go_enter Tryz.func131, Tryz.ntmps131
      go_wp2_with fail
      refine (rsize_any _ _).mono ?_
      rintro e w1 ⟨rfl, rfl⟩
      go_wp2
      go_ret
      exact ⟨ret_int (by rw [← H.out]; go_num), rfl⟩
    · have H : Hid (offN b a = 0) := by simp only [Hid, offN, if_neg (fun x : (5 ≤ b ∧ b ≤ 9) ∧ a ≤ 281474976710655 => ha x.2)]
      go_enter Tryz.func131, Tryz.ntmps131
      go_wp2_with fail
      refine (rsize_any _ _).mono ?_
      rintro e w1 ⟨rfl, rfl⟩
      go_wp2
      go_ret
      exact ⟨ret_int (by rw [H.out]; rfl), rfl⟩
  · have H : Hid (offN b a = 0) := by simp only [Hid, offN, if_neg (fun x : (5 ≤ b ∧ b ≤ 9) ∧ a ≤ 281474976710655 => hb x.1)]
    go_enter Tryz.func131, Tryz.ntmps131
    go_wp2_with fail
    refine (rsize_any _ _).mono ?_
    rintro e w1 ⟨rfl, rfl⟩
    rw [sizeN_no hb]
    go_wp2
    go_ret
    exact ⟨ret_int (by rw [H.out]; rfl), rfl⟩
set_option maxHeartbeats 400000 in
theorem rroom_any (b : Int) (a : Nat) (w : World) (hn : a < 18446744073709551616) :
    Calls Tryz.prog 130 #[.int .i64 b, .int .u64 (a : Int)] w fun e w' => e = .returned (.int .i64 (roomN b a : Int)) ∧ w' = w := by
  by_cases hb : 5 ≤ b ∧ b ≤ 9
  · have hs := sizeN_bounds b
    have hp := sizeN_pos hb
    have hz : ((sizeN b : Int) == 0) = false := by simp; omega
    by_cases ha : a ≤ 281474976710655
    · have hl := offN_le b a
      have H : Hid ((sizeN b : Int) - (offN b a : Int) = (roomN b a : Int)) := by
        have h1 := Nat.mod_lt a (pow_pos2 b.toNat)
        simp only [Hid, roomN, offN, if_pos (And.intro hb ha), sizeN_yes hb]
        omega
      go_enter Tryz.func130, Tryz.ntmps130
      go_wp2_with fail
      refine (rsize_any _ _).mono ?_
      rintro e w1 ⟨rfl, rfl⟩
      go_wp2_with fail
      refine (rsize_any _ _).mono ?_
      rintro e w2 ⟨rfl, rfl⟩
      go_wp2_with fail
      refine (roff_any _ _ _ hn).mono ?_
      rintro e w2 ⟨rfl, rfl⟩
      go_wp2
      go_ret
      exact ⟨ret_int (by rw [← H.out]), rfl⟩
    · have H : Hid (roomN b a = 0) := by simp only [Hid, roomN, if_neg (fun x : (5 ≤ b ∧ b ≤ 9) ∧ a ≤ 281474976710655 => ha x.2)]
      go_enter Tryz.func130, Tryz.ntmps130
      go_wp2_with fail
      refine (rsize_any _ _).mono ?_
      rintro e w1 ⟨rfl, rfl⟩
      go_wp2
      go_ret
      exact ⟨ret_int (by rw [H.out]; rfl), rfl⟩
  · have H : Hid (roomN b a = 0) := by simp only [Hid, roomN, if_neg (fun x : (5 ≤ b ∧ b ≤ 9) ∧ a ≤ 281474976710655 => hb x.1)]
    go_enter Tryz.func130, Tryz.ntmps130
    go_wp2_with fail
    refine (rsize_any _ _).mono ?_
    rintro e w1 ⟨rfl, rfl⟩
    rw [sizeN_no hb]
    go_wp2
    go_ret
    exact ⟨ret_int (by rw [H.out]; rfl), rfl⟩
end Go.Proofs.YtfghfbmmaclcnaaGreat
