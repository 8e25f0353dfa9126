/- The walks of package field's functions over integers alone, and of the reference's. -/
import Derived.Test.YtpkoohpobcfjcaaW0
import Derived.Test.YtpkoohpobcfjcaaMa
namespace Go.Proofs.Ytpkoohpobcfjcaa
open Go.RowKit
set_option maxHeartbeats 400000 in
theorem right_any (a b : Int) (w : World) :
    Calls Try.prog 64 #[.int .i64 a, .int .i64 b] w fun e w' => e = .returned (.bool (rightB a b)) ∧ w' = w := by
  by_cases h0 : 0 ≤ a
  · by_cases h1 : a < 64
    · by_cases h2 : 1 ≤ b
      · go_enter Try.func64, Try.ntmps64
        go_wp2
        go_ret
        exact ⟨by simp [rightB, h0, h1, h2], rfl⟩
      · go_enter Try.func64, Try.ntmps64
        go_wp2
        go_ret
        exact ⟨by simp [rightB]; omega, rfl⟩
    · go_enter Try.func64, Try.ntmps64
      go_wp2
      go_ret
      exact ⟨by simp [rightB]; omega, rfl⟩
  · go_enter Try.func64, Try.ntmps64
    go_wp2
    go_ret
    exact ⟨by simp [rightB]; omega, rfl⟩

set_option maxHeartbeats 400000 in
theorem most_any (b : Int) (w : World) :
    Calls Try.prog 65 #[.int .i64 b] w fun e w' => e = .returned (.int .u64 (mostN b : Int)) ∧ w' = w := by
  by_cases h0 : b < 1
  · rw [most_lo b h0]
    go_enter Try.func65, Try.ntmps65
    go_wp2
    go_ret
    exact ⟨rfl, rfl⟩
  · by_cases h1 : 64 ≤ b
    · rw [most_hi b h1]
      go_enter Try.func65, Try.ntmps65
      go_wp2
      go_ret
      exact ⟨rfl, rfl⟩
    · go_enter Try.func65, Try.ntmps65
      go_wp2
      go_ret
      exact ⟨ret_int (wrap_pow b (by omega) (by omega)), rfl⟩

set_option maxHeartbeats 400000 in
theorem get_yes (n : Nat) (a b : Int) (w : World) (hn : n < 18446744073709551616) (hr : rightB a b = true) :
    Calls Try.prog 57 #[.int .u64 (n : Int), .int .i64 a, .int .i64 b] w fun e w' => e = .returned (.int .u64 (getN n a.toNat b.toNat : Int)) ∧ ∃ k, w' = w.drewN k := by
  have H : Hid (bits .and .u64 ((n : Int) / 2 ^ min a.toNat 64) (mostN b : Int) = (getN n a.toNat b.toNat : Int)) := get_bits n a b hn hr
  have ha : 0 ≤ a := ((rightB_iff a b).1 hr).1
  go_enter Try.func57, Try.ntmps57
  go_wp2_with (go_at_call 64; refine (right_any _ _ _).mono ?_; rintro e w' ⟨rfl, rfl⟩)
  go_quiet ((go_at_call 65; exact Calls.quiet_of_same (most_any _ _)))
  go_wp2
  go_ret
  exact ⟨ret_int H.out, _, rfl⟩
set_option maxHeartbeats 400000 in
theorem get_no (n : Nat) (a b : Int) (w : World) (hr : rightB a b = false) :
    Calls Try.prog 57 #[.int .u64 (n : Int), .int .i64 a, .int .i64 b] w fun e w' => e = .returned (.int .u64 0) ∧ w' = w := by
  go_enter Try.func57, Try.ntmps57
  go_wp2_with (go_at_call 64; refine (right_any _ _ _).mono ?_; rintro e w' ⟨rfl, rfl⟩)
  go_ret
  exact ⟨rfl, rfl⟩
def getI (n : Nat) (a b : Int) : Nat := if rightB a b = true then getN n a.toNat b.toNat else 0
theorem get_any (n : Nat) (a b : Int) (w : World) (hn : n < 18446744073709551616) :
    Calls Try.prog 57 #[.int .u64 (n : Int), .int .i64 a, .int .i64 b] w fun e w' => e = .returned (.int .u64 (getI n a b : Int)) ∧ ∃ k, w' = w.drewN k := by
  cases hr : rightB a b
  · exact (get_no n a b w hr).mono fun e w' ⟨h, h'⟩ => ⟨by simp [h, getI, hr], 0, h'⟩
  · exact (get_yes n a b w hn hr).mono fun e w' ⟨h, h'⟩ => ⟨by simp [h, getI, hr], h'⟩

theorem getI_lt (n : Nat) (a b : Int) : getI n a b < 18446744073709551616 := by
  unfold getI
  split
  · rename_i hr
    have := (rightB_iff a b).1 hr
    exact getN_lt64 _ _ _ (by omega)
  · decide

set_option maxHeartbeats 400000 in
theorem put_yes (n : Nat) (a b : Int) (v : Nat) (w : World) (hn : n < 18446744073709551616) (hr : rightB a b = true) (hv : v ≤ mostN b) :
    Calls Try.prog 62 #[.int .u64 (n : Int), .int .i64 a, .int .i64 b, .int .u64 (v : Int)] w fun e w' => e = .returned (.tuple #[.int .u64 (putN n a.toNat b.toNat v : Int), .int .i64 0]) ∧ ∃ k, w' = w.drewN k := by
  have H : Hid (bits .or .u64 (bits .andNot .u64 (n : Int) (IntKind.u64.wrap ((mostN b : Int) * 2 ^ min a.toNat 64))) (IntKind.u64.wrap ((v : Int) * 2 ^ min a.toNat 64)) = (putN n a.toNat b.toNat v : Int)) := put_bits n a b v hn hr hv
  have ha : 0 ≤ a := ((rightB_iff a b).1 hr).1
  go_enter Try.func62, Try.ntmps62
  go_wp2_with (first | (go_at_call 64; refine (right_any _ _ _).mono ?_; rintro e w' ⟨rfl, rfl⟩) | (go_at_call 65; refine (most_any _ _).mono ?_; rintro e w' ⟨rfl, rfl⟩))
  go_quiet ((go_at_call 65; exact Calls.quiet_of_same (most_any _ _)))
  go_wp2
  go_ret2
  exact ⟨ret_two H.out rfl, _, rfl⟩
set_option maxHeartbeats 400000 in
theorem put_arg (n : Nat) (a b : Int) (v : Nat) (w : World) (hr : rightB a b = false) :
    Calls Try.prog 62 #[.int .u64 (n : Int), .int .i64 a, .int .i64 b, .int .u64 (v : Int)] w fun e w' => e = .returned (.tuple #[.int .u64 0, .int .i64 1]) ∧ w' = w := by
  go_enter Try.func62, Try.ntmps62
  go_wp2_with (first | (go_at_call 64; refine (right_any _ _ _).mono ?_; rintro e w' ⟨rfl, rfl⟩) | (go_at_call 65; refine (most_any _ _).mono ?_; rintro e w' ⟨rfl, rfl⟩))
  go_ret2
  exact ⟨rfl, rfl⟩
set_option maxHeartbeats 400000 in
theorem put_over (n : Nat) (a b : Int) (v : Nat) (w : World) (hr : rightB a b = true) (hv : mostN b < v) :
    Calls Try.prog 62 #[.int .u64 (n : Int), .int .i64 a, .int .i64 b, .int .u64 (v : Int)] w fun e w' => e = .returned (.tuple #[.int .u64 0, .int .i64 13]) ∧ w' = w := by
  go_enter Try.func62, Try.ntmps62
  go_wp2_with (first | (go_at_call 64; refine (right_any _ _ _).mono ?_; rintro e w' ⟨rfl, rfl⟩) | (go_at_call 65; refine (most_any _ _).mono ?_; rintro e w' ⟨rfl, rfl⟩))
  go_ret2
  exact ⟨rfl, rfl⟩
def putV (n : Nat) (a b : Int) (v : Nat) : Nat := if rightB a b = true then (if v ≤ mostN b then putN n a.toNat b.toNat v else 0) else 0
def putE (a b : Int) (v : Nat) : Int := if rightB a b = true then (if v ≤ mostN b then 0 else 13) else 1
theorem put_any (n : Nat) (a b : Int) (v : Nat) (w : World) (hn : n < 18446744073709551616) :
    Calls Try.prog 62 #[.int .u64 (n : Int), .int .i64 a, .int .i64 b, .int .u64 (v : Int)] w fun e w' => e = .returned (.tuple #[.int .u64 (putV n a b v : Int), .int .i64 (putE a b v)]) ∧ ∃ k, w' = w.drewN k := by
  cases hr : rightB a b
  · exact (put_arg n a b v w hr).mono fun e w' ⟨h, h'⟩ => ⟨by simp [h, putV, putE, hr], 0, h'⟩
  · by_cases hv : v ≤ mostN b
    · exact (put_yes n a b v w hn hr hv).mono fun e w' ⟨h, h'⟩ => ⟨by simp [h, putV, putE, hr, hv], h'⟩
    · exact (put_over n a b v w hr (by omega)).mono fun e w' ⟨h, h'⟩ => ⟨by simp [h, putV, putE, hr, hv], 0, h'⟩
theorem putV_lt (n : Nat) (a b : Int) (v : Nat) (hn : n < 18446744073709551616) : putV n a b v < 18446744073709551616 := by
  unfold putV
  split
  · split
    · exact putN_lt64 n a b v hn ‹_› ‹_›
    · decide
  · decide
end Go.Proofs.Ytpkoohpobcfjcaa
