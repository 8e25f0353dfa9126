/- The walks of package field's functions over integers alone, and of the reference's. -/
import Derived.Test.YtmpnbaiolmkhlaaW0
import Derived.Test.YtmpnbaiolmkhlaaMa
namespace Go.Proofs.Ytmpnbaiolmkhlaa
set_option maxRecDepth 20000
open Go.RowKit
set_option maxHeartbeats 400000 in
theorem right_any (a b : Int) (w : World) :
    Calls Try.prog 91 #[.int .i64 a, .int .i64 b] w fun e w' => e = .returned (.bool (rightB a b)) ∧ w' = w := by
  by_cases h0 : 0 ≤ a
  · by_cases h1 : a < 64
    · by_cases h2 : 1 ≤ b
      · go_enter Try.func91, Try.ntmps91
        go_wp2
        go_ret
        exact ⟨by simp [rightB, h0, h1, h2], rfl⟩
      · go_enter Try.func91, Try.ntmps91
        go_wp2
        go_ret
        exact ⟨by simp [rightB]; omega, rfl⟩
    · go_enter Try.func91, Try.ntmps91
      go_wp2
      go_ret
      exact ⟨by simp [rightB]; omega, rfl⟩
  · go_enter Try.func91, Try.ntmps91
    go_wp2
    go_ret
    exact ⟨by simp [rightB]; omega, rfl⟩

set_option maxHeartbeats 400000 in
theorem most_any (b : Int) (w : World) :
    Calls Try.prog 92 #[.int .i64 b] w fun e w' => e = .returned (.int .u64 (mostN b : Int)) ∧ w' = w := by
  by_cases h0 : b < 1
  · rw [most_lo b h0]
    go_enter Try.func92, Try.ntmps92
    go_wp2
    go_ret
    exact ⟨rfl, rfl⟩
  · by_cases h1 : 64 ≤ b
    · rw [most_hi b h1]
      go_enter Try.func92, Try.ntmps92
      go_wp2
      go_ret
      exact ⟨rfl, rfl⟩
    · go_enter Try.func92, Try.ntmps92
      go_wp2
      go_ret
      exact ⟨ret_int (wrap_pow b (by omega) (by omega)), rfl⟩

set_option maxHeartbeats 400000 in
theorem get_yes (n : Nat) (a b : Int) (w : World) (hn : n < 18446744073709551616) (hr : rightB a b = true) :
    Calls Try.prog 74 #[.int .u64 (n : Int), .int .i64 a, .int .i64 b] w fun e w' => e = .returned (.int .u64 (getN n a.toNat b.toNat : Int)) ∧ ∃ k, w' = w.drewN k := by
  have H : Hid (bits .and .u64 ((n : Int) / 2 ^ min a.toNat 64) (mostN b : Int) = (getN n a.toNat b.toNat : Int)) := get_bits n a b hn hr
  have ha : 0 ≤ a := ((rightB_iff a b).1 hr).1
  go_enter Try.func74, Try.ntmps74
  go_wp2_with (go_at_call 91; refine (right_any _ _ _).mono ?_; rintro e w' ⟨rfl, rfl⟩)
  go_quiet ((go_at_call 92; exact Calls.quiet_of_same (most_any _ _)))
  go_wp2
  go_ret
  exact ⟨ret_int H.out, _, rfl⟩
set_option maxHeartbeats 400000 in
theorem get_no (n : Nat) (a b : Int) (w : World) (hr : rightB a b = false) :
    Calls Try.prog 74 #[.int .u64 (n : Int), .int .i64 a, .int .i64 b] w fun e w' => e = .returned (.int .u64 0) ∧ w' = w := by
  go_enter Try.func74, Try.ntmps74
  go_wp2_with (go_at_call 91; refine (right_any _ _ _).mono ?_; rintro e w' ⟨rfl, rfl⟩)
  go_ret
  exact ⟨rfl, rfl⟩
def getI (n : Nat) (a b : Int) : Nat := if rightB a b = true then getN n a.toNat b.toNat else 0
theorem get_any (n : Nat) (a b : Int) (w : World) (hn : n < 18446744073709551616) :
    Calls Try.prog 74 #[.int .u64 (n : Int), .int .i64 a, .int .i64 b] w fun e w' => e = .returned (.int .u64 (getI n a b : Int)) ∧ ∃ k, w' = w.drewN k := by
  cases hr : rightB a b
  · exact (get_no n a b w hr).mono fun e w' ⟨h, h'⟩ => ⟨by simp [h, getI, hr], 0, h'⟩
  · exact (get_yes n a b w hn hr).mono fun e w' ⟨h, h'⟩ => ⟨by simp [h, getI, hr], h'⟩

theorem getI_lt (n : Nat) (a b : Int) : getI n a b < 18446744073709551616 := by
  unfold getI
  split
  · rename_i hr
    have := (rightB_iff a b).1 hr
    exact getN_lt64 _ _ _ (by omega)
  · decide

set_option maxHeartbeats 400000 in
theorem flag_any (n : Nat) (a : Int) (w : World) (hn : n < 18446744073709551616) :
    Calls Try.prog 89 #[.int .u64 (n : Int), .int .i64 a] w fun e w' => e = .returned (.bool ((getI n a 1 : Int) == 1)) ∧ ∃ k, w' = w.drewN k := by
  go_enter Try.func89, Try.ntmps89
  go_wp2_with (go_at_call 74; refine (get_any _ _ _ _ hn).mono ?_; rintro e w' ⟨rfl, k, rfl⟩)
  all_goals go_ret
  all_goals exact ⟨rfl, _, rfl⟩

def setN (n : Nat) (a : Int) (on : Bool) : Nat := if 0 ≤ a ∧ a < 64 then putN n a.toNat 1 (if on then 1 else 0) else n
set_option maxHeartbeats 400000 in
theorem set_any (n : Nat) (a : Int) (on : Bool) (w : World) (hn : n < 18446744073709551616) :
    Calls Try.prog 93 #[.int .u64 (n : Int), .int .i64 a, .bool on] w fun e w' => e = .returned (.int .u64 (setN n a on : Int)) ∧ w' = w := by
  by_cases h : 0 ≤ a ∧ a < 64
  · obtain ⟨h0, h1⟩ := h
    have hr : rightB a 1 = true := by rw [rightB_iff]; omega
    have H1 : Hid (bits .andNot .u64 (n : Int) (IntKind.u64.wrap (2 ^ a.toNat)) = (putN n a.toNat 1 0 : Int)) := set_off n a hn h0 h1
    have H2 : Hid (bits .or .u64 (n : Int) (IntKind.u64.wrap (2 ^ a.toNat)) = (putN n a.toNat 1 1 : Int)) := set_on n a hn h0 h1
    have E1 : Hid (setN n a false = putN n a.toNat 1 0) := by simp [Hid, setN, h0, h1]
    have E2 : Hid (setN n a true = putN n a.toNat 1 1) := by simp [Hid, setN, h0, h1]
    cases on
    · go_enter Try.func93, Try.ntmps93
      go_wp2_with (go_at_call 91; refine (right_any _ _ _).mono ?_; rintro e w' ⟨rfl, rfl⟩)
      go_ret
      exact ⟨ret_int (by rw [E1.out, H1.out]), rfl⟩
    · go_enter Try.func93, Try.ntmps93
      go_wp2_with (go_at_call 91; refine (right_any _ _ _).mono ?_; rintro e w' ⟨rfl, rfl⟩)
      go_ret
      exact ⟨ret_int (by rw [E2.out, H2.out]), rfl⟩
  · have hr : rightB a 1 = false := by rw [rightB_not]; omega
    have E1 : Hid (setN n a on = n) := by simp only [Hid, setN, if_neg h]
    go_enter Try.func93, Try.ntmps93
    go_wp2_with (go_at_call 91; refine (right_any _ _ _).mono ?_; rintro e w' ⟨rfl, rfl⟩)
    go_ret
    exact ⟨ret_int (by rw [E1.out]), rfl⟩
end Go.Proofs.Ytmpnbaiolmkhlaa
