/- The walks of the reference's functions over addresses, and of the chapter's example. -/
import Derived.Test.YtpkoohpobcfjcaaWp
namespace Go.Proofs.Ytpkoohpobcfjcaa
open Go.RowKit

set_option maxHeartbeats 400000 in
theorem rsize_any (b : Int) (w : World) :
    Calls Try.prog 26 #[.int .i64 b] w fun e w' => e = .returned (.int .i64 (sizeN b : Int)) ∧ w' = w := by
  by_cases h : 5 ≤ b ∧ b ≤ 9
  · rcases five h with rfl | rfl | rfl | rfl | rfl
    all_goals
      go_enter Try.func26, Try.ntmps26
      go_wp2
      go_ret
      exact ⟨rfl, rfl⟩
  · rw [sizeN_no h]
    have h5 : ¬ b = 5 := by omega
    have h6 : ¬ b = 6 := by omega
    have h7 : ¬ b = 7 := by omega
    have h8 : ¬ b = 8 := by omega
    have h9 : ¬ b = 9 := by omega
    clear h
    go_enter Try.func26, Try.ntmps26
    go_wp2
    go_ret
    exact ⟨rfl, rfl⟩
theorem ofNat_ne {n : Nat} (h : 32 ≤ n) : ¬ ((n : Int) = 0) := by omega
end Go.Proofs.Ytpkoohpobcfjcaa
