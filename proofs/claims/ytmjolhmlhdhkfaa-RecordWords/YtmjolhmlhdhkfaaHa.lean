/- The walks of header's locks, and of the reference's. -/
import Derived.Test.YtmjolhmlhdhkfaaWa
import Derived.Test.YtmjolhmlhdhkfaaMj
namespace Go.Proofs.Ytmjolhmlhdhkfaa
open Go.RowKit
theorem right63 : rightB 63 1 = true := by decide
theorem right32 : rightB 0 32 = true := by decide
theorem right31 : rightB 32 31 = true := by decide
set_option maxHeartbeats 400000 in
theorem count_quiet (n : Nat) (w : World) (hn : n < 18446744073709551616) :
    Calls Try.prog 42 #[.int .u64 (n : Int)] w fun e w' => e = .returned (.int .u64 ((n % 4294967296 : Nat) : Int)) ∧ ∃ k, w' = w.drewN k := by
  have H : Hid (getN n (Int.toNat 0) (Int.toNat 32) = n % 4294967296) := get_count n
  go_enter Try.func42, Try.ntmps42
  go_wp2_with fail
  refine (get_yes _ _ _ _ hn right32).mono ?_
  rintro e x ⟨rfl, b1⟩
  rw [H.out]
  go_wp2
  go_ret
  exact ⟨rfl, b1⟩
theorem count_any (n : Nat) (w : World) (hn : n < 18446744073709551616) :
    Calls Try.prog 42 #[.int .u64 (n : Int)] w fun e w' => e = .returned (.int .u64 ((n % 4294967296 : Nat) : Int)) ∧ Below w.heap.size w w' :=
  (count_quiet n w hn).mono fun _ _ ⟨h, b⟩ => ⟨h, below_drewN' b⟩
end Go.Proofs.Ytmjolhmlhdhkfaa
