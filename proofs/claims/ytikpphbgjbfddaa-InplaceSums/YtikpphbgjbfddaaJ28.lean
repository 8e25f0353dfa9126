/- Parts of the proof: Hc. -/
import Derived.Test.YtikpphbgjbfddaaJ5
namespace Go.Proofs.Ytikpphbgjbfddaa
set_option maxRecDepth 20000
open Go.RowKit
set_option maxHeartbeats 400000 in
theorem rlen_arg (k v : Int) (w : World) (h : k < 0 ∨ v < 0) :
    Calls Try.prog 96 #[.int .i64 k, .int .i64 v] w fun e w' => e = .returned (.tuple #[.int .u64 0, .int .i64 1]) ∧ w' = w := by
  by_cases hk : k < 0
  · go_enter Try.func96, Try.ntmps96
    go_wp2
    go_ret2
    exact ⟨rfl, rfl⟩
  · have hv : v < 0 := by omega
    clear h
    go_enter Try.func96, Try.ntmps96
    go_wp2
    go_ret2
    exact ⟨rfl, rfl⟩
set_option maxHeartbeats 400000 in
theorem rlen_long (k v : Int) (w : World) (hk : 0 ≤ k) (hv : 0 ≤ v) (h : 64 < k ∨ 128 < v) :
    Calls Try.prog 96 #[.int .i64 k, .int .i64 v] w fun e w' => e = .returned (.tuple #[.int .u64 0, .int .i64 5]) ∧ w' = w := by
  by_cases hk' : 64 < k
  · clear h
    go_enter Try.func96, Try.ntmps96
    go_wp2
    go_ret2
    exact ⟨rfl, rfl⟩
  · have hv' : 128 < v := by omega
    clear h
    go_enter Try.func96, Try.ntmps96
    go_wp2
    go_ret2
    exact ⟨rfl, rfl⟩
set_option maxHeartbeats 1000000 in
theorem rlen_yes (k v : Nat) (w : World) (hk : k ≤ 64) (hv : v ≤ 128) :
    Calls Try.prog 96 #[.int .i64 (k : Int), .int .i64 (v : Int)] w fun e w' => e = .returned (.tuple #[.int .u64 (lenN k v : Int), .int .i64 0]) ∧ w' = w := by
  have H : Hid ((lenN k v : Int) = (k : Int) + (v : Int) * 65536 + 189850439385088) := by simp only [Hid, lenN]; omega
  go_enter Try.func96, Try.ntmps96
  go_wp2
  go_ret2
  exact ⟨ret_two H.out.symm rfl, rfl⟩
end Go.Proofs.Ytikpphbgjbfddaa
