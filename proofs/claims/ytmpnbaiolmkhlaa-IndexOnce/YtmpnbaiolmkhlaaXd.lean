/- The walks of package cell where there is no such cell, and Add. -/
import Derived.Test.YtmpnbaiolmkhlaaXb
namespace Go.Proofs.Ytmpnbaiolmkhlaa
set_option maxRecDepth 20000
open Go.RowKit
set_option maxHeartbeats 400000 in
theorem has_no (r : Nat) (ao : Option Addr) (n cap : Nat) (i : Int) (hi : i < 0 ∨ (n : Int) ≤ i) (w : World) (h0 : w.cell? ⟨r, 0, none⟩ = some (.slice ao n cap)) :
    Calls Try.prog 79 #[.pointer (some ⟨r, 0, none⟩), .int .i64 i] w fun e w' => e = .returned (.bool false) ∧ w' = w := by
  by_cases h : 0 ≤ i
  · go_enter Try.func79, Try.ntmps79
    go_wp2_with fail
    refine (len_any r ao n cap _ h0).mono ?_
    rintro e x ⟨rfl, rfl⟩
    go_wp2
    go_ret
    exact ⟨ret_bool (by simp; omega), rfl⟩
  · go_enter Try.func79, Try.ntmps79
    go_wp2
    go_ret
    exact ⟨ret_bool (by simp), rfl⟩
set_option maxHeartbeats 400000 in
theorem one_no (r : Nat) (ao : Option Addr) (n cap : Nat) (i : Int) (hi : i < 0 ∨ (n : Int) ≤ i) (w : World) (h0 : w.cell? ⟨r, 0, none⟩ = some (.slice ao n cap)) :
    Calls Try.prog 76 #[.pointer (some ⟨r, 0, none⟩), .int .i64 i] w fun e w' => e = .returned (.int .i64 1) ∧ w' = w := by
  go_enter Try.func76, Try.ntmps76
  go_wp2_with fail
  refine (has_no r ao n cap i hi _ h0).mono ?_
  rintro e x ⟨rfl, rfl⟩
  go_wp2
  go_ret
  exact ⟨rfl, rfl⟩
set_option maxHeartbeats 400000 in
theorem load_no (r : Nat) (ao : Option Addr) (n cap : Nat) (i : Int) (hi : i < 0 ∨ (n : Int) ≤ i) (w : World) (h0 : w.cell? ⟨r, 0, none⟩ = some (.slice ao n cap)) :
    Calls Try.prog 53 #[.pointer (some ⟨r, 0, none⟩), .int .i64 i] w fun e w' => e = .returned (.int .u64 0) ∧ w' = w := by
  go_enter Try.func53, Try.ntmps53
  go_wp2_with fail
  refine (has_no r ao n cap i hi _ h0).mono ?_
  rintro e x ⟨rfl, rfl⟩
  go_wp2
  go_ret
  exact ⟨rfl, rfl⟩
set_option maxHeartbeats 400000 in
theorem cas_no (r : Nat) (ao : Option Addr) (n cap : Nat) (i o y : Int) (hi : i < 0 ∨ (n : Int) ≤ i) (w : World) (h0 : w.cell? ⟨r, 0, none⟩ = some (.slice ao n cap)) :
    Calls Try.prog 51 #[.pointer (some ⟨r, 0, none⟩), .int .i64 i, .int .u64 o, .int .u64 y] w fun e w' => e = .returned (.tuple #[.bool false, .int .i64 1]) ∧ w' = w := by
  go_enter Try.func51, Try.ntmps51
  go_wp2_with fail
  refine (one_no r ao n cap i hi _ h0).mono ?_
  rintro e x ⟨rfl, rfl⟩
  go_wp2
  go_ret2
  exact ⟨rfl, rfl⟩
end Go.Proofs.Ytmpnbaiolmkhlaa
