/- The walks of package cell where there is no such cell, and Add. -/
import Derived.Test.YtpnomcaionodjaaXb
namespace Go.Proofs.Ytpnomcaionodjaa
open Go.RowKit
set_option maxHeartbeats 400000 in
theorem has_no (r : Nat) (ao : Option Addr) (n cap : Nat) (i : Int) (hi : i < 0 ∨ (n : Int) ≤ i) (w : World) (h0 : w.cell? ⟨r, 0, none⟩ = some (.slice ao n cap)) :
    Calls Try.prog 23 #[.pointer (some ⟨r, 0, none⟩), .int .i64 i] w fun e w' => e = .returned (.bool false) ∧ w' = w := by
  by_cases h : 0 ≤ i
  · go_enter Try.func23, Try.ntmps23
    go_wp2_with fail
    refine (len_any r ao n cap _ h0).mono ?_
    rintro e x ⟨rfl, rfl⟩
    go_wp2
    go_ret
    exact ⟨ret_bool (by simp; omega), rfl⟩
  · go_enter Try.func23, Try.ntmps23
    go_wp2
    go_ret
    exact ⟨ret_bool (by simp), rfl⟩
set_option maxHeartbeats 400000 in
theorem one_no (r : Nat) (ao : Option Addr) (n cap : Nat) (i : Int) (hi : i < 0 ∨ (n : Int) ≤ i) (w : World) (h0 : w.cell? ⟨r, 0, none⟩ = some (.slice ao n cap)) :
    Calls Try.prog 21 #[.pointer (some ⟨r, 0, none⟩), .int .i64 i] w fun e w' => e = .returned (.int .i64 1) ∧ w' = w := by
  go_enter Try.func21, Try.ntmps21
  go_wp2_with fail
  refine (has_no r ao n cap i hi _ h0).mono ?_
  rintro e x ⟨rfl, rfl⟩
  go_wp2
  go_ret
  exact ⟨rfl, rfl⟩
set_option maxHeartbeats 400000 in
theorem load_no (r : Nat) (ao : Option Addr) (n cap : Nat) (i : Int) (hi : i < 0 ∨ (n : Int) ≤ i) (w : World) (h0 : w.cell? ⟨r, 0, none⟩ = some (.slice ao n cap)) :
    Calls Try.prog 20 #[.pointer (some ⟨r, 0, none⟩), .int .i64 i] w fun e w' => e = .returned (.int .u64 0) ∧ w' = w := by
  go_enter Try.func20, Try.ntmps20
  go_wp2_with fail
  refine (has_no r ao n cap i hi _ h0).mono ?_
  rintro e x ⟨rfl, rfl⟩
  go_wp2
  go_ret
  exact ⟨rfl, rfl⟩
end Go.Proofs.Ytpnomcaionodjaa
