/- The walks of package cell where there is no such cell, and Add. -/
import Derived.Test.YtpkoohpobcfjcaaXb
namespace Go.Proofs.Ytpkoohpobcfjcaa
open Go.RowKit
set_option maxHeartbeats 400000 in
theorem has_no (r : Nat) (ao : Option Addr) (n cap : Nat) (i : Int) (hi : i < 0 ∨ (n : Int) ≤ i) (w : World) (h0 : w.cell? ⟨r, 0, none⟩ = some (.slice ao n cap)) :
    Calls Try.prog 50 #[.pointer (some ⟨r, 0, none⟩), .int .i64 i] w fun e w' => e = .returned (.bool false) ∧ w' = w := by
  by_cases h : 0 ≤ i
  · go_enter Try.func50, Try.ntmps50
    go_wp2_with fail
    refine (len_any r ao n cap _ h0).mono ?_
    rintro e x ⟨rfl, rfl⟩
    go_wp2
    go_ret
    exact ⟨ret_bool (by simp; omega), rfl⟩
  · go_enter Try.func50, Try.ntmps50
    go_wp2
    go_ret
    exact ⟨ret_bool (by simp), rfl⟩
set_option maxHeartbeats 400000 in
theorem one_no (r : Nat) (ao : Option Addr) (n cap : Nat) (i : Int) (hi : i < 0 ∨ (n : Int) ≤ i) (w : World) (h0 : w.cell? ⟨r, 0, none⟩ = some (.slice ao n cap)) :
    Calls Try.prog 42 #[.pointer (some ⟨r, 0, none⟩), .int .i64 i] w fun e w' => e = .returned (.int .i64 1) ∧ w' = w := by
  go_enter Try.func42, Try.ntmps42
  go_wp2_with fail
  refine (has_no r ao n cap i hi _ h0).mono ?_
  rintro e x ⟨rfl, rfl⟩
  go_wp2
  go_ret
  exact ⟨rfl, rfl⟩
set_option maxHeartbeats 400000 in
theorem load_no (r : Nat) (ao : Option Addr) (n cap : Nat) (i : Int) (hi : i < 0 ∨ (n : Int) ≤ i) (w : World) (h0 : w.cell? ⟨r, 0, none⟩ = some (.slice ao n cap)) :
    Calls Try.prog 41 #[.pointer (some ⟨r, 0, none⟩), .int .i64 i] w fun e w' => e = .returned (.int .u64 0) ∧ w' = w := by
  go_enter Try.func41, Try.ntmps41
  go_wp2_with fail
  refine (has_no r ao n cap i hi _ h0).mono ?_
  rintro e x ⟨rfl, rfl⟩
  go_wp2
  go_ret
  exact ⟨rfl, rfl⟩
set_option maxHeartbeats 400000 in
theorem cas_no (r : Nat) (ao : Option Addr) (n cap : Nat) (i o y : Int) (hi : i < 0 ∨ (n : Int) ≤ i) (w : World) (h0 : w.cell? ⟨r, 0, none⟩ = some (.slice ao n cap)) :
    Calls Try.prog 44 #[.pointer (some ⟨r, 0, none⟩), .int .i64 i, .int .u64 o, .int .u64 y] w fun e w' => e = .returned (.tuple #[.bool false, .int .i64 1]) ∧ w' = w := by
  go_enter Try.func44, Try.ntmps44
  go_wp2_with fail
  refine (one_no r ao n cap i hi _ h0).mono ?_
  rintro e x ⟨rfl, rfl⟩
  go_wp2
  go_ret2
  exact ⟨rfl, rfl⟩
set_option maxHeartbeats 400000 in
theorem add_yes (r b : Nat) (n cap i : Nat) (x y : Int) (hi : i < n) (hx : 0 ≤ x) (hy : 0 ≤ y) (hxy : x + y < 18446744073709551616) (w : World) (h0 : w.cell? ⟨r, 0, none⟩ = some (.slice (some ⟨b, 0, none⟩) n cap)) (h1 : w.cell? ⟨b, i, none⟩ = some (.int .u64 x)) (f1 : w.frozen? ⟨b, i, none⟩ = false) :
    Calls Try.prog 30 #[.pointer (some ⟨r, 0, none⟩), .int .i64 (i : Int), .int .u64 y] w fun e w' => e = .returned (.tuple #[.int .u64 x, .int .i64 0]) ∧ w' = w.setCell ⟨b, i, none⟩ (.int .u64 (x + y)) := by
  have hm : (x + y) % 18446744073709551616 = x + y := Int.emod_eq_of_lt (by omega) hxy
  have ha := u64_add b i x y w h1 f1
  rw [hm] at ha
  have HM := hide hm
  clear hm
  go_enter Try.func30, Try.ntmps30
  go_wp2_with fail
  refine (one_yes r _ n cap i hi _ h0).mono ?_
  rintro e x1 ⟨rfl, rfl⟩
  go_wp2_with fail
  refine ha.mono ?_
  rintro e x1 ⟨rfl, rfl⟩
  go_wp2
  go_ret2
  exact ⟨ret_two (by go_num) rfl, rfl⟩
theorem radd {r b n : Nat} {v : Nat → Int} {won lost : Int} {w : World} (h : RowIs w r b n v won lost) (i : Nat) (hi : i < n) (x : Int) (hx : v i = x) (y : Int) (hx0 : 0 ≤ x) (hy : 0 ≤ y) (hxy : x + y < 18446744073709551616) :
    Calls Try.prog 30 #[.pointer (some ⟨r, 0, none⟩), .int .i64 (i : Int), .int .u64 y] w fun e w' => e = .returned (.tuple #[.int .u64 x, .int .i64 0]) ∧ RowIs w' r b n (updV v i (x + y)) won lost ∧ ∀ B, B ≤ r → B ≤ b → Below B w w' := by
  subst hx
  refine (add_yes r b n n i (v i) y hi hx0 hy hxy w h.c0 (h.cs i hi) (h.fs i hi)).mono ?_
  rintro e w' ⟨rfl, rfl⟩
  exact ⟨rfl, h.word i hi _, fun B _ hb => (Below.refl _ _).setCell hb _⟩
end Go.Proofs.Ytpkoohpobcfjcaa
