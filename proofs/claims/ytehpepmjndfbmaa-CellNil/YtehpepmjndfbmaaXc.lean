/- The walks of package cell at a nil row, and the chapter's example (awake). -/
import Derived.Test.YtehpepmjndfbmaaXb
namespace Go.Proofs.Ytehpepmjndfbmaa
open Go.RowKit
set_option maxHeartbeats 400000 in
theorem has_nil (i : Int) (w : World) :
    Calls Try.prog 19 #[.pointer none, .int .i64 i] w fun e w' => e = .returned (.bool false) ∧ w' = w := by
  by_cases h : 0 ≤ i
  · go_enter Try.func19, Try.ntmps19
    go_wp2_with fail
    refine (len_nil _).mono ?_
    rintro e x ⟨rfl, rfl⟩
    go_wp2
    go_ret
    exact ⟨ret_bool (by simp; omega), rfl⟩
  · go_enter Try.func19, Try.ntmps19
    go_wp2
    go_ret
    exact ⟨ret_bool (by simp), rfl⟩
set_option maxHeartbeats 400000 in
theorem one_nil (i : Int) (w : World) :
    Calls Try.prog 15 #[.pointer none, .int .i64 i] w fun e w' => e = .returned (.int .i64 2) ∧ w' = w := by
  go_enter Try.func15, Try.ntmps15
  go_wp2
  go_ret
  exact ⟨rfl, rfl⟩
set_option maxHeartbeats 400000 in
theorem many_nil (i n : Int) (w : World) :
    Calls Try.prog 22 #[.pointer none, .int .i64 i, .int .i64 n] w fun e w' => e = .returned (.int .i64 2) ∧ w' = w := by
  go_enter Try.func22, Try.ntmps22
  go_wp2
  go_ret
  exact ⟨rfl, rfl⟩
set_option maxHeartbeats 400000 in
theorem load_nil (i : Int) (w : World) :
    Calls Try.prog 9 #[.pointer none, .int .i64 i] w fun e w' => e = .returned (.int .u64 0) ∧ w' = w := by
  go_enter Try.func9, Try.ntmps9
  go_wp2_with fail
  refine (has_nil i _).mono ?_
  rintro e x ⟨rfl, rfl⟩
  go_wp2
  go_ret
  exact ⟨rfl, rfl⟩
set_option maxHeartbeats 400000 in
theorem store_nil (i y : Int) (w : World) :
    Calls Try.prog 7 #[.pointer none, .int .i64 i, .int .u64 y] w fun e w' => e = .returned (.int .i64 2) ∧ w' = w := by
  go_enter Try.func7, Try.ntmps7
  go_wp2_with fail
  refine (one_nil i _).mono ?_
  rintro e x ⟨rfl, rfl⟩
  go_wp2
  go_ret
  exact ⟨rfl, rfl⟩
set_option maxHeartbeats 400000 in
theorem cas_nil (i o y : Int) (w : World) :
    Calls Try.prog 8 #[.pointer none, .int .i64 i, .int .u64 o, .int .u64 y] w fun e w' => e = .returned (.tuple #[.bool false, .int .i64 2]) ∧ w' = w := by
  go_enter Try.func8, Try.ntmps8
  go_wp2_with fail
  refine (one_nil i _).mono ?_
  rintro e x ⟨rfl, rfl⟩
  go_wp2
  go_ret2
  exact ⟨rfl, rfl⟩
set_option maxHeartbeats 400000 in
theorem add_nil (i y : Int) (w : World) :
    Calls Try.prog 10 #[.pointer none, .int .i64 i, .int .u64 y] w fun e w' => e = .returned (.tuple #[.int .u64 0, .int .i64 2]) ∧ w' = w := by
  go_enter Try.func10, Try.ntmps10
  go_wp2_with fail
  refine (one_nil i _).mono ?_
  rintro e x ⟨rfl, rfl⟩
  go_wp2
  go_ret2
  exact ⟨rfl, rfl⟩
set_option maxHeartbeats 400000 in
theorem words_nil (i n : Int) (w : World) :
    Calls Try.prog 11 #[.pointer none, .int .i64 i, .int .i64 n] w fun e w' => e = .returned (.tuple #[.slice none 0 0, .int .i64 2]) ∧ w' = w := by
  go_enter Try.func11, Try.ntmps11
  go_wp2_with fail
  refine (many_nil i n _).mono ?_
  rintro e x ⟨rfl, rfl⟩
  go_wp2
  go_ret2
  exact ⟨rfl, rfl⟩
set_option maxHeartbeats 400000 in
theorem fill_nil (i : Int) (ao : Option Addr) (n cap : Nat) (w : World) :
    Calls Try.prog 14 #[.pointer none, .int .i64 i, .slice ao n cap] w fun e w' => e = .returned (.int .i64 2) ∧ w' = w := by
  go_enter Try.func14, Try.ntmps14
  go_wp2_with fail
  refine (many_nil i (n : Int) _).mono ?_
  rintro e x ⟨rfl, rfl⟩
  go_wp2
  go_ret
  exact ⟨rfl, rfl⟩
set_option maxHeartbeats 400000 in
theorem counts_nil (w : World) :
    Calls Try.prog 12 #[.pointer none] w fun e w' => e = .returned (.tuple #[.int .i64 0, .int .i64 0]) ∧ w' = w := by
  go_enter Try.func12, Try.ntmps12
  go_wp2
  go_ret2
  exact ⟨rfl, rfl⟩
set_option maxHeartbeats 1000000 in
theorem awake5_any (w : World) :
    Calls Try.prog 5 #[] w fun e w' => e = .returned (.bool true) ∧ Below w.heap.size w w' := by
  go_enter Try.func5, Try.ntmps5
  go_wp2_with fail
  refine (new_yes 2 (by decide) (by decide) _).mono ?_
  rintro e w1 ⟨r, b, rfl, h1, hr, hb, b1⟩
  go_wp2_with fail
  refine (rcas_hit h1 0 (by decide) 0 rfl 5 (by decide)).mono ?_
  rintro e w2 ⟨rfl, h2, b2⟩
  replace b2 := b1.trans (b2 _ hr hb)
  go_wp2_with fail
  refine (rcas_miss h2 0 (by decide) 0 (by decide) 6 (by decide)).mono ?_
  rintro e w3 ⟨rfl, h3, b3⟩
  replace b3 := b2.trans (b3 _ hr hb)
  go_wp2_with fail
  refine (rcounts h3).mono ?_
  rintro e w4 ⟨rfl, k, rfl⟩
  replace h3 := h3.drew k
  replace b3 := below_drewN b3 k
  go_wp2_with fail
  refine (rload h3 0 (by decide) 5 (by decide)).mono ?_
  rintro e w5 ⟨rfl, rfl⟩
  go_wp2
  go_ret
  exact ⟨rfl, b3⟩
end Go.Proofs.Ytehpepmjndfbmaa
