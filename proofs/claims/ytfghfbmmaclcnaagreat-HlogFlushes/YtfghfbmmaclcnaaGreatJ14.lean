/- Parts of the proof: Xc. -/
import Derived.Test.YtfghfbmmaclcnaaGreatJ3
namespace Go.Proofs.YtfghfbmmaclcnaaGreat
set_option maxRecDepth 20000
open Go.RowKit
set_option maxHeartbeats 400000 in
theorem has_nil (i : Int) (w : World) :
    Calls Tryz.prog 136 #[.pointer none, .int .i64 i] w fun e w' => e = .returned (.bool false) ∧ w' = w := by
  by_cases h : 0 ≤ i
  · go_enter Tryz.func136, Tryz.ntmps136
    go_wp2_with fail
    refine (len_nil _).mono ?_
    rintro e x ⟨rfl, rfl⟩
    go_wp2
    go_ret
    exact ⟨ret_bool (by simp; omega), rfl⟩
  · go_enter Tryz.func136, Tryz.ntmps136
    go_wp2
    go_ret
    exact ⟨ret_bool (by simp), rfl⟩
set_option maxHeartbeats 400000 in
theorem one_nil (i : Int) (w : World) :
    Calls Tryz.prog 186 #[.pointer none, .int .i64 i] w fun e w' => e = .returned (.int .i64 2) ∧ w' = w := by
  go_enter Tryz.func186, Tryz.ntmps186
  go_wp2
  go_ret
  exact ⟨rfl, rfl⟩
set_option maxHeartbeats 400000 in
theorem many_nil (i n : Int) (w : World) :
    Calls Tryz.prog 144 #[.pointer none, .int .i64 i, .int .i64 n] w fun e w' => e = .returned (.int .i64 2) ∧ w' = w := by
  go_enter Tryz.func144, Tryz.ntmps144
  go_wp2
  go_ret
  exact ⟨rfl, rfl⟩
set_option maxHeartbeats 400000 in
theorem load_nil (i : Int) (w : World) :
    Calls Tryz.prog 57 #[.pointer none, .int .i64 i] w fun e w' => e = .returned (.int .u64 0) ∧ w' = w := by
  go_enter Tryz.func57, Tryz.ntmps57
  go_wp2_with fail
  refine (has_nil i _).mono ?_
  rintro e x ⟨rfl, rfl⟩
  go_wp2
  go_ret
  exact ⟨rfl, rfl⟩
set_option maxHeartbeats 400000 in
theorem store_nil (i y : Int) (w : World) :
    Calls Tryz.prog 127 #[.pointer none, .int .i64 i, .int .u64 y] w fun e w' => e = .returned (.int .i64 2) ∧ w' = w := by
  go_enter Tryz.func127, Tryz.ntmps127
  go_wp2_with fail
  refine (one_nil i _).mono ?_
  rintro e x ⟨rfl, rfl⟩
  go_wp2
  go_ret
  exact ⟨rfl, rfl⟩
set_option maxHeartbeats 400000 in
theorem cas_nil (i o y : Int) (w : World) :
    Calls Tryz.prog 124 #[.pointer none, .int .i64 i, .int .u64 o, .int .u64 y] w fun e w' => e = .returned (.tuple #[.bool false, .int .i64 2]) ∧ w' = w := by
  go_enter Tryz.func124, Tryz.ntmps124
  go_wp2_with fail
  refine (one_nil i _).mono ?_
  rintro e x ⟨rfl, rfl⟩
  go_wp2
  go_ret2
  exact ⟨rfl, rfl⟩
set_option maxHeartbeats 400000 in
theorem add_nil (i y : Int) (w : World) :
    Calls Tryz.prog 149 #[.pointer none, .int .i64 i, .int .u64 y] w fun e w' => e = .returned (.tuple #[.int .u64 0, .int .i64 2]) ∧ w' = w := by
  go_enter Tryz.func149, Tryz.ntmps149
  go_wp2_with fail
  refine (one_nil i _).mono ?_
  rintro e x ⟨rfl, rfl⟩
  go_wp2
  go_ret2
  exact ⟨rfl, rfl⟩
set_option maxHeartbeats 400000 in
theorem words_nil (i n : Int) (w : World) :
    Calls Tryz.prog 63 #[.pointer none, .int .i64 i, .int .i64 n] w fun e w' => e = .returned (.tuple #[.slice none 0 0, .int .i64 2]) ∧ w' = w := by
  go_enter Tryz.func63, Tryz.ntmps63
  go_wp2_with fail
  refine (many_nil i n _).mono ?_
  rintro e x ⟨rfl, rfl⟩
  go_wp2
  go_ret2
  exact ⟨rfl, rfl⟩
end Go.Proofs.YtfghfbmmaclcnaaGreat
