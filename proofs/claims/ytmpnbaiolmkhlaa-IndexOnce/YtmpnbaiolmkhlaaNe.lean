/- The walks of entry's Fresh, To, Has and of the law's awake. -/
import Derived.Test.YtmpnbaiolmkhlaaNd
namespace Go.Proofs.Ytmpnbaiolmkhlaa
set_option maxRecDepth 20000
open Go.RowKit
set_option maxHeartbeats 1000000 in
theorem efresh_says (t p : Nat) (i : Int) (h : Says 75 #[enV 0 t true] (.returned (.tuple #[.int .u64 (p : Int), .int .i64 i]))) :
    Says 50 #[.int .u64 (t : Int)] (.returned (.tuple #[.int .u64 (p : Int), .int .i64 i])) := by
  intro w
  replace h := hide h
  go_enter Try.func50, Try.ntmps50
  go_wp2_with fail
  refine (h.out _).mono ?_
  rintro e x ⟨rfl, b1⟩
  go_wp2
  go_ret2
  exact ⟨rfl, b1⟩
set_option maxHeartbeats 1000000 in
theorem eto_no (n a a' t : Nat) (f : Bool) (i : Int) (h : Says 70 #[.int .u64 (n : Int)] (.returned (.tuple #[enV a t f, .int .i64 i]))) (hi : (i != 0) = true) :
    Says 52 #[.int .u64 (n : Int), .int .u64 (a' : Int)] (.returned (.tuple #[.int .u64 0, .int .i64 i])) := by
  intro w
  replace h := hide h
  simp only [enV] at h
  go_enter Try.func52, Try.ntmps52
  go_wp2_with fail
  refine (h.out _).mono ?_
  rintro e x ⟨rfl, b1⟩
  go_wp2
  go_ret2
  exact ⟨rfl, b1.alloc b1.size _⟩
set_option maxHeartbeats 1000000 in
theorem eto_yes (n a a' t p : Nat) (f : Bool) (i : Int) (h : Says 70 #[.int .u64 (n : Int)] (.returned (.tuple #[enV a t f, .int .i64 0]))) (h' : Says 75 #[enV a' t false] (.returned (.tuple #[.int .u64 (p : Int), .int .i64 i]))) :
    Says 52 #[.int .u64 (n : Int), .int .u64 (a' : Int)] (.returned (.tuple #[.int .u64 (p : Int), .int .i64 i])) := by
  intro w
  replace h := hide h
  replace h' := hide h'
  simp only [enV] at h h'
  go_enter Try.func52, Try.ntmps52
  go_wp2_with fail
  refine (h.out _).mono ?_
  rintro e x ⟨rfl, b1⟩
  go_wp2_with fail
  refine (h'.out _).mono ?_
  rintro e x2 ⟨rfl, b2⟩
  have hb := (b1.alloc b1.size (.cells #[.int .u64 (a : Int), .int .u64 (t : Int), .bool f] 40))
  replace hb := hb.trans (b2.mono hb.size)
  go_wp2
  go_ret2
  exact ⟨rfl, hb⟩
set_option maxHeartbeats 1000000 in
theorem ehas_says (n a t t' : Nat) (f : Bool) (i : Int) (h : Says 70 #[.int .u64 (n : Int)] (.returned (.tuple #[enV a t f, .int .i64 i]))) (r : Bool) (hr : Hid (r = (i == 0 && decide (t = t')))) :
    Says 47 #[.int .u64 (n : Int), .int .u64 (t' : Int)] (.returned (.bool r)) := by
  intro w
  replace h := hide h
  simp only [enV] at h
  cases hi : (i == 0)
  · have hr' : Hid (r = false) := by rw [Hid, hr.out, hi]; rfl
    go_enter Try.func47, Try.ntmps47
    go_wp2_with fail
    refine (h.out _).mono ?_
    rintro e x ⟨rfl, b1⟩
    go_wp2
    go_ret
    exact ⟨ret_bool hr'.out.symm, b1.alloc b1.size _⟩
  · have hr' : Hid (r = decide (t = t')) := by rw [Hid, hr.out, hi]; simp
    go_enter Try.func47, Try.ntmps47
    go_wp2_with fail
    refine (h.out _).mono ?_
    rintro e x ⟨rfl, b1⟩
    go_wp2
    go_ret
    exact ⟨ret_bool (by rw [hr'.out]; first | rfl | (rw [Bool.eq_iff_iff]; simp; omega)), b1.alloc b1.size _⟩
theorem one_entN : entN 0 1 true = 13835339530258874368 := by decide
end Go.Proofs.Ytmpnbaiolmkhlaa
