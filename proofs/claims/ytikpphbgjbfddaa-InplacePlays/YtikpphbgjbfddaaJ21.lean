/- Parts of the proof: Ha. -/
import Derived.Test.YtikpphbgjbfddaaJ2
import Derived.Test.YtikpphbgjbfddaaJ3
namespace Go.Proofs.Ytikpphbgjbfddaa
set_option maxRecDepth 20000
open Go.RowKit
theorem right63 : rightB 63 1 = true := by decide
theorem right32 : rightB 0 32 = true := by decide
theorem right31 : rightB 32 31 = true := by decide
set_option maxHeartbeats 400000 in
theorem locked_any (n : Nat) (w : World) (hn : n < 18446744073709551616) :
    Calls Try.prog 66 #[.int .u64 (n : Int)] w fun e w' => e = .returned (.bool (writesB n)) ∧ Below w.heap.size w w' := by
  have H : Hid (((getI n 63 1 : Int) == 1) = writesB n) := by
    simp only [Hid, getI, right63, if_true]; exact get_writes n hn
  go_enter Try.func66, Try.ntmps66
  go_wp2_with fail
  refine (flag_any _ _ _ hn).mono ?_
  rintro e x ⟨rfl, b1⟩
  replace b1 := below_drewN' b1
  rw [H.out]
  go_wp2
  go_ret
  exact ⟨rfl, b1⟩
set_option maxHeartbeats 400000 in
theorem count_quiet (n : Nat) (w : World) (hn : n < 18446744073709551616) :
    Calls Try.prog 93 #[.int .u64 (n : Int)] w fun e w' => e = .returned (.int .u64 ((n % 4294967296 : Nat) : Int)) ∧ ∃ k, w' = w.drewN k := by
  have H : Hid (getN n (Int.toNat 0) (Int.toNat 32) = n % 4294967296) := get_count n
  go_enter Try.func93, Try.ntmps93
  go_wp2_with fail
  refine (get_yes _ _ _ _ hn right32).mono ?_
  rintro e x ⟨rfl, b1⟩
  rw [H.out]
  go_wp2
  go_ret
  exact ⟨rfl, b1⟩
theorem count_any (n : Nat) (w : World) (hn : n < 18446744073709551616) :
    Calls Try.prog 93 #[.int .u64 (n : Int)] w fun e w' => e = .returned (.int .u64 ((n % 4294967296 : Nat) : Int)) ∧ Below w.heap.size w w' :=
  (count_quiet n w hn).mono fun _ _ ⟨h, b⟩ => ⟨h, below_drewN' b⟩
set_option maxHeartbeats 400000 in
theorem isLock_any (n : Nat) (w : World) (hn : n < 18446744073709551616) :
    Calls Try.prog 89 #[.int .u64 (n : Int)] w fun e w' => e = .returned (.bool (isLockB n)) ∧ Below w.heap.size w w' := by
  have H : Hid (((getN n (Int.toNat 32) (Int.toNat 31) : Int) == 0) = isLockB n) := by
    show ((getN n 32 31 : Int) == 0) = isLockB n
    rw [get_empty, isLockB, Bool.eq_iff_iff]
    simp only [beq_iff_eq, decide_eq_true_eq]
    omega
  go_enter Try.func89, Try.ntmps89
  go_wp2_with fail
  refine (get_yes _ _ _ _ hn right31).mono ?_
  rintro e x ⟨rfl, b1⟩
  replace b1 := below_drewN' b1
  go_wp2
  go_ret
  exact ⟨ret_bool H.out, b1⟩
set_option maxHeartbeats 400000 in
theorem lock_form (n : Nat) (w : World) (hn : n < 18446744073709551616) (h : isLockB n = false) :
    Calls Try.prog 67 #[.int .u64 (n : Int)] w fun e w' => e = .returned (.tuple #[.int .u64 0, .int .i64 4]) ∧ Below w.heap.size w w' := by
  go_enter Try.func67, Try.ntmps67
  go_wp2_with fail
  refine (isLock_any _ _ hn).mono ?_
  rintro e x ⟨rfl, b1⟩
  go_wp2
  go_ret2
  exact ⟨rfl, b1⟩
set_option maxHeartbeats 400000 in
theorem lock_busy (n : Nat) (w : World) (hn : n < 18446744073709551616) (h : isLockB n = true) (h2 : writesB n = true) :
    Calls Try.prog 67 #[.int .u64 (n : Int)] w fun e w' => e = .returned (.tuple #[.int .u64 0, .int .i64 10]) ∧ Below w.heap.size w w' := by
  go_enter Try.func67, Try.ntmps67
  go_wp2_with fail
  refine (isLock_any _ _ hn).mono ?_
  rintro e x ⟨rfl, b1⟩
  go_wp2_with fail
  refine (locked_any _ _ hn).mono ?_
  rintro e x2 ⟨rfl, b2⟩
  replace b2 := b1.trans (b2.mono b1.size)
  go_wp2
  go_ret2
  exact ⟨rfl, b2⟩
set_option maxHeartbeats 400000 in
theorem lock_yes (n : Nat) (w : World) (hn : n < 18446744073709551616) (h : isLockB n = true) (h2 : writesB n = false) :
    Calls Try.prog 67 #[.int .u64 (n : Int)] w fun e w' => e = .returned (.tuple #[.int .u64 ((n + 9223372036854775808 : Nat) : Int), .int .i64 0]) ∧ Below w.heap.size w w' := by
  have H : Hid (setN n 63 true = n + 9223372036854775808) := set_writes n h2
  go_enter Try.func67, Try.ntmps67
  go_wp2_with fail
  refine (isLock_any _ _ hn).mono ?_
  rintro e x ⟨rfl, b1⟩
  go_wp2_with fail
  refine (locked_any _ _ hn).mono ?_
  rintro e x2 ⟨rfl, b2⟩
  replace b2 := b1.trans (b2.mono b1.size)
  go_wp2_with fail
  refine (set_any _ _ _ _ hn).mono ?_
  rintro e x3 ⟨rfl, rfl⟩
  rw [H.out]
  go_wp2
  go_ret2
  exact ⟨rfl, b2⟩
set_option maxHeartbeats 400000 in
theorem unlock_form (n : Nat) (w : World) (hn : n < 18446744073709551616) (h : isLockB n = false) :
    Calls Try.prog 72 #[.int .u64 (n : Int)] w fun e w' => e = .returned (.tuple #[.int .u64 0, .int .i64 4]) ∧ Below w.heap.size w w' := by
  go_enter Try.func72, Try.ntmps72
  go_wp2_with fail
  refine (isLock_any _ _ hn).mono ?_
  rintro e x ⟨rfl, b1⟩
  go_wp2
  go_ret2
  exact ⟨rfl, b1⟩
set_option maxHeartbeats 400000 in
theorem unlock_none (n : Nat) (w : World) (hn : n < 18446744073709551616) (h : isLockB n = true) (h2 : writesB n = false) :
    Calls Try.prog 72 #[.int .u64 (n : Int)] w fun e w' => e = .returned (.tuple #[.int .u64 0, .int .i64 7]) ∧ Below w.heap.size w w' := by
  go_enter Try.func72, Try.ntmps72
  go_wp2_with fail
  refine (isLock_any _ _ hn).mono ?_
  rintro e x ⟨rfl, b1⟩
  go_wp2_with fail
  refine (locked_any _ _ hn).mono ?_
  rintro e x2 ⟨rfl, b2⟩
  replace b2 := b1.trans (b2.mono b1.size)
  go_wp2
  go_ret2
  exact ⟨rfl, b2⟩
set_option maxHeartbeats 400000 in
theorem unlock_yes (n : Nat) (w : World) (hn : n < 18446744073709551616) (h : isLockB n = true) (h2 : writesB n = true) :
    Calls Try.prog 72 #[.int .u64 (n : Int)] w fun e w' => e = .returned (.tuple #[.int .u64 (((n % 4294967296 + 1) % 4294967296 : Nat) : Int), .int .i64 0]) ∧ Below w.heap.size w w' := by
  have hc : n % 4294967296 < 4294967296 := Nat.mod_lt _ (by decide)
  generalize hN : n % 4294967296 = N at *
  have HN := hide hN
  clear hN
  go_enter Try.func72, Try.ntmps72
  go_wp2_with fail
  refine (isLock_any _ _ hn).mono ?_
  rintro e x ⟨rfl, b1⟩
  go_wp2_with fail
  refine (locked_any _ _ hn).mono ?_
  rintro e x2 ⟨rfl, b2⟩
  replace b2 := b1.trans (b2.mono b1.size)
  go_wp2_with fail
  refine (count_any _ _ hn).mono ?_
  rintro e x3 ⟨rfl, b3⟩
  rw [HN.out]
  replace b3 := b2.trans (b3.mono b2.size)
  go_wp2_with fail
  rw [show (N : Int) + 1 = ((N + 1 : Nat) : Int) by omega]
  refine (count_any (N + 1) _ (by omega)).mono ?_
  rintro e x4 ⟨rfl, b4⟩
  replace b4 := b3.trans (b4.mono b3.size)
  go_wp2
  go_ret2
  exact ⟨rfl, b4⟩
end Go.Proofs.Ytikpphbgjbfddaa
