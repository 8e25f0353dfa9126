/- The walks of entry's Right and Pack, and of the reference's. -/
import Derived.Test.YtmpnbaiolmkhlaaWa
import Derived.Test.YtmpnbaiolmkhlaaNa
import Derived.Handy
namespace Go.Proofs.Ytmpnbaiolmkhlaa
set_option maxRecDepth 20000
open Go.RowKit
def enV (a t : Nat) (f : Bool) : Value := .agg #[.int .u64 (a : Int), .int .u64 (t : Int), .bool f]
theorem most14 : mostN 14 = 16383 := by decide
/-- The low fields side by side. -/
theorem or_low (a t : Nat) (ha : a < 281474976710656) (ht : t < 16384) : bits .or .u64 (a : Int) (IntKind.u64.wrap ((t : Int) * 281474976710656)) = ((a + t * 281474976710656 : Nat) : Int) := by
  have h1 : IntKind.u64.wrap ((t : Int) * 281474976710656) = ((t * 281474976710656 : Nat) : Int) := by rw [IntKind.wrap_u64]; omega
  rw [h1, u64_or_nat _ _ (by omega) (by omega)]
  have h := put_nat a 48 14 t (by rw [pow64]; omega) (by omega) (by rw [show (2 : Nat) ^ 14 = 16384 by decide]; exact ht)
  have h2 : a ||| t * 281474976710656 = a + t * 281474976710656 := by
    rw [Nat.or_comm, show t * 281474976710656 = 2 ^ 48 * t by rw [show (2 : Nat) ^ 48 = 281474976710656 by decide, Nat.mul_comm], ← Nat.two_pow_add_eq_or_of_lt (by rw [show (2 : Nat) ^ 48 = 281474976710656 by decide]; exact ha)]
    omega
  rw [h2]
theorem set62 (q : Nat) (f : Bool) (hq : q < 4611686018427387904) : setN q 62 f = q + (if f then 4611686018427387904 else 0) := by
  have h : setN q 62 f = putN q 62 1 (if f then 1 else 0) := by simp [setN]
  rw [h]
  unfold putN
  rw [show (2 : Nat) ^ 62 = 4611686018427387904 by decide, show (2 : Nat) ^ (62 + 1) = 9223372036854775808 by decide]
  cases f <;> simp <;> omega
theorem set63 (q : Nat) (hq : q < 9223372036854775808) : setN q 63 true = q + 9223372036854775808 := by
  have h : setN q 63 true = putN q 63 1 1 := by simp [setN]
  rw [h]
  unfold putN
  rw [show (2 : Nat) ^ 63 = 9223372036854775808 by decide, show (2 : Nat) ^ (63 + 1) = 18446744073709551616 by decide]
  omega
set_option maxHeartbeats 1000000 in
theorem eright_any (a t : Nat) (f : Bool) (w : World) :
    Calls Try.prog 90 #[enV a t f] w fun e w' => e = .returned (.bool (entB a t f)) ∧ Below w.heap.size w w' := by
  have hm : (mostN 14 : Int) = 16383 := by rw [most14]; rfl
  have hE : Hid ((decide ((a : Int) ≤ 281474976710655) && decide ((t : Int) ≤ 16383) && (f == ((a : Int) == 0))) = entB a t f) := by
    show _ = _
    unfold entB
    congr 1
    · congr 1 <;> (rw [decide_eq_decide]; omega)
    · congr 1; rw [Bool.eq_iff_iff]; simp only [beq_iff_eq, decide_eq_true_eq]; omega
  generalize entB a t f = r at *
  rw [← hE.out]
  clear hE
  unfold enV
  by_cases ha : (a : Int) ≤ 281474976710655
  · have ha' : decide ((a : Int) ≤ 281474976710655) = true := decide_eq_true ha
    by_cases ht : (t : Int) ≤ 16383
    · have ht' : decide ((t : Int) ≤ 16383) = true := decide_eq_true ht
      go_enter Try.func90, Try.ntmps90
      go_wp2_with fail
      go_quiet ((go_at_call 92; exact Calls.quiet_of_same (most_any _ _)))
      go_wp2
      go_ret
      exact ⟨ret_bool (by rw [ha', ht']; simp), below_drewN ((Below.refl _ w).alloc (Nat.le_refl _) _) _⟩
    · have ht' : decide ((t : Int) ≤ 16383) = false := decide_eq_false ht
      go_enter Try.func90, Try.ntmps90
      go_wp2_with fail
      go_quiet ((go_at_call 92; exact Calls.quiet_of_same (most_any _ _)))
      go_wp2
      go_ret
      exact ⟨ret_bool (by rw [ha', ht']; simp), below_drewN ((Below.refl _ w).alloc (Nat.le_refl _) _) _⟩
  · have ha' : decide ((a : Int) ≤ 281474976710655) = false := decide_eq_false ha
    go_enter Try.func90, Try.ntmps90
    go_wp2_with fail
    go_quiet ((fail))
    go_wp2
    go_ret
    exact ⟨ret_bool (by rw [ha']; simp), below_drewN ((Below.refl _ w).alloc (Nat.le_refl _) _) _⟩
set_option maxHeartbeats 1000000 in
theorem rright_any (a t : Nat) (f : Bool) (w : World) :
    Calls Try.prog 41 #[enV a t f] w fun e w' => e = .returned (.bool (entB a t f)) ∧ Below w.heap.size w w' := by
  have hB : Below w.heap.size w (w.alloc (.cells #[.int .u64 (a : Int), .int .u64 (t : Int), .bool f] 40)) := (Below.refl _ w).alloc (Nat.le_refl _) _
  have hE : Hid (entB a t f = (decide (a < 281474976710656) && decide (t < 16384) && (f == decide (a = 0)))) := rfl
  unfold enV
  by_cases ha : 281474976710656 ≤ a
  · have ha' : decide (281474976710656 ≤ (a : Int)) = true := by rw [decide_eq_true_eq]; omega
    have hr : Hid (entB a t f = false) := by simp [hE.out]; intro h; omega
    clear ha
    go_enter Try.func41, Try.ntmps41
    go_wp2
    go_ret
    exact ⟨ret_bool hr.out.symm, hB⟩
  · have ha' : decide (281474976710656 ≤ (a : Int)) = false := by rw [decide_eq_false_iff_not]; omega
    by_cases ht : 16384 ≤ t
    · have ht' : decide (16384 ≤ (t : Int)) = true := by rw [decide_eq_true_eq]; omega
      have hr : Hid (entB a t f = false) := by simp [hE.out]; intro _ h; omega
      clear ha ht
      go_enter Try.func41, Try.ntmps41
      go_wp2
      go_ret
      exact ⟨ret_bool hr.out.symm, hB⟩
    · have ht' : decide (16384 ≤ (t : Int)) = false := by rw [decide_eq_false_iff_not]; omega
      by_cases hz : a = 0
      · have hr : Hid (entB a t f = f) := by show _ = _; unfold entB; rw [hz]; simp; intro _; omega
        subst hz
        clear ha ht
        cases f
        · go_enter Try.func41, Try.ntmps41
          go_wp2
          go_ret
          exact ⟨ret_bool hr.out.symm, hB⟩
        · go_enter Try.func41, Try.ntmps41
          go_wp2
          go_ret
          exact ⟨ret_bool hr.out.symm, hB⟩
      · have hr : Hid (entB a t f = !f) := by show _ = _; unfold entB; cases f <;> simp [hz] <;> omega
        have h4 : Hid (decide (0 < a) = true) := decide_eq_true (by omega)
        have h1 : ((a : Int) == 0) = false := by rw [beq_eq_false_iff_ne]; omega
        have h2 : decide (0 < (a : Int)) = true := by rw [decide_eq_true_eq]; omega
        clear ha ht hz
        cases f
        · go_enter Try.func41, Try.ntmps41
          go_wp2
          go_ret
          exact ⟨ret_bool (by first | exact hr.out.symm | exact h4.out.trans hr.out.symm), hB⟩
        · go_enter Try.func41, Try.ntmps41
          go_wp2
          go_ret
          exact ⟨ret_bool (by first | exact hr.out.symm | exact h4.out.trans hr.out.symm), hB⟩
set_option maxHeartbeats 1000000 in
theorem epack_let (a t : Nat) (f : Bool) (q1 q2 q3 : Nat) (w : World) (h : entB a t f = true)
    (H0 : Hid (bits .or .u64 (IntKind.u64.wrap (a : Int)) (IntKind.u64.wrap ((t : Int) * 281474976710656)) = (q1 : Int))) (H1 : Hid (setN q1 62 f = q2)) (H2 : Hid (setN q2 63 true = q3))
    (h1 : Hid (q1 < 18446744073709551616)) (h2 : Hid (q2 < 18446744073709551616)) :
    Calls Try.prog 75 #[enV a t f] w fun e w' => e = .returned (.tuple #[.int .u64 (q3 : Int), .int .i64 0]) ∧ Below w.heap.size w w' := by
  unfold enV
  go_enter Try.func75, Try.ntmps75
  go_wp2_with fail
  refine (eright_any a t f _).mono ?_
  rintro e x ⟨rfl, b1⟩
  rw [h]
  obtain ⟨d0, d1, d2⟩ := cell_arg b1
  have hb1 : Below w.heap.size w x := ((Below.refl _ w).alloc (Nat.le_refl _) _).trans (b1.mono (by simp))
  clear b1
  go_wp2_with fail
  rw [H0.out]
  refine (set_any q1 62 f _ h1.out).mono ?_
  rintro e x2 ⟨rfl, rfl⟩
  rw [H1.out]
  go_wp2_with fail
  refine (set_any q2 63 true _ h2.out).mono ?_
  rintro e x2 ⟨rfl, rfl⟩
  rw [H2.out]
  go_wp2
  go_ret2
  exact ⟨rfl, hb1⟩
theorem entN_sum (a t : Nat) (f : Bool) : a + t * 281474976710656 + (if f then 4611686018427387904 else 0) + 9223372036854775808 = entN a t f := by unfold entN; omega
theorem low_lt (a t : Nat) (ha : a < 281474976710656) (ht : t < 16384) : a + t * 281474976710656 < 4611686018427387904 := by omega
theorem mid_lt (q : Nat) (f : Bool) (h : q < 4611686018427387904) : q + (if f then 4611686018427387904 else 0) < 9223372036854775808 := by cases f <;> simp <;> omega
theorem wrap_low (a : Nat) (ha : a < 281474976710656) : IntKind.u64.wrap (a : Int) = (a : Int) := by rw [IntKind.wrap_u64]; omega
theorem epack_yes (a t : Nat) (f : Bool) (w : World) (h : entB a t f = true) :
    Calls Try.prog 75 #[enV a t f] w fun e w' => e = .returned (.tuple #[.int .u64 (entN a t f : Int), .int .i64 0]) ∧ Below w.heap.size w w' := by
  obtain ⟨ha, ht, _⟩ := entB_iff.1 h
  refine epack_let a t f _ _ _ w h (by rw [wrap_low a ha]; exact or_low a t ha ht) (set62 _ f (low_lt a t ha ht)) ((set63 _ (mid_lt _ f (low_lt a t ha ht))).trans (entN_sum a t f)) ?_ ?_
  · exact Nat.lt_trans (low_lt a t ha ht) (by decide)
  · exact Nat.lt_trans (mid_lt _ f (low_lt a t ha ht)) (by decide)
set_option maxHeartbeats 1000000 in
theorem epack_no (a t : Nat) (f : Bool) (w : World) (h : entB a t f = false) :
    Calls Try.prog 75 #[enV a t f] w fun e w' => e = .returned (.tuple #[.int .u64 0, .int .i64 1]) ∧ Below w.heap.size w w' := by
  unfold enV
  go_enter Try.func75, Try.ntmps75
  go_wp2_with fail
  refine (eright_any a t f _).mono ?_
  rintro e x ⟨rfl, b1⟩
  rw [h]
  have hb1 : Below w.heap.size w x := ((Below.refl _ w).alloc (Nat.le_refl _) _).trans (b1.mono (by simp))
  clear b1
  go_wp2
  go_ret2
  exact ⟨rfl, hb1⟩
set_option maxHeartbeats 1000000 in
theorem rpackE_no (a t : Nat) (f : Bool) (w : World) (h : entB a t f = false) :
    Calls Try.prog 72 #[enV a t f] w fun e w' => e = .returned (.tuple #[.int .u64 0, .int .i64 1]) ∧ Below w.heap.size w w' := by
  unfold enV
  go_enter Try.func72, Try.ntmps72
  go_wp2_with fail
  refine (rright_any a t f _).mono ?_
  rintro e x ⟨rfl, b1⟩
  rw [h]
  have hb1 : Below w.heap.size w x := ((Below.refl _ w).alloc (Nat.le_refl _) _).trans (b1.mono (by simp))
  clear b1
  go_wp2
  go_ret2
  exact ⟨rfl, hb1⟩
end Go.Proofs.Ytmpnbaiolmkhlaa
