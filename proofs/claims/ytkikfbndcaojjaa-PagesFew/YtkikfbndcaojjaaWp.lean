/- The walks of package place's functions. -/
import Derived.Test.YtkikfbndcaojjaaWa
import Derived.Test.YtkikfbndcaojjaaMp
namespace Go.Proofs.Ytkikfbndcaojjaa
open Go.RowKit

set_option maxHeartbeats 400000 in
theorem may_any (b : Int) (w : World) :
    Calls Try.prog 25 #[.int .i64 b] w fun e w' => e = .returned (.bool (mayB b)) ∧ w' = w := by
  by_cases h0 : 5 ≤ b
  · go_enter Try.func25, Try.ntmps25
    go_wp2
    go_ret
    exact ⟨ret_bool (by simp [mayB, h0]), rfl⟩
  · go_enter Try.func25, Try.ntmps25
    go_wp2
    go_ret
    exact ⟨ret_bool (by simp only [mayB]; symm; rw [decide_eq_false_iff_not]; omega), rfl⟩
set_option maxHeartbeats 400000 in
theorem psize_any (b : Int) (w : World) :
    Calls Try.prog 33 #[.int .i64 b] w fun e w' => e = .returned (.int .i64 (sizeN b : Int)) ∧ w' = w := by
  by_cases h : 5 ≤ b ∧ b ≤ 9
  · have hm : mayB b = true := by simp [mayB, h]
    rcases five h with rfl | rfl | rfl | rfl | rfl
    all_goals
      go_enter Try.func33, Try.ntmps33
      go_wp2_with (go_at_call 25; refine (may_any _ _).mono ?_; rintro e w' ⟨rfl, rfl⟩)
      go_ret
      exact ⟨rfl, rfl⟩
  · have hm : mayB b = false := by simp only [mayB, decide_eq_false_iff_not]; exact h
    rw [sizeN_no h]
    go_enter Try.func33, Try.ntmps33
    go_wp2_with (go_at_call 25; refine (may_any _ _).mono ?_; rintro e w' ⟨rfl, rfl⟩)
    go_ret
    exact ⟨rfl, rfl⟩
set_option maxHeartbeats 400000 in
theorem parts_any (b : Int) (a : Nat) (w : World) :
    Calls Try.prog 52 #[.int .i64 b, .int .u64 (a : Int)] w fun e w' => e = .returned (.bool (partsB b a)) ∧ w' = w := by
  by_cases h : 5 ≤ b ∧ b ≤ 9
  · have hm : mayB b = true := by simp [mayB, h]
    have H : Hid (partsB b a = decide ((a : Int) ≤ 281474976710655)) := by simp only [Hid, partsB, h, true_and, and_self, decide_eq_decide]; omega
    go_enter Try.func52, Try.ntmps52
    go_wp2_with (go_at_call 25; refine (may_any _ _).mono ?_; rintro e w' ⟨rfl, rfl⟩)
    go_ret
    exact ⟨ret_bool H.out.symm, rfl⟩
  · have hm : mayB b = false := by simp only [mayB, decide_eq_false_iff_not]; exact h
    have H : Hid (partsB b a = false) := by simp only [Hid, partsB, decide_eq_false_iff_not]; exact fun x => h x.1
    go_enter Try.func52, Try.ntmps52
    go_wp2_with (go_at_call 25; refine (may_any _ _).mono ?_; rintro e w' ⟨rfl, rfl⟩)
    go_ret
    exact ⟨ret_bool H.out.symm, rfl⟩
set_option maxHeartbeats 400000 in
theorem pageBits_any (b : Int) (w : World) (h : 5 ≤ b ∧ b ≤ 9) :
    Calls Try.prog 72 #[.int .i64 b] w fun e w' => e = .returned (.int .i64 (48 - b)) ∧ w' = w := by
  go_enter Try.func72, Try.ntmps72
  go_wp2
  go_ret
  exact ⟨ret_int (by go_num), rfl⟩
set_option maxHeartbeats 400000 in
theorem page_any (b : Int) (a : Nat) (w : World) (hn : a < 18446744073709551616) :
    Calls Try.prog 50 #[.int .i64 b, .int .u64 (a : Int)] w fun e w' => e = .returned (.int .i64 (pageN b a : Int)) ∧ Below w.heap.size w w' := by
  by_cases h : (5 ≤ b ∧ b ≤ 9) ∧ a ≤ 281474976710655
  · have hp : partsB b a = true := by simp only [partsB, decide_eq_true_eq]; exact h
    have hb := h.1
    have H : Hid (getN a b.toNat (48 - b).toNat = pageN b a) := by simp only [Hid, pageN, if_pos h]; exact get_page b a h.1 h.2
    have hl := pageN_le b a
    have hr := right_page b hb
    clear h
    go_enter Try.func50, Try.ntmps50
    go_wp2_with fail
    refine (parts_any _ _ _).mono ?_
    rintro e w1 ⟨rfl, rfl⟩
    go_wp2_with fail
    refine (pageBits_any _ _ hb).mono ?_
    rintro e w2 ⟨rfl, rfl⟩
    go_wp2_with fail
    refine (get_yes _ _ _ _ hn hr).mono ?_
    rintro e w3 ⟨rfl, b3⟩
    rw [H.out]
    replace b3 := below_drewN' b3
    go_wp2
    go_ret
    exact ⟨ret_int (by go_num), b3⟩
  · have hp : partsB b a = false := by simp only [partsB, decide_eq_false_iff_not]; exact h
    have H : Hid (pageN b a = 0) := by simp only [Hid, pageN, if_neg h]
    go_enter Try.func50, Try.ntmps50
    go_wp2_with fail
    refine (parts_any _ _ _).mono ?_
    rintro e w1 ⟨rfl, rfl⟩
    go_wp2
    go_ret
    exact ⟨ret_int (by rw [H.out]; rfl), Below.refl _ _⟩
set_option maxHeartbeats 400000 in
theorem offset_any (b : Int) (a : Nat) (w : World) (hn : a < 18446744073709551616) :
    Calls Try.prog 38 #[.int .i64 b, .int .u64 (a : Int)] w fun e w' => e = .returned (.int .i64 (offN b a : Int)) ∧ Below w.heap.size w w' := by
  by_cases h : (5 ≤ b ∧ b ≤ 9) ∧ a ≤ 281474976710655
  · have hp : partsB b a = true := by simp only [partsB, decide_eq_true_eq]; exact h
    have hb := h.1
    have H : Hid (getN a (Int.toNat 0) b.toNat = offN b a) := by simp only [Hid, offN, if_pos h]; exact get_off b a
    have hl := offN_le b a
    have hr := right_off b hb
    clear h
    go_enter Try.func38, Try.ntmps38
    go_wp2_with fail
    refine (parts_any _ _ _).mono ?_
    rintro e w1 ⟨rfl, rfl⟩
    go_wp2_with fail
    refine (get_yes _ _ _ _ hn hr).mono ?_
    rintro e w3 ⟨rfl, b3⟩
    rw [H.out]
    replace b3 := below_drewN' b3
    go_wp2
    go_ret
    exact ⟨ret_int (by go_num), b3⟩
  · have hp : partsB b a = false := by simp only [partsB, decide_eq_false_iff_not]; exact h
    have H : Hid (offN b a = 0) := by simp only [Hid, offN, if_neg h]
    go_enter Try.func38, Try.ntmps38
    go_wp2_with fail
    refine (parts_any _ _ _).mono ?_
    rintro e w1 ⟨rfl, rfl⟩
    go_wp2
    go_ret
    exact ⟨ret_int (by rw [H.out]; rfl), Below.refl _ _⟩
set_option maxHeartbeats 400000 in
theorem room_any (b : Int) (a : Nat) (w : World) (hn : a < 18446744073709551616) :
    Calls Try.prog 77 #[.int .i64 b, .int .u64 (a : Int)] w fun e w' => e = .returned (.int .i64 (roomN b a : Int)) ∧ Below w.heap.size w w' := by
  by_cases h : (5 ≤ b ∧ b ≤ 9) ∧ a ≤ 281474976710655
  · have hp : partsB b a = true := by simp only [partsB, decide_eq_true_eq]; exact h
    have hb := h.1
    have hl := offN_le b a
    have hs := sizeN_bounds b
    have H : Hid ((sizeN b : Int) - (offN b a : Int) = (roomN b a : Int)) := by
      have h1 := Nat.mod_lt a (pow_pos2 b.toNat)
      simp only [Hid, roomN, offN, if_pos h, sizeN_yes hb]
      omega
    clear h
    go_enter Try.func77, Try.ntmps77
    go_wp2_with fail
    refine (parts_any _ _ _).mono ?_
    rintro e w1 ⟨rfl, rfl⟩
    go_wp2_with fail
    refine (psize_any _ _).mono ?_
    rintro e w2 ⟨rfl, rfl⟩
    go_wp2_with fail
    refine (offset_any _ _ _ hn).mono ?_
    rintro e w3 ⟨rfl, b3⟩
    go_wp2
    go_ret
    exact ⟨ret_int (by rw [← H.out]), b3⟩
  · have hp : partsB b a = false := by simp only [partsB, decide_eq_false_iff_not]; exact h
    have H : Hid (roomN b a = 0) := by simp only [Hid, roomN, if_neg h]
    go_enter Try.func77, Try.ntmps77
    go_wp2_with fail
    refine (parts_any _ _ _).mono ?_
    rintro e w1 ⟨rfl, rfl⟩
    go_wp2
    go_ret
    exact ⟨ret_int (by rw [H.out]; rfl), Below.refl _ _⟩
set_option maxHeartbeats 400000 in
theorem fits_any (b : Int) (a : Nat) (n : Int) (w : World) (ha : a < 18446744073709551616) :
    Calls Try.prog 57 #[.int .i64 b, .int .u64 (a : Int), .int .i64 n] w fun e w' => e = .returned (.bool (fitsB b a n)) ∧ Below w.heap.size w w' := by
  have hr := roomN_le b a
  by_cases h : 1 ≤ n
  · have H : Hid (fitsB b a n = decide (n ≤ (roomN b a : Int))) := by simp only [Hid, fitsB, h, true_and]
    go_enter Try.func57, Try.ntmps57
    go_wp2_with fail
    refine (room_any _ _ _ ha).mono ?_
    rintro e w1 ⟨rfl, b1⟩
    go_wp2
    go_ret
    exact ⟨ret_bool (by rw [H.out]), b1⟩
  · have H : Hid (fitsB b a n = false) := by simp only [Hid, fitsB, h, false_and, decide_false]
    go_enter Try.func57, Try.ntmps57
    go_wp2
    go_ret
    exact ⟨ret_bool (by rw [H.out]), Below.refl _ _⟩
end Go.Proofs.Ytkikfbndcaojjaa
