/- The walks of package place's functions. -/
import Derived.Test.YtpkoohpobcfjcaaWa
import Derived.Test.YtpkoohpobcfjcaaMp
namespace Go.Proofs.Ytpkoohpobcfjcaa
open Go.RowKit

set_option maxHeartbeats 400000 in
theorem may_any (b : Int) (w : World) :
    Calls Try.prog 24 #[.int .i64 b] w fun e w' => e = .returned (.bool (mayB b)) ∧ w' = w := by
  by_cases h0 : 5 ≤ b
  · go_enter Try.func24, Try.ntmps24
    go_wp2
    go_ret
    exact ⟨ret_bool (by simp [mayB, h0]), rfl⟩
  · go_enter Try.func24, Try.ntmps24
    go_wp2
    go_ret
    exact ⟨ret_bool (by simp only [mayB]; symm; rw [decide_eq_false_iff_not]; omega), rfl⟩
set_option maxHeartbeats 400000 in
theorem psize_any (b : Int) (w : World) :
    Calls Try.prog 40 #[.int .i64 b] w fun e w' => e = .returned (.int .i64 (sizeN b : Int)) ∧ w' = w := by
  by_cases h : 5 ≤ b ∧ b ≤ 9
  · have hm : mayB b = true := by simp [mayB, h]
    rcases five h with rfl | rfl | rfl | rfl | rfl
    all_goals
      go_enter Try.func40, Try.ntmps40
      go_wp2_with (go_at_call 24; refine (may_any _ _).mono ?_; rintro e w' ⟨rfl, rfl⟩)
      go_ret
      exact ⟨rfl, rfl⟩
  · have hm : mayB b = false := by simp only [mayB, decide_eq_false_iff_not]; exact h
    rw [sizeN_no h]
    go_enter Try.func40, Try.ntmps40
    go_wp2_with (go_at_call 24; refine (may_any _ _).mono ?_; rintro e w' ⟨rfl, rfl⟩)
    go_ret
    exact ⟨rfl, rfl⟩
set_option maxHeartbeats 400000 in
theorem parts_any (b : Int) (a : Nat) (w : World) :
    Calls Try.prog 48 #[.int .i64 b, .int .u64 (a : Int)] w fun e w' => e = .returned (.bool (partsB b a)) ∧ w' = w := by
  by_cases h : 5 ≤ b ∧ b ≤ 9
  · have hm : mayB b = true := by simp [mayB, h]
    have H : Hid (partsB b a = decide ((a : Int) ≤ 281474976710655)) := by simp only [Hid, partsB, h, true_and, and_self, decide_eq_decide]; omega
    go_enter Try.func48, Try.ntmps48
    go_wp2_with (go_at_call 24; refine (may_any _ _).mono ?_; rintro e w' ⟨rfl, rfl⟩)
    go_ret
    exact ⟨ret_bool H.out.symm, rfl⟩
  · have hm : mayB b = false := by simp only [mayB, decide_eq_false_iff_not]; exact h
    have H : Hid (partsB b a = false) := by simp only [Hid, partsB, decide_eq_false_iff_not]; exact fun x => h x.1
    go_enter Try.func48, Try.ntmps48
    go_wp2_with (go_at_call 24; refine (may_any _ _).mono ?_; rintro e w' ⟨rfl, rfl⟩)
    go_ret
    exact ⟨ret_bool H.out.symm, rfl⟩
set_option maxHeartbeats 400000 in
theorem pageBits_any (b : Int) (w : World) (h : 5 ≤ b ∧ b ≤ 9) :
    Calls Try.prog 63 #[.int .i64 b] w fun e w' => e = .returned (.int .i64 (48 - b)) ∧ w' = w := by
  go_enter Try.func63, Try.ntmps63
  go_wp2
  go_ret
  exact ⟨ret_int (by go_num), rfl⟩
set_option maxHeartbeats 400000 in
theorem offset_any (b : Int) (a : Nat) (w : World) (hn : a < 18446744073709551616) :
    Calls Try.prog 49 #[.int .i64 b, .int .u64 (a : Int)] w fun e w' => e = .returned (.int .i64 (offN b a : Int)) ∧ Below w.heap.size w w' := by
  by_cases h : (5 ≤ b ∧ b ≤ 9) ∧ a ≤ 281474976710655
  · have hp : partsB b a = true := by simp only [partsB, decide_eq_true_eq]; exact h
    have hb := h.1
    have H : Hid (getN a (Int.toNat 0) b.toNat = offN b a) := by simp only [Hid, offN, if_pos h]; exact get_off b a
    have hl := offN_le b a
    have hr := right_off b hb
    clear h
    go_enter Try.func49, Try.ntmps49
    go_wp2_with fail
    refine (parts_any _ _ _).mono ?_
    rintro e w1 ⟨rfl, rfl⟩
    go_wp2_with fail
    refine (get_yes _ _ _ _ hn hr).mono ?_
    rintro e w3 ⟨rfl, b3⟩
    rw [H.out]
    replace b3 := below_drewN' b3
    go_wp2
    go_ret
    exact ⟨ret_int (by go_num), b3⟩
  · have hp : partsB b a = false := by simp only [partsB, decide_eq_false_iff_not]; exact h
    have H : Hid (offN b a = 0) := by simp only [Hid, offN, if_neg h]
    go_enter Try.func49, Try.ntmps49
    go_wp2_with fail
    refine (parts_any _ _ _).mono ?_
    rintro e w1 ⟨rfl, rfl⟩
    go_wp2
    go_ret
    exact ⟨ret_int (by rw [H.out]; rfl), Below.refl _ _⟩
set_option maxHeartbeats 400000 in
theorem room_any (b : Int) (a : Nat) (w : World) (hn : a < 18446744073709551616) :
    Calls Try.prog 39 #[.int .i64 b, .int .u64 (a : Int)] w fun e w' => e = .returned (.int .i64 (roomN b a : Int)) ∧ Below w.heap.size w w' := by
  by_cases h : (5 ≤ b ∧ b ≤ 9) ∧ a ≤ 281474976710655
  · have hp : partsB b a = true := by simp only [partsB, decide_eq_true_eq]; exact h
    have hb := h.1
    have hl := offN_le b a
    have hs := sizeN_bounds b
    have H : Hid ((sizeN b : Int) - (offN b a : Int) = (roomN b a : Int)) := by
      have h1 := Nat.mod_lt a (pow_pos2 b.toNat)
      simp only [Hid, roomN, offN, if_pos h, sizeN_yes hb]
      omega
    clear h
    go_enter Try.func39, Try.ntmps39
    go_wp2_with fail
    refine (parts_any _ _ _).mono ?_
    rintro e w1 ⟨rfl, rfl⟩
    go_wp2_with fail
    refine (psize_any _ _).mono ?_
    rintro e w2 ⟨rfl, rfl⟩
    go_wp2_with fail
    refine (offset_any _ _ _ hn).mono ?_
    rintro e w3 ⟨rfl, b3⟩
    go_wp2
    go_ret
    exact ⟨ret_int (by rw [← H.out]), b3⟩
  · have hp : partsB b a = false := by simp only [partsB, decide_eq_false_iff_not]; exact h
    have H : Hid (roomN b a = 0) := by simp only [Hid, roomN, if_neg h]
    go_enter Try.func39, Try.ntmps39
    go_wp2_with fail
    refine (parts_any _ _ _).mono ?_
    rintro e w1 ⟨rfl, rfl⟩
    go_wp2
    go_ret
    exact ⟨ret_int (by rw [H.out]; rfl), Below.refl _ _⟩
set_option maxHeartbeats 400000 in
theorem of_yes (b p o : Int) (w : World) (hpm : p ≤ 9223372036854775807) (hA : ofArg b p o = false) :
    Calls Try.prog 56 #[.int .i64 b, .int .i64 p, .int .i64 o] w fun e w' => e = .returned (.tuple #[.int .u64 (ofV b p o : Int), .int .i64 (ofE b p o)]) ∧ Below w.heap.size w w' := by
  have h := hA
  simp only [ofArg, decide_eq_false_iff_not, Decidable.not_not] at h
  obtain ⟨hb, hp, ho, hos⟩ := h
  have hm : mayB b = true := by simp only [mayB, decide_eq_true_eq]; exact hb
  obtain ⟨P, rfl⟩ := Int.eq_ofNat_of_zero_le hp
  obtain ⟨O, rfl⟩ := Int.eq_ofNat_of_zero_le ho
  have hs := sizeN_bounds b
  have hO : O < 2 ^ b.toNat := by rw [← sizeN_yes hb]; omega
  have hr := right_page b hb
  have HV : Hid (putV O b (48 - b) P = ofV b P O) := by
    simp only [Hid, putV, ofV, hr, hA, if_true, Int.toNat_natCast, most_page b P O hb hO, put_page b P O hb hO, Bool.false_eq_true, if_false]
  have HE : Hid (putE b (48 - b) P = ofE b P O) := by
    simp only [Hid, putE, ofE, hr, hA, if_true, Int.toNat_natCast, most_page b P O hb hO, Bool.false_eq_true, if_false]
  clear hO hA hr
  go_enter Try.func56, Try.ntmps56
  go_wp2_with fail
  refine (may_any _ _).mono ?_
  rintro e w1 ⟨rfl, rfl⟩
  go_wp2_with fail
  refine (psize_any _ _).mono ?_
  rintro e w1 ⟨rfl, rfl⟩
  go_wp2_with fail
  refine (pageBits_any _ _ hb).mono ?_
  rintro e w2 ⟨rfl, rfl⟩
  go_wp2_with fail
  refine (put_any O _ _ P _ (by omega)).mono ?_
  rintro e w3 ⟨rfl, b3⟩
  rw [HV.out, HE.out]
  replace b3 := below_drewN' b3
  go_wp2
  go_ret2
  exact ⟨rfl, b3⟩
set_option maxHeartbeats 400000 in
theorem of_no (b p o : Int) (w : World) (hA : ofArg b p o = true) :
    Calls Try.prog 56 #[.int .i64 b, .int .i64 p, .int .i64 o] w fun e w' => e = .returned (.tuple #[.int .u64 0, .int .i64 1]) ∧ Below w.heap.size w w' := by
  have h := hA
  simp only [ofArg, decide_eq_true_eq] at h
  clear hA
  by_cases hb : 5 ≤ b ∧ b ≤ 9
  · have hm : mayB b = true := by simp only [mayB, decide_eq_true_eq]; exact hb
    have hs := sizeN_bounds b
    by_cases hp : 0 ≤ p
    · by_cases ho : 0 ≤ o
      · have hos : ¬ o < (sizeN b : Int) := fun x => h ⟨hb, hp, ho, x⟩
        go_enter Try.func56, Try.ntmps56
        go_wp2_with fail
        refine (may_any _ _).mono ?_
        rintro e w1 ⟨rfl, rfl⟩
        go_wp2_with fail
        refine (psize_any _ _).mono ?_
        rintro e w1 ⟨rfl, rfl⟩
        go_wp2
        go_ret2
        exact ⟨rfl, Below.refl _ _⟩
      · go_enter Try.func56, Try.ntmps56
        go_wp2_with fail
        refine (may_any _ _).mono ?_
        rintro e w1 ⟨rfl, rfl⟩
        go_wp2
        go_ret2
        exact ⟨rfl, Below.refl _ _⟩
    · go_enter Try.func56, Try.ntmps56
      go_wp2_with fail
      refine (may_any _ _).mono ?_
      rintro e w1 ⟨rfl, rfl⟩
      go_wp2
      go_ret2
      exact ⟨rfl, Below.refl _ _⟩
  · have hm : mayB b = false := by simp only [mayB, decide_eq_false_iff_not]; exact hb
    go_enter Try.func56, Try.ntmps56
    go_wp2_with fail
    refine (may_any _ _).mono ?_
    rintro e w1 ⟨rfl, rfl⟩
    go_wp2
    go_ret2
    exact ⟨rfl, Below.refl _ _⟩
theorem of_any (b p o : Int) (w : World) (hpm : p ≤ 9223372036854775807) :
    Calls Try.prog 56 #[.int .i64 b, .int .i64 p, .int .i64 o] w fun e w' => e = .returned (.tuple #[.int .u64 (ofV b p o : Int), .int .i64 (ofE b p o)]) ∧ Below w.heap.size w w' := by
  cases hA : ofArg b p o
  · exact of_yes b p o w hpm hA
  · exact (of_no b p o w hA).mono fun e w' ⟨h, h'⟩ => ⟨by simp [h, ofV, ofE, hA], h'⟩
set_option maxHeartbeats 400000 in
theorem first_any (b p : Int) (w : World) (hpm : p ≤ 9223372036854775807) :
    Calls Try.prog 47 #[.int .i64 b, .int .i64 p] w fun e w' => e = .returned (.int .u64 (ofV b p 0 : Int)) ∧ Below w.heap.size w w' := by
  go_enter Try.func47, Try.ntmps47
  go_wp2_with fail
  refine (of_any _ _ _ _ hpm).mono ?_
  rintro e w1 ⟨rfl, b1⟩
  go_wp2
  go_ret
  exact ⟨rfl, b1⟩
set_option maxHeartbeats 400000 in
theorem add_any (a : Nat) (n : Int) (w : World) (hn : n ≤ 9223372036854775807) :
    Calls Try.prog 46 #[.int .u64 (a : Int), .int .i64 n] w fun e w' => e = .returned (.tuple #[.int .u64 (addV a n : Int), .int .i64 (addE a n)]) ∧ Below w.heap.size w w' := by
  by_cases ha : a ≤ 281474976710655
  · by_cases h0 : 0 ≤ n
    · obtain ⟨N, rfl⟩ := Int.eq_ofNat_of_zero_le h0
      by_cases hs : a + N ≤ 281474976710655
      · have HV : Hid (addV a N = a + N) := by simp [Hid, addV, ha, hs]
        have HE : Hid (addE a N = 0) := by simp [Hid, addE, ha, hs]
        go_enter Try.func46, Try.ntmps46
        go_wp2
        go_ret2
        exact ⟨ret_two (by rw [HV.out]; go_num) (by rw [HE.out]), Below.refl _ _⟩
      · have HV : Hid (addV a N = 0) := by simp [Hid, addV, ha, hs]
        have HE : Hid (addE a N = 13) := by simp [Hid, addE, ha, hs]
        go_enter Try.func46, Try.ntmps46
        go_wp2
        go_ret2
        exact ⟨ret_two (by rw [HV.out]; rfl) (by rw [HE.out]), Below.refl _ _⟩
    · have HV : Hid (addV a n = 0) := by simp only [Hid, addV, h0, and_false, if_false]
      have HE : Hid (addE a n = 1) := by simp only [Hid, addE, h0, and_false, if_false]
      go_enter Try.func46, Try.ntmps46
      go_wp2
      go_ret2
      exact ⟨ret_two (by rw [HV.out]; rfl) (by rw [HE.out]), Below.refl _ _⟩
  · have HV : Hid (addV a n = 0) := by simp only [Hid, addV, ha, false_and, if_false]
    have HE : Hid (addE a n = 1) := by simp only [Hid, addE, ha, false_and, if_false]
    go_enter Try.func46, Try.ntmps46
    go_wp2
    go_ret2
    exact ⟨ret_two (by rw [HV.out]; rfl) (by rw [HE.out]), Below.refl _ _⟩
set_option maxHeartbeats 400000 in
theorem fits_any (b : Int) (a : Nat) (n : Int) (w : World) (ha : a < 18446744073709551616) :
    Calls Try.prog 23 #[.int .i64 b, .int .u64 (a : Int), .int .i64 n] w fun e w' => e = .returned (.bool (fitsB b a n)) ∧ Below w.heap.size w w' := by
  have hr := roomN_le b a
  by_cases h : 1 ≤ n
  · have H : Hid (fitsB b a n = decide (n ≤ (roomN b a : Int))) := by simp only [Hid, fitsB, h, true_and]
    go_enter Try.func23, Try.ntmps23
    go_wp2_with fail
    refine (room_any _ _ _ ha).mono ?_
    rintro e w1 ⟨rfl, b1⟩
    go_wp2
    go_ret
    exact ⟨ret_bool (by rw [H.out]), b1⟩
  · have H : Hid (fitsB b a n = false) := by simp only [Hid, fitsB, h, false_and, decide_false]
    go_enter Try.func23, Try.ntmps23
    go_wp2
    go_ret
    exact ⟨ret_bool (by rw [H.out]), Below.refl _ _⟩
end Go.Proofs.Ytpkoohpobcfjcaa
