/- The walks of the reference's functions over addresses, and of the chapter's example. -/
import Derived.Test.YtgecekfcglelhaaWp
namespace Go.Proofs.Ytgecekfcglelhaa
open Go.RowKit

set_option maxHeartbeats 400000 in
theorem rsize_any (b : Int) (w : World) :
    Calls Try.prog 8 #[.int .i64 b] w fun e w' => e = .returned (.int .i64 (sizeN b : Int)) ∧ w' = w := by
  by_cases h : 5 ≤ b ∧ b ≤ 9
  · rcases five h with rfl | rfl | rfl | rfl | rfl
    all_goals
      go_enter Try.func8, Try.ntmps8
      go_wp2
      go_ret
      exact ⟨rfl, rfl⟩
  · rw [sizeN_no h]
    have h5 : ¬ b = 5 := by omega
    have h6 : ¬ b = 6 := by omega
    have h7 : ¬ b = 7 := by omega
    have h8 : ¬ b = 8 := by omega
    have h9 : ¬ b = 9 := by omega
    clear h
    go_enter Try.func8, Try.ntmps8
    go_wp2
    go_ret
    exact ⟨rfl, rfl⟩
theorem ofNat_ne {n : Nat} (h : 32 ≤ n) : ¬ ((n : Int) = 0) := by omega
set_option maxHeartbeats 400000 in
theorem rpage_any (b : Int) (a : Nat) (w : World) (hn : a < 18446744073709551616) :
    Calls Try.prog 11 #[.int .i64 b, .int .u64 (a : Int)] w fun e w' => e = .returned (.int .i64 (pageN b a : Int)) ∧ w' = w := by
  by_cases hb : 5 ≤ b ∧ b ≤ 9
  · have hs := sizeN_bounds b
    have hp := sizeN_pos hb
    have hz : ((sizeN b : Int) == 0) = false := by simp; omega
    by_cases ha : a ≤ 281474976710655
    · have H : Hid (a / sizeN b = pageN b a) := by simp only [Hid, pageN, if_pos (And.intro hb ha), sizeN_yes hb]
      have hd0 : 0 ≤ (a : Int) / (sizeN b : Int) := Int.natCast_ediv a (sizeN b) ▸ Int.natCast_nonneg _
      have hd : (a : Int) / (sizeN b : Int) ≤ 281474976710655 := by have := Nat.div_le_self a (sizeN b); rw [← Int.natCast_ediv]; omega
      go_enter Try.func11, Try.ntmps11
      go_wp2_with fail
      refine (rsize_any _ _).mono ?_
      rintro e w1 ⟨rfl, rfl⟩
      go_wp2
      go_ret
      exact ⟨ret_int (by rw [← H.out]; go_num), rfl⟩
    · have H : Hid (pageN b a = 0) := by simp only [Hid, pageN, if_neg (fun x : (5 ≤ b ∧ b ≤ 9) ∧ a ≤ 281474976710655 => ha x.2)]
      go_enter Try.func11, Try.ntmps11
      go_wp2_with fail
      refine (rsize_any _ _).mono ?_
      rintro e w1 ⟨rfl, rfl⟩
      go_wp2
      go_ret
      exact ⟨ret_int (by rw [H.out]; rfl), rfl⟩
  · have H : Hid (pageN b a = 0) := by simp only [Hid, pageN, if_neg (fun x : (5 ≤ b ∧ b ≤ 9) ∧ a ≤ 281474976710655 => hb x.1)]
    go_enter Try.func11, Try.ntmps11
    go_wp2_with fail
    refine (rsize_any _ _).mono ?_
    rintro e w1 ⟨rfl, rfl⟩
    rw [sizeN_no hb]
    go_wp2
    go_ret
    exact ⟨ret_int (by rw [H.out]; rfl), rfl⟩
set_option maxHeartbeats 400000 in
theorem roff_any (b : Int) (a : Nat) (w : World) (hn : a < 18446744073709551616) :
    Calls Try.prog 13 #[.int .i64 b, .int .u64 (a : Int)] w fun e w' => e = .returned (.int .i64 (offN b a : Int)) ∧ w' = w := by
  by_cases hb : 5 ≤ b ∧ b ≤ 9
  · have hs := sizeN_bounds b
    have hp := sizeN_pos hb
    have hz : ((sizeN b : Int) == 0) = false := by simp; omega
    by_cases ha : a ≤ 281474976710655
    · have H : Hid (a % sizeN b = offN b a) := by simp only [Hid, offN, if_pos (And.intro hb ha), sizeN_yes hb]
      have hd : a % sizeN b ≤ 511 := by have := Nat.mod_lt a (show 0 < sizeN b by omega); omega
      go_enter Try.func13, Try.ntmps13
      go_wp2_with fail
      refine (rsize_any _ _).mono ?_
      rintro e w1 ⟨rfl, rfl⟩
      go_wp2
      go_ret
      exact ⟨ret_int (by rw [← H.out]; go_num), rfl⟩
    · have H : Hid (offN b a = 0) := by simp only [Hid, offN, if_neg (fun x : (5 ≤ b ∧ b ≤ 9) ∧ a ≤ 281474976710655 => ha x.2)]
      go_enter Try.func13, Try.ntmps13
      go_wp2_with fail
      refine (rsize_any _ _).mono ?_
      rintro e w1 ⟨rfl, rfl⟩
      go_wp2
      go_ret
      exact ⟨ret_int (by rw [H.out]; rfl), rfl⟩
  · have H : Hid (offN b a = 0) := by simp only [Hid, offN, if_neg (fun x : (5 ≤ b ∧ b ≤ 9) ∧ a ≤ 281474976710655 => hb x.1)]
    go_enter Try.func13, Try.ntmps13
    go_wp2_with fail
    refine (rsize_any _ _).mono ?_
    rintro e w1 ⟨rfl, rfl⟩
    rw [sizeN_no hb]
    go_wp2
    go_ret
    exact ⟨ret_int (by rw [H.out]; rfl), rfl⟩
set_option maxHeartbeats 400000 in
theorem rroom_any (b : Int) (a : Nat) (w : World) (hn : a < 18446744073709551616) :
    Calls Try.prog 15 #[.int .i64 b, .int .u64 (a : Int)] w fun e w' => e = .returned (.int .i64 (roomN b a : Int)) ∧ w' = w := by
  by_cases hb : 5 ≤ b ∧ b ≤ 9
  · have hs := sizeN_bounds b
    have hp := sizeN_pos hb
    have hz : ((sizeN b : Int) == 0) = false := by simp; omega
    by_cases ha : a ≤ 281474976710655
    · have hl := offN_le b a
      have H : Hid ((sizeN b : Int) - (offN b a : Int) = (roomN b a : Int)) := by
        have h1 := Nat.mod_lt a (pow_pos2 b.toNat)
        simp only [Hid, roomN, offN, if_pos (And.intro hb ha), sizeN_yes hb]
        omega
      go_enter Try.func15, Try.ntmps15
      go_wp2_with fail
      refine (rsize_any _ _).mono ?_
      rintro e w1 ⟨rfl, rfl⟩
      go_wp2_with fail
      refine (rsize_any _ _).mono ?_
      rintro e w2 ⟨rfl, rfl⟩
      go_wp2_with fail
      refine (roff_any _ _ _ hn).mono ?_
      rintro e w2 ⟨rfl, rfl⟩
      go_wp2
      go_ret
      exact ⟨ret_int (by rw [← H.out]), rfl⟩
    · have H : Hid (roomN b a = 0) := by simp only [Hid, roomN, if_neg (fun x : (5 ≤ b ∧ b ≤ 9) ∧ a ≤ 281474976710655 => ha x.2)]
      go_enter Try.func15, Try.ntmps15
      go_wp2_with fail
      refine (rsize_any _ _).mono ?_
      rintro e w1 ⟨rfl, rfl⟩
      go_wp2
      go_ret
      exact ⟨ret_int (by rw [H.out]; rfl), rfl⟩
  · have H : Hid (roomN b a = 0) := by simp only [Hid, roomN, if_neg (fun x : (5 ≤ b ∧ b ≤ 9) ∧ a ≤ 281474976710655 => hb x.1)]
    go_enter Try.func15, Try.ntmps15
    go_wp2_with fail
    refine (rsize_any _ _).mono ?_
    rintro e w1 ⟨rfl, rfl⟩
    rw [sizeN_no hb]
    go_wp2
    go_ret
    exact ⟨ret_int (by rw [H.out]; rfl), rfl⟩
set_option maxHeartbeats 400000 in
theorem rof_any (b p o : Int) (w : World) (hpm : p ≤ 9223372036854775807) :
    Calls Try.prog 18 #[.int .i64 b, .int .i64 p, .int .i64 o] w fun e w' => e = .returned (.tuple #[.int .u64 (ofV b p o : Int), .int .i64 (ofE b p o)]) ∧ w' = w := by
  have hs := sizeN_bounds b
  cases hA : ofArg b p o
  · have h := hA
    simp only [ofArg, decide_eq_false_iff_not, Decidable.not_not] at h
    obtain ⟨hb, hp, ho, hos⟩ := h
    have hp32 := sizeN_pos hb
    obtain ⟨P, rfl⟩ := Int.eq_ofNat_of_zero_le hp
    obtain ⟨O, rfl⟩ := Int.eq_ofNat_of_zero_le ho
    have HD := hide (div_over 281474976710655 (sizeN b) P O (by omega) (by omega))
    have HV : Hid (ofV b P O = if P * sizeN b + O ≤ 281474976710655 then P * sizeN b + O else 0) := by
      simp only [Hid, ofV, hA, Int.toNat_natCast, Bool.false_eq_true, if_false, sizeN_yes hb]
    have HE : Hid (ofE b P O = if P * sizeN b + O ≤ 281474976710655 then 0 else 13) := by
      simp only [Hid, ofE, hA, Int.toNat_natCast, Bool.false_eq_true, if_false, sizeN_yes hb]
    have hPs : P ≤ (281474976710655 - O) / sizeN b → P * sizeN b + O ≤ 281474976710655 := fun h => by
      have := HD.out; omega
    have hq1 : (281474976710655 - (O : Int)) / (sizeN b : Int) = (((281474976710655 - O) / sizeN b : Nat) : Int) := by
      rw [Int.natCast_ediv]; congr 1; omega
    have hz : ((sizeN b : Int) == 0) = false := by simp; omega
    have hq2 : (281474976710655 - O) / sizeN b ≤ 281474976710655 := by have := Nat.div_le_self (281474976710655 - O) (sizeN b); omega
    generalize (281474976710655 - O) / sizeN b = q at *
    by_cases hP : P ≤ q
    · have hM := hPs hP
      have hM1 : P * sizeN b ≤ 281474976710655 := by omega
      rw [HV.out, HE.out, if_pos hM, if_pos hM]
      go_enter Try.func18, Try.ntmps18
      go_wp2_with fail
      refine (rsize_any _ _).mono ?_
      rintro e w1 ⟨rfl, rfl⟩
      go_wp2
      go_ret2
      exact ⟨ret_two (by go_num) rfl, rfl⟩
    · have hM : ¬ (P * sizeN b + O ≤ 281474976710655) := HD.out.1 (by omega)
      rw [HV.out, HE.out, if_neg hM, if_neg hM]
      clear hM
      go_enter Try.func18, Try.ntmps18
      go_wp2_with fail
      refine (rsize_any _ _).mono ?_
      rintro e w1 ⟨rfl, rfl⟩
      go_wp2
      go_ret2
      exact ⟨rfl, rfl⟩
  · have h := hA
    simp only [ofArg, decide_eq_true_eq] at h
    have HV : Hid (ofV b p o = 0) := by simp only [Hid, ofV, hA, if_true]
    have HE : Hid (ofE b p o = 1) := by simp only [Hid, ofE, hA, if_true]
    rw [HV.out, HE.out]
    clear hA
    by_cases hb : 5 ≤ b ∧ b ≤ 9
    · have hp := sizeN_pos hb
      have hz : ((sizeN b : Int) == 0) = false := by simp; omega
      by_cases hp : 0 ≤ p
      · by_cases ho : 0 ≤ o
        · have hos : (sizeN b : Int) ≤ o := by by_cases hx : o < (sizeN b : Int); exact absurd ⟨hb, hp, ho, hx⟩ h; omega
          clear h
          go_enter Try.func18, Try.ntmps18
          go_wp2_with fail
          refine (rsize_any _ _).mono ?_
          rintro e w1 ⟨rfl, rfl⟩
          go_wp2
          go_ret2
          exact ⟨rfl, rfl⟩
        · clear h
          go_enter Try.func18, Try.ntmps18
          go_wp2_with fail
          refine (rsize_any _ _).mono ?_
          rintro e w1 ⟨rfl, rfl⟩
          go_wp2
          go_ret2
          exact ⟨rfl, rfl⟩
      · clear h
        go_enter Try.func18, Try.ntmps18
        go_wp2_with fail
        refine (rsize_any _ _).mono ?_
        rintro e w1 ⟨rfl, rfl⟩
        go_wp2
        go_ret2
        exact ⟨rfl, rfl⟩
    · clear h
      go_enter Try.func18, Try.ntmps18
      go_wp2_with fail
      refine (rsize_any _ _).mono ?_
      rintro e w1 ⟨rfl, rfl⟩
      rw [sizeN_no hb]
      go_wp2
      go_ret2
      exact ⟨rfl, rfl⟩
set_option maxHeartbeats 400000 in
theorem radd_any (a : Nat) (n : Int) (w : World) (hn : n ≤ 9223372036854775807) :
    Calls Try.prog 21 #[.int .u64 (a : Int), .int .i64 n] w fun e w' => e = .returned (.tuple #[.int .u64 (addV a n : Int), .int .i64 (addE a n)]) ∧ w' = w := by
  by_cases ha : a ≤ 281474976710655
  · by_cases h0 : 0 ≤ n
    · obtain ⟨N, rfl⟩ := Int.eq_ofNat_of_zero_le h0
      by_cases hs : a + N ≤ 281474976710655
      · have HV : Hid (addV a N = a + N) := by simp [Hid, addV, ha, hs]
        have HE : Hid (addE a N = 0) := by simp [Hid, addE, ha, hs]
        go_enter Try.func21, Try.ntmps21
        go_wp2
        go_ret2
        exact ⟨ret_two (by rw [HV.out]; go_num) (by rw [HE.out]), rfl⟩
      · have HV : Hid (addV a N = 0) := by simp [Hid, addV, ha, hs]
        have HE : Hid (addE a N = 13) := by simp [Hid, addE, ha, hs]
        go_enter Try.func21, Try.ntmps21
        go_wp2
        go_ret2
        exact ⟨ret_two (by rw [HV.out]; rfl) (by rw [HE.out]), rfl⟩
    · have HV : Hid (addV a n = 0) := by simp only [Hid, addV, h0, and_false, if_false]
      have HE : Hid (addE a n = 1) := by simp only [Hid, addE, h0, and_false, if_false]
      go_enter Try.func21, Try.ntmps21
      go_wp2
      go_ret2
      exact ⟨ret_two (by rw [HV.out]; rfl) (by rw [HE.out]), rfl⟩
  · have HV : Hid (addV a n = 0) := by simp only [Hid, addV, ha, false_and, if_false]
    have HE : Hid (addE a n = 1) := by simp only [Hid, addE, ha, false_and, if_false]
    go_enter Try.func21, Try.ntmps21
    go_wp2
    go_ret2
    exact ⟨ret_two (by rw [HV.out]; rfl) (by rw [HE.out]), rfl⟩
/-- The chapter's example. -/
theorem page_ex (w : World) : Calls Try.prog 10 #[.int .i64 5, .int .u64 70] w fun e w' => e = .returned (.int .i64 2) ∧ Below w.heap.size w w' := page_any 5 70 w (by decide)
theorem offset_ex (w : World) : Calls Try.prog 12 #[.int .i64 5, .int .u64 70] w fun e w' => e = .returned (.int .i64 6) ∧ Below w.heap.size w w' := offset_any 5 70 w (by decide)
theorem room_ex (w : World) : Calls Try.prog 14 #[.int .i64 5, .int .u64 70] w fun e w' => e = .returned (.int .i64 26) ∧ Below w.heap.size w w' := room_any 5 70 w (by decide)
set_option maxHeartbeats 400000 in
theorem awake2_any (w : World) :
    Calls Try.prog 6 #[] w fun e w' => e = .returned (.bool true) ∧ Below w.heap.size w w' := by
  go_enter Try.func6, Try.ntmps6
  go_wp2_with fail
  refine (page_ex _).mono ?_
  rintro e w1 ⟨rfl, b1⟩
  go_wp2_with fail
  refine (offset_ex _).mono ?_
  rintro e w2 ⟨rfl, b2⟩
  replace b2 := b1.trans (b2.mono b1.size)
  go_wp2_with fail
  refine (room_ex _).mono ?_
  rintro e w3 ⟨rfl, b3⟩
  replace b3 := b2.trans (b3.mono b2.size)
  go_wp2
  go_ret
  exact ⟨rfl, b3⟩
end Go.Proofs.Ytgecekfcglelhaa
