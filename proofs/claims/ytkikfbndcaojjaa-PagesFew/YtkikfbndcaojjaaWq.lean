/- The walks of the reference's functions over addresses, and of the chapter's example. -/
import Derived.Test.YtkikfbndcaojjaaWp
namespace Go.Proofs.Ytkikfbndcaojjaa
open Go.RowKit

set_option maxHeartbeats 400000 in
theorem rsize_any (b : Int) (w : World) :
    Calls Try.prog 19 #[.int .i64 b] w fun e w' => e = .returned (.int .i64 (sizeN b : Int)) ∧ w' = w := by
  by_cases h : 5 ≤ b ∧ b ≤ 9
  · rcases five h with rfl | rfl | rfl | rfl | rfl
    all_goals
      go_enter Try.func19, Try.ntmps19
      go_wp2
      go_ret
      exact ⟨rfl, rfl⟩
  · rw [sizeN_no h]
    have h5 : ¬ b = 5 := by omega
    have h6 : ¬ b = 6 := by omega
    have h7 : ¬ b = 7 := by omega
    have h8 : ¬ b = 8 := by omega
    have h9 : ¬ b = 9 := by omega
    clear h
    go_enter Try.func19, Try.ntmps19
    go_wp2
    go_ret
    exact ⟨rfl, rfl⟩
theorem ofNat_ne {n : Nat} (h : 32 ≤ n) : ¬ ((n : Int) = 0) := by omega
set_option maxHeartbeats 400000 in
theorem rpage_any (b : Int) (a : Nat) (w : World) (hn : a < 18446744073709551616) :
    Calls Try.prog 59 #[.int .i64 b, .int .u64 (a : Int)] w fun e w' => e = .returned (.int .i64 (pageN b a : Int)) ∧ w' = w := by
  by_cases hb : 5 ≤ b ∧ b ≤ 9
  · have hs := sizeN_bounds b
    have hp := sizeN_pos hb
    have hz : ((sizeN b : Int) == 0) = false := by simp; omega
    by_cases ha : a ≤ 281474976710655
    · have H : Hid (a / sizeN b = pageN b a) := by simp only [Hid, pageN, if_pos (And.intro hb ha), sizeN_yes hb]
      have hd0 : 0 ≤ (a : Int) / (sizeN b : Int) := Int.natCast_ediv a (sizeN b) ▸ Int.natCast_nonneg _
      have hd : (a : Int) / (sizeN b : Int) ≤ 281474976710655 := by have := Nat.div_le_self a (sizeN b); rw [← Int.natCast_ediv]; omega
      go_enter Try.func59, Try.ntmps59
      go_wp2_with fail
      refine (rsize_any _ _).mono ?_
      rintro e w1 ⟨rfl, rfl⟩
      go_wp2
      go_ret
      exact ⟨ret_int (by rw [← H.out]; go_num), rfl⟩
    · have H : Hid (pageN b a = 0) := by simp only [Hid, pageN, if_neg (fun x : (5 ≤ b ∧ b ≤ 9) ∧ a ≤ 281474976710655 => ha x.2)]
      go_enter Try.func59, Try.ntmps59
      go_wp2_with fail
      refine (rsize_any _ _).mono ?_
      rintro e w1 ⟨rfl, rfl⟩
      go_wp2
      go_ret
      exact ⟨ret_int (by rw [H.out]; rfl), rfl⟩
  · have H : Hid (pageN b a = 0) := by simp only [Hid, pageN, if_neg (fun x : (5 ≤ b ∧ b ≤ 9) ∧ a ≤ 281474976710655 => hb x.1)]
    go_enter Try.func59, Try.ntmps59
    go_wp2_with fail
    refine (rsize_any _ _).mono ?_
    rintro e w1 ⟨rfl, rfl⟩
    rw [sizeN_no hb]
    go_wp2
    go_ret
    exact ⟨ret_int (by rw [H.out]; rfl), rfl⟩
set_option maxHeartbeats 400000 in
theorem roff_any (b : Int) (a : Nat) (w : World) (hn : a < 18446744073709551616) :
    Calls Try.prog 45 #[.int .i64 b, .int .u64 (a : Int)] w fun e w' => e = .returned (.int .i64 (offN b a : Int)) ∧ w' = w := by
  by_cases hb : 5 ≤ b ∧ b ≤ 9
  · have hs := sizeN_bounds b
    have hp := sizeN_pos hb
    have hz : ((sizeN b : Int) == 0) = false := by simp; omega
    by_cases ha : a ≤ 281474976710655
    · have H : Hid (a % sizeN b = offN b a) := by simp only [Hid, offN, if_pos (And.intro hb ha), sizeN_yes hb]
      have hd : a % sizeN b ≤ 511 := by have := Nat.mod_lt a (show 0 < sizeN b by omega); omega
      go_enter Try.func45, Try.ntmps45
      go_wp2_with fail
      refine (rsize_any _ _).mono ?_
      rintro e w1 ⟨rfl, rfl⟩
      go_wp2
      go_ret
      exact ⟨ret_int (by rw [← H.out]; go_num), rfl⟩
    · have H : Hid (offN b a = 0) := by simp only [Hid, offN, if_neg (fun x : (5 ≤ b ∧ b ≤ 9) ∧ a ≤ 281474976710655 => ha x.2)]
      go_enter Try.func45, Try.ntmps45
      go_wp2_with fail
      refine (rsize_any _ _).mono ?_
      rintro e w1 ⟨rfl, rfl⟩
      go_wp2
      go_ret
      exact ⟨ret_int (by rw [H.out]; rfl), rfl⟩
  · have H : Hid (offN b a = 0) := by simp only [Hid, offN, if_neg (fun x : (5 ≤ b ∧ b ≤ 9) ∧ a ≤ 281474976710655 => hb x.1)]
    go_enter Try.func45, Try.ntmps45
    go_wp2_with fail
    refine (rsize_any _ _).mono ?_
    rintro e w1 ⟨rfl, rfl⟩
    rw [sizeN_no hb]
    go_wp2
    go_ret
    exact ⟨ret_int (by rw [H.out]; rfl), rfl⟩
set_option maxHeartbeats 400000 in
theorem rroom_any (b : Int) (a : Nat) (w : World) (hn : a < 18446744073709551616) :
    Calls Try.prog 44 #[.int .i64 b, .int .u64 (a : Int)] w fun e w' => e = .returned (.int .i64 (roomN b a : Int)) ∧ w' = w := by
  by_cases hb : 5 ≤ b ∧ b ≤ 9
  · have hs := sizeN_bounds b
    have hp := sizeN_pos hb
    have hz : ((sizeN b : Int) == 0) = false := by simp; omega
    by_cases ha : a ≤ 281474976710655
    · have hl := offN_le b a
      have H : Hid ((sizeN b : Int) - (offN b a : Int) = (roomN b a : Int)) := by
        have h1 := Nat.mod_lt a (pow_pos2 b.toNat)
        simp only [Hid, roomN, offN, if_pos (And.intro hb ha), sizeN_yes hb]
        omega
      go_enter Try.func44, Try.ntmps44
      go_wp2_with fail
      refine (rsize_any _ _).mono ?_
      rintro e w1 ⟨rfl, rfl⟩
      go_wp2_with fail
      refine (rsize_any _ _).mono ?_
      rintro e w2 ⟨rfl, rfl⟩
      go_wp2_with fail
      refine (roff_any _ _ _ hn).mono ?_
      rintro e w2 ⟨rfl, rfl⟩
      go_wp2
      go_ret
      exact ⟨ret_int (by rw [← H.out]), rfl⟩
    · have H : Hid (roomN b a = 0) := by simp only [Hid, roomN, if_neg (fun x : (5 ≤ b ∧ b ≤ 9) ∧ a ≤ 281474976710655 => ha x.2)]
      go_enter Try.func44, Try.ntmps44
      go_wp2_with fail
      refine (rsize_any _ _).mono ?_
      rintro e w1 ⟨rfl, rfl⟩
      go_wp2
      go_ret
      exact ⟨ret_int (by rw [H.out]; rfl), rfl⟩
  · have H : Hid (roomN b a = 0) := by simp only [Hid, roomN, if_neg (fun x : (5 ≤ b ∧ b ≤ 9) ∧ a ≤ 281474976710655 => hb x.1)]
    go_enter Try.func44, Try.ntmps44
    go_wp2_with fail
    refine (rsize_any _ _).mono ?_
    rintro e w1 ⟨rfl, rfl⟩
    rw [sizeN_no hb]
    go_wp2
    go_ret
    exact ⟨ret_int (by rw [H.out]; rfl), rfl⟩
end Go.Proofs.Ytkikfbndcaojjaa
