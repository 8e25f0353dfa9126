/- The walks of package mix's functions and of the reference's. -/
import Derived.Test.YtkdbfbmahhfbcaaWa
import Derived.Test.YtkdbfbmahhfbcaaMm
namespace Go.Proofs.Ytkdbfbmahhfbcaa
open Go.RowKit

set_option maxHeartbeats 400000 in
theorem mmay_any (n : Int) (w : World) :
    Calls Try.prog 8 #[.int .i64 n] w fun e w' => e = .returned (.bool (powB n)) ∧ w' = w := by
  by_cases h1 : 1 ≤ n
  · by_cases h2 : n ≤ 1024
    · have H := hide (may_bits n h1 h2)
      go_enter Try.func8, Try.ntmps8
      go_wp2
      go_ret
      exact ⟨ret_bool H.out, rfl⟩
    · have H := hide (powB_out n (by omega))
      go_enter Try.func8, Try.ntmps8
      go_wp2
      go_ret
      exact ⟨ret_bool H.out.symm, rfl⟩
  · have H := hide (powB_out n (by omega))
    go_enter Try.func8, Try.ntmps8
    go_wp2
    go_ret
    exact ⟨ret_bool H.out.symm, rfl⟩
set_option maxHeartbeats 400000 in
theorem rmmay_any (n : Int) (w : World) :
    Calls Try.prog 9 #[.int .i64 n] w fun e w' => e = .returned (.bool (powB n)) ∧ w' = w := by
  go_enter Try.func9, Try.ntmps9
  go_wp2
  go_loop [3] (fun i => ∃ j k : Nat, j ≤ 11 ∧ Hid (k = 2 ^ j) ∧ k ≤ 2048 ∧ 1 ≤ k ∧ i = .int .i64 k ∧ Hid (∀ q, q < j → n ≠ ((2 ^ q : Nat) : Int))) (fun i => 2048 - (intOf i).toNat)
  case atStart => exact ⟨0, 1, by omega, rfl, by omega, by omega, rfl, fun q hq => by omega⟩
  case round =>
    obtain ⟨j, k, hj, HK, hk, hk1, rfl, HA⟩ := hrel
    by_cases hlt : k ≤ 1024
    · have hj' : j < 11 := by
        have := HK.out
        by_cases e : j = 11
        · subst e; rw [this] at hlt; exact absurd hlt (by decide)
        · omega
      by_cases he : (k : Int) = n
      · have H : Hid (powB n = true) := powB_true.2 ⟨j, hj', by rw [← he, HK.out]⟩
        subst he
        go_wp2
        go_ret
        exact ⟨ret_bool H.out.symm, rfl⟩
      · have H : Hid (∀ q, q < j + 1 → n ≠ ((2 ^ q : Nat) : Int)) := fun q hq => by
          by_cases e : q < j
          · exact HA.out q e
          · rw [show q = j by omega, ← HK.out]; exact fun x => he x.symm
        have H2 : Hid (k * 2 = 2 ^ (j + 1)) := by rw [HK.out, Nat.pow_succ]; rfl
        go_wp2
        go_round
        case rel => exact ⟨j + 1, k * 2, by omega, H2, by omega, by omega, by go_num, H⟩
        case measure => simp [intOf]; omega
    · have H : Hid (powB n = false) := by
        cases e : powB n
        · rfl
        · obtain ⟨q, hq, hn⟩ := powB_true.1 e
          by_cases hqj : q < j
          · exact absurd hn (HA.out q hqj)
          · have h1 : 2 ^ j ≤ 2 ^ q := Nat.pow_le_pow_right (by decide) (by omega)
            have h2 : 2 ^ q ≤ 2 ^ 10 := Nat.pow_le_pow_right (by decide) (by omega)
            have h3 : (2 : Nat) ^ 10 = 1024 := by decide
            have := HK.out
            omega
      go_wp2
      go_ret
      exact ⟨ret_bool H.out.symm, rfl⟩
set_option maxHeartbeats 400000 in
theorem fold_any (h : Nat) (w : World) (hh : h < 18446744073709551616) :
    Calls Try.prog 18 #[.int .u64 (h : Int)] w fun e w' => e = .returned (.int .u64 (foldN h : Int)) ∧ Below w.heap.size w w' := by
  have H : Hid (getN h (Int.toNat 32) (Int.toNat 32) = h / 4294967296) := getN_high h hh
  have HX : Hid (bits .xor .u64 (h : Int) ((h / 4294967296 : Nat) : Int) = (foldN h : Int)) := u64_xor_nat _ _ hh (by omega)
  have hl : h / 4294967296 < 4294967296 := by omega
  generalize h / 4294967296 = q at *
  go_enter Try.func18, Try.ntmps18
  go_wp2_with fail
  refine (get_yes _ _ _ _ hh (by decide)).mono ?_
  rintro e w3 ⟨rfl, b3⟩
  rw [H.out]
  replace b3 := below_drewN' b3
  go_wp2
  go_ret
  exact ⟨ret_int HX.out, b3⟩
set_option maxHeartbeats 400000 in
theorem finish_any (h : Nat) (w : World) (hh : h < 18446744073709551616) :
    Calls Try.prog 15 #[.int .u64 (h : Int)] w fun e w' => e = .returned (.int .u64 (finN h : Int)) ∧ Below w.heap.size w w' := by
  go_enter Try.func15, Try.ntmps15
  go_wp2
  go_loopw [0, 3] (fun x i wr => ∃ k : Nat, k ≤ 2 ∧ i = .int .i64 k ∧ x = .int .u64 (finK h k : Int) ∧ Below w.heap.size w wr) (fun _ i _ => 2 - (intOf i).toNat)
  case atStart => exact ⟨0, by omega, rfl, rfl, Below.refl _ _⟩
  case round =>
    obtain ⟨k, hk, rfl, rfl, b1⟩ := hrel
    have hl := finK_lt hh k
    by_cases hlt : k < 2
    · have M : Hid (IntKind.u64.wrap ((foldN (finK h k) : Int) * 15480190943371904987) = (finK h (k + 1) : Int)) := wrap_mul64 (foldN (finK h k)) 15480190943371904987
      obtain ⟨y, HY⟩ : ∃ y, Hid (y = finK h (k + 1)) := ⟨_, rfl⟩
      rw [← HY.out] at M
      generalize hx : finK h k = x at *
      clear hx
      go_wp2_with fail
      refine (fold_any _ _ hl).mono ?_
      rintro e w2 ⟨rfl, b2⟩
      replace b2 := b1.trans (b2.mono b1.size)
      go_wp2
      rw [M.out]
      go_roundw
      case rel => exact ⟨k + 1, by omega, by go_num, by rw [HY.out], b2⟩
      case measure => simp [intOf]; omega
    · have e : k = 2 := by omega
      subst e
      go_wp2_with fail
      refine (fold_any _ _ hl).mono ?_
      rintro e w2 ⟨rfl, b2⟩
      replace b2 := b1.trans (b2.mono b1.size)
      go_wp2
      go_ret
      exact ⟨rfl, b2⟩
def buckN (h : Nat) (n : Int) : Nat := if powB n = true then h % n.toNat else 0
set_option maxHeartbeats 400000 in
theorem bucket_any (h : Nat) (n : Int) (w : World) (hh : h < 18446744073709551616) :
    Calls Try.prog 10 #[.int .u64 (h : Int), .int .i64 n] w fun e w' => e = .returned (.int .i64 (buckN h n : Int)) ∧ w' = w := by
  cases hp : powB n
  · have H : Hid (buckN h n = 0) := by simp [Hid, buckN, hp]
    go_enter Try.func10, Try.ntmps10
    go_wp2_with fail
    refine (mmay_any _ _).mono ?_
    rintro e w1 ⟨rfl, rfl⟩
    go_wp2
    go_ret
    exact ⟨ret_int (by rw [H.out]; rfl), rfl⟩
  · have hr := powB_range hp
    obtain ⟨N, rfl⟩ := Int.eq_ofNat_of_zero_le (show 0 ≤ n by omega)
    have H : Hid (buckN h N = h % N) := by simp [Hid, buckN, hp]
    have hz : ((N : Int) == 0) = false := by simp; omega
    have hd : h % N < 1024 := by have := Nat.mod_lt h (show 0 < N by omega); omega
    go_enter Try.func10, Try.ntmps10
    go_wp2_with fail
    refine (mmay_any _ _).mono ?_
    rintro e w1 ⟨rfl, rfl⟩
    go_wp2
    go_ret
    exact ⟨ret_int (by rw [H.out]; go_num), rfl⟩
set_option maxHeartbeats 400000 in
theorem rbucket_any (h : Nat) (n : Int) (w : World) (hh : h < 18446744073709551616) :
    Calls Try.prog 11 #[.int .u64 (h : Int), .int .i64 n] w fun e w' => e = .returned (.int .i64 (buckN h n : Int)) ∧ w' = w := by
  cases hp : powB n
  · have H : Hid (buckN h n = 0) := by simp [Hid, buckN, hp]
    go_enter Try.func11, Try.ntmps11
    go_wp2_with fail
    refine (rmmay_any _ _).mono ?_
    rintro e w1 ⟨rfl, rfl⟩
    go_wp2
    go_ret
    exact ⟨ret_int (by rw [H.out]; rfl), rfl⟩
  · have hr := powB_range hp
    obtain ⟨N, rfl⟩ := Int.eq_ofNat_of_zero_le (show 0 ≤ n by omega)
    have H : Hid (buckN h N = h % N) := by simp [Hid, buckN, hp]
    have hz : ((N : Int) == 0) = false := by simp; omega
    have hd : h % N < 1024 := by have := Nat.mod_lt h (show 0 < N by omega); omega
    go_enter Try.func11, Try.ntmps11
    go_wp2_with fail
    refine (rmmay_any _ _).mono ?_
    rintro e w1 ⟨rfl, rfl⟩
    go_wp2
    go_ret
    exact ⟨ret_int (by rw [H.out]; go_num), rfl⟩
set_option maxHeartbeats 400000 in
theorem tag_any (h : Nat) (w : World) (hh : h < 18446744073709551616) :
    Calls Try.prog 12 #[.int .u64 (h : Int)] w fun e w' => e = .returned (.int .u64 ((h / 1125899906842624 : Nat) : Int)) ∧ Below w.heap.size w w' := by
  have H : Hid (getN h (Int.toNat 50) (Int.toNat 14) = h / 1125899906842624) := getN_tag h hh
  go_enter Try.func12, Try.ntmps12
  go_wp2_with fail
  refine (get_yes _ _ _ _ hh (by decide)).mono ?_
  rintro e w3 ⟨rfl, b3⟩
  rw [H.out]
  replace b3 := below_drewN' b3
  go_wp2
  go_ret
  exact ⟨rfl, b3⟩
set_option maxHeartbeats 400000 in
theorem rtag_any (h : Nat) (w : World) (hh : h < 18446744073709551616) :
    Calls Try.prog 13 #[.int .u64 (h : Int)] w fun e w' => e = .returned (.int .u64 ((h / 1125899906842624 : Nat) : Int)) ∧ w' = w := by
  go_enter Try.func13, Try.ntmps13
  go_wp2
  go_ret
  exact ⟨ret_int (by go_num), rfl⟩
set_option maxHeartbeats 400000 in
theorem turn_any (a b : Nat) (w : World) (ha : a < 18446744073709551616) (hb : b < 18446744073709551616) :
    Calls Try.prog 16 #[.int .u64 (a : Int), .int .u64 (b : Int)] w fun e w' => e = .returned (.int .u64 ((a ^^^ b : Nat) : Int)) ∧ w' = w := by
  have H := hide (turn_bits a b ha hb)
  go_enter Try.func16, Try.ntmps16
  go_wp2
  go_ret
  exact ⟨ret_int H.out, rfl⟩
end Go.Proofs.Ytkdbfbmahhfbcaa
