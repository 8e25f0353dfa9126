/- The walks of package mix's functions and of the reference's. -/
import Derived.Test.YtmpnbaiolmkhlaaWa
import Derived.Test.YtmpnbaiolmkhlaaMm
namespace Go.Proofs.Ytmpnbaiolmkhlaa
set_option maxRecDepth 20000
open Go.RowKit

set_option maxHeartbeats 400000 in
theorem mmay_any (n : Int) (w : World) :
    Calls Try.prog 27 #[.int .i64 n] w fun e w' => e = .returned (.bool (powB n)) ∧ w' = w := by
  by_cases h1 : 1 ≤ n
  · by_cases h2 : n ≤ 1024
    · have H := hide (may_bits n h1 h2)
      go_enter Try.func27, Try.ntmps27
      go_wp2
      go_ret
      exact ⟨ret_bool H.out, rfl⟩
    · have H := hide (powB_out n (by omega))
      go_enter Try.func27, Try.ntmps27
      go_wp2
      go_ret
      exact ⟨ret_bool H.out.symm, rfl⟩
  · have H := hide (powB_out n (by omega))
    go_enter Try.func27, Try.ntmps27
    go_wp2
    go_ret
    exact ⟨ret_bool H.out.symm, rfl⟩
set_option maxHeartbeats 400000 in
theorem rmmay_any (n : Int) (w : World) :
    Calls Try.prog 29 #[.int .i64 n] w fun e w' => e = .returned (.bool (powB n)) ∧ w' = w := by
  go_enter Try.func29, Try.ntmps29
  go_wp2
  go_loop [3] (fun i => ∃ j k : Nat, j ≤ 11 ∧ Hid (k = 2 ^ j) ∧ k ≤ 2048 ∧ 1 ≤ k ∧ i = .int .i64 k ∧ Hid (∀ q, q < j → n ≠ ((2 ^ q : Nat) : Int))) (fun i => 2048 - (intOf i).toNat)
  case atStart => exact ⟨0, 1, by omega, rfl, by omega, by omega, rfl, fun q hq => by omega⟩
  case round =>
    obtain ⟨j, k, hj, HK, hk, hk1, rfl, HA⟩ := hrel
    by_cases hlt : k ≤ 1024
    · have hj' : j < 11 := by
        have := HK.out
        by_cases e : j = 11
        · subst e; rw [this] at hlt; exact absurd hlt (by decide)
        · omega
      by_cases he : (k : Int) = n
      · have H : Hid (powB n = true) := powB_true.2 ⟨j, hj', by rw [← he, HK.out]⟩
        subst he
        go_wp2
        go_ret
        exact ⟨ret_bool H.out.symm, rfl⟩
      · have H : Hid (∀ q, q < j + 1 → n ≠ ((2 ^ q : Nat) : Int)) := fun q hq => by
          by_cases e : q < j
          · exact HA.out q e
          · rw [show q = j by omega, ← HK.out]; exact fun x => he x.symm
        have H2 : Hid (k * 2 = 2 ^ (j + 1)) := by rw [HK.out, Nat.pow_succ]; rfl
        go_wp2
        go_round
        case rel => exact ⟨j + 1, k * 2, by omega, H2, by omega, by omega, by go_num, H⟩
        case measure => simp [intOf]; omega
    · have H : Hid (powB n = false) := by
        cases e : powB n
        · rfl
        · obtain ⟨q, hq, hn⟩ := powB_true.1 e
          by_cases hqj : q < j
          · exact absurd hn (HA.out q hqj)
          · have h1 : 2 ^ j ≤ 2 ^ q := Nat.pow_le_pow_right (by decide) (by omega)
            have h2 : 2 ^ q ≤ 2 ^ 10 := Nat.pow_le_pow_right (by decide) (by omega)
            have h3 : (2 : Nat) ^ 10 = 1024 := by decide
            have := HK.out
            omega
      go_wp2
      go_ret
      exact ⟨ret_bool H.out.symm, rfl⟩
def buckN (h : Nat) (n : Int) : Nat := if powB n = true then h % n.toNat else 0
set_option maxHeartbeats 400000 in
theorem bucket_any (h : Nat) (n : Int) (w : World) (hh : h < 18446744073709551616) :
    Calls Try.prog 43 #[.int .u64 (h : Int), .int .i64 n] w fun e w' => e = .returned (.int .i64 (buckN h n : Int)) ∧ w' = w := by
  cases hp : powB n
  · have H : Hid (buckN h n = 0) := by simp [Hid, buckN, hp]
    go_enter Try.func43, Try.ntmps43
    go_wp2_with fail
    refine (mmay_any _ _).mono ?_
    rintro e w1 ⟨rfl, rfl⟩
    go_wp2
    go_ret
    exact ⟨ret_int (by rw [H.out]; rfl), rfl⟩
  · have hr := powB_range hp
    obtain ⟨N, rfl⟩ := Int.eq_ofNat_of_zero_le (show 0 ≤ n by omega)
    have H : Hid (buckN h N = h % N) := by simp [Hid, buckN, hp]
    have hz : ((N : Int) == 0) = false := by simp; omega
    have hd : h % N < 1024 := by have := Nat.mod_lt h (show 0 < N by omega); omega
    go_enter Try.func43, Try.ntmps43
    go_wp2_with fail
    refine (mmay_any _ _).mono ?_
    rintro e w1 ⟨rfl, rfl⟩
    go_wp2
    go_ret
    exact ⟨ret_int (by rw [H.out]; go_num), rfl⟩
set_option maxHeartbeats 400000 in
theorem rbucket_any (h : Nat) (n : Int) (w : World) (hh : h < 18446744073709551616) :
    Calls Try.prog 14 #[.int .u64 (h : Int), .int .i64 n] w fun e w' => e = .returned (.int .i64 (buckN h n : Int)) ∧ w' = w := by
  cases hp : powB n
  · have H : Hid (buckN h n = 0) := by simp [Hid, buckN, hp]
    go_enter Try.func14, Try.ntmps14
    go_wp2_with fail
    refine (rmmay_any _ _).mono ?_
    rintro e w1 ⟨rfl, rfl⟩
    go_wp2
    go_ret
    exact ⟨ret_int (by rw [H.out]; rfl), rfl⟩
  · have hr := powB_range hp
    obtain ⟨N, rfl⟩ := Int.eq_ofNat_of_zero_le (show 0 ≤ n by omega)
    have H : Hid (buckN h N = h % N) := by simp [Hid, buckN, hp]
    have hz : ((N : Int) == 0) = false := by simp; omega
    have hd : h % N < 1024 := by have := Nat.mod_lt h (show 0 < N by omega); omega
    go_enter Try.func14, Try.ntmps14
    go_wp2_with fail
    refine (rmmay_any _ _).mono ?_
    rintro e w1 ⟨rfl, rfl⟩
    go_wp2
    go_ret
    exact ⟨ret_int (by rw [H.out]; go_num), rfl⟩
set_option maxHeartbeats 400000 in
theorem tag_any (h : Nat) (w : World) (hh : h < 18446744073709551616) :
    Calls Try.prog 42 #[.int .u64 (h : Int)] w fun e w' => e = .returned (.int .u64 ((h / 1125899906842624 : Nat) : Int)) ∧ Below w.heap.size w w' := by
  have H : Hid (getN h (Int.toNat 50) (Int.toNat 14) = h / 1125899906842624) := getN_tag h hh
  go_enter Try.func42, Try.ntmps42
  go_wp2_with fail
  refine (get_yes _ _ _ _ hh (by decide)).mono ?_
  rintro e w3 ⟨rfl, b3⟩
  rw [H.out]
  replace b3 := below_drewN' b3
  go_wp2
  go_ret
  exact ⟨rfl, b3⟩
set_option maxHeartbeats 400000 in
theorem rtag_any (h : Nat) (w : World) (hh : h < 18446744073709551616) :
    Calls Try.prog 15 #[.int .u64 (h : Int)] w fun e w' => e = .returned (.int .u64 ((h / 1125899906842624 : Nat) : Int)) ∧ w' = w := by
  go_enter Try.func15, Try.ntmps15
  go_wp2
  go_ret
  exact ⟨ret_int (by go_num), rfl⟩
end Go.Proofs.Ytmpnbaiolmkhlaa
