/- The walks of record's sizes, and of the reference's. -/
import Derived.Test.YtmjolhmlhdhkfaaHb
import Derived.Test.YtmjolhmlhdhkfaaMc
namespace Go.Proofs.Ytmjolhmlhdhkfaa
open Go.RowKit
/-- How many words a record of such lengths has. -/
def sizeN (k v : Nat) : Nat := 3 + wordsFor k + wordsFor v
set_option maxHeartbeats 400000 in
theorem rwf_any (n : Nat) (w : World) (hn : n ≤ 1000000) :
    Calls Try.prog 31 #[.int .i64 (n : Int)] w fun e w' => e = .returned (.int .i64 (wordsFor n : Int)) ∧ w' = w := by
  have H : Hid ((wordsFor n : Int) = ((n : Int) + 7) / 8) := by simp only [Hid, wordsFor]; omega
  go_enter Try.func31, Try.ntmps31
  go_wp2
  go_ret
  exact ⟨ret_int (by rw [H.out]; omega), rfl⟩
set_option maxHeartbeats 400000 in
theorem size_yes (k v : Nat) (w : World) (hk : k ≤ 64) (hv : v ≤ 128) :
    Calls Try.prog 13 #[.int .i64 (k : Int), .int .i64 (v : Int)] w fun e w' => e = .returned (.int .i64 (sizeN k v : Int)) ∧ Below w.heap.size w w' := by
  have H : Hid ((sizeN k v : Int) = 3 + (wordsFor k : Int) + (wordsFor v : Int)) := by simp only [Hid, sizeN]; omega
  have l1 : wordsFor k ≤ 8 := by unfold wordsFor; omega
  have l2 : wordsFor v ≤ 16 := by unfold wordsFor; omega
  go_enter Try.func13, Try.ntmps13
  go_wp2_with fail
  refine (len_yes _ _ _ hk hv).mono ?_
  rintro e x ⟨rfl, b1⟩
  go_wp2_with fail
  refine (rwf_any _ _ (by omega)).mono ?_
  rintro e x2 ⟨rfl, rfl⟩
  go_wp2_with fail
  refine (rwf_any _ _ (by omega)).mono ?_
  rintro e x3 ⟨rfl, rfl⟩
  generalize wordsFor k = K at *
  generalize wordsFor v = V at *
  go_wp2
  go_ret
  exact ⟨ret_int (by rw [H.out]), b1⟩
set_option maxHeartbeats 400000 in
theorem size_no (k v : Int) (w : World) (h : k < 0 ∨ v < 0 ∨ 64 < k ∨ 128 < v) :
    Calls Try.prog 13 #[.int .i64 k, .int .i64 v] w fun e w' => e = .returned (.int .i64 0) ∧ Below w.heap.size w w' := by
  by_cases h1 : k < 0 ∨ v < 0
  · clear h
    go_enter Try.func13, Try.ntmps13
    go_wp2_with fail
    refine (len_arg _ _ _ h1).mono ?_
    rintro e x ⟨rfl, b1⟩
    go_wp2
    go_ret
    exact ⟨rfl, b1⟩
  · have a1 : 0 ≤ k := by omega
    have a2 : 0 ≤ v := by omega
    have a3 : Hid (64 < k ∨ 128 < v) := by unfold Hid; omega
    clear h h1
    go_enter Try.func13, Try.ntmps13
    go_wp2_with fail
    refine (len_long _ _ _ a1 a2 a3.out).mono ?_
    rintro e x ⟨rfl, b1⟩
    go_wp2
    go_ret
    exact ⟨rfl, b1⟩
theorem at_size (k : Nat) : sizeN k 0 = 3 + wordsFor k := rfl
set_option maxHeartbeats 400000 in
theorem at_yes (k : Nat) (w : World) (hk : k ≤ 64) :
    Calls Try.prog 18 #[.int .i64 (k : Int)] w fun e w' => e = .returned (.int .i64 (sizeN k 0 : Int)) ∧ Below w.heap.size w w' := by
  go_enter Try.func18, Try.ntmps18
  go_wp2_with fail
  refine (size_yes k 0 _ hk (by decide)).mono ?_
  rintro e x ⟨rfl, b1⟩
  go_wp2
  go_ret
  exact ⟨rfl, b1⟩
set_option maxHeartbeats 400000 in
theorem at_no (k : Int) (w : World) (h : k < 0 ∨ 64 < k) :
    Calls Try.prog 18 #[.int .i64 k] w fun e w' => e = .returned (.int .i64 0) ∧ Below w.heap.size w w' := by
  go_enter Try.func18, Try.ntmps18
  go_wp2_with fail
  refine (size_no k 0 _ (by omega)).mono ?_
  rintro e x ⟨rfl, b1⟩
  go_wp2
  go_ret
  exact ⟨rfl, b1⟩
set_option maxHeartbeats 400000 in
theorem rsize_yes (k v : Nat) (w : World) (hk : k ≤ 64) (hv : v ≤ 128) :
    Calls Try.prog 19 #[.int .i64 (k : Int), .int .i64 (v : Int)] w fun e w' => e = .returned (.int .i64 (sizeN k v : Int)) ∧ w' = w := by
  have H : Hid ((sizeN k v : Int) = 3 + ((k : Int) + 7) / 8 + ((v : Int) + 7) / 8) := by simp only [Hid, sizeN, wordsFor]; omega
  go_enter Try.func19, Try.ntmps19
  go_wp2
  go_ret
  exact ⟨ret_int (by rw [H.out]), rfl⟩
set_option maxHeartbeats 400000 in
theorem rsize_no (k v : Int) (w : World) (h : k < 0 ∨ v < 0 ∨ 64 < k ∨ 128 < v) :
    Calls Try.prog 19 #[.int .i64 k, .int .i64 v] w fun e w' => e = .returned (.int .i64 0) ∧ w' = w := by
  have H := hide h
  clear h
  by_cases h1 : k < 0
  · clear H
    go_enter Try.func19, Try.ntmps19
    go_wp2
    go_ret
    exact ⟨rfl, rfl⟩
  · by_cases h2 : v < 0
    · clear H
      go_enter Try.func19, Try.ntmps19
      go_wp2
      go_ret
      exact ⟨rfl, rfl⟩
    · by_cases h3 : 64 < k
      · clear H
        go_enter Try.func19, Try.ntmps19
        go_wp2
        go_ret
        exact ⟨rfl, rfl⟩
      · have h4 : 128 < v := by have := H.out; omega
        clear H
        go_enter Try.func19, Try.ntmps19
        go_wp2
        go_ret
        exact ⟨rfl, rfl⟩
end Go.Proofs.Ytmjolhmlhdhkfaa
