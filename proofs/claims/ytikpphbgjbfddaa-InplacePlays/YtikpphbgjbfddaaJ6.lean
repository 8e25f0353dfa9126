/- Parts of the proof: Ra. -/
import Derived.Test.YtikpphbgjbfddaaJ1
import Derived.Test.YtikpphbgjbfddaaJ5
namespace Go.Proofs.Ytikpphbgjbfddaa
set_option maxRecDepth 20000
open Go.RowKit
/-- How many words a record of such lengths has. -/
def sizeR (k v : Nat) : Nat := 3 + wordsFor k + wordsFor v
set_option maxHeartbeats 400000 in
theorem rwf_any (n : Nat) (w : World) (hn : n ≤ 1000000) :
    Calls Try.prog 86 #[.int .i64 (n : Int)] w fun e w' => e = .returned (.int .i64 (wordsFor n : Int)) ∧ w' = w := by
  have H : Hid ((wordsFor n : Int) = ((n : Int) + 7) / 8) := by simp only [Hid, wordsFor]; omega
  go_enter Try.func86, Try.ntmps86
  go_wp2
  go_ret
  exact ⟨ret_int (by rw [H.out]; omega), rfl⟩
set_option maxHeartbeats 400000 in
theorem size_yes (k v : Nat) (w : World) (hk : k ≤ 64) (hv : v ≤ 128) :
    Calls Try.prog 63 #[.int .i64 (k : Int), .int .i64 (v : Int)] w fun e w' => e = .returned (.int .i64 (sizeR k v : Int)) ∧ Below w.heap.size w w' := by
  have H : Hid ((sizeR k v : Int) = 3 + (wordsFor k : Int) + (wordsFor v : Int)) := by simp only [Hid, sizeR]; omega
  have l1 : wordsFor k ≤ 8 := by unfold wordsFor; omega
  have l2 : wordsFor v ≤ 16 := by unfold wordsFor; omega
  go_enter Try.func63, Try.ntmps63
  go_wp2_with fail
  refine (len_yes _ _ _ hk hv).mono ?_
  rintro e x ⟨rfl, b1⟩
  go_wp2_with fail
  refine (rwf_any _ _ (by omega)).mono ?_
  rintro e x2 ⟨rfl, rfl⟩
  go_wp2_with fail
  refine (rwf_any _ _ (by omega)).mono ?_
  rintro e x3 ⟨rfl, rfl⟩
  generalize wordsFor k = K at *
  generalize wordsFor v = V at *
  go_wp2
  go_ret
  exact ⟨ret_int (by rw [H.out]), b1⟩
set_option maxHeartbeats 400000 in
theorem size_no (k v : Int) (w : World) (h : k < 0 ∨ v < 0 ∨ 64 < k ∨ 128 < v) :
    Calls Try.prog 63 #[.int .i64 k, .int .i64 v] w fun e w' => e = .returned (.int .i64 0) ∧ Below w.heap.size w w' := by
  by_cases h1 : k < 0 ∨ v < 0
  · clear h
    go_enter Try.func63, Try.ntmps63
    go_wp2_with fail
    refine (len_arg _ _ _ h1).mono ?_
    rintro e x ⟨rfl, b1⟩
    go_wp2
    go_ret
    exact ⟨rfl, b1⟩
  · have a1 : 0 ≤ k := by omega
    have a2 : 0 ≤ v := by omega
    have a3 : Hid (64 < k ∨ 128 < v) := by unfold Hid; omega
    clear h h1
    go_enter Try.func63, Try.ntmps63
    go_wp2_with fail
    refine (len_long _ _ _ a1 a2 a3.out).mono ?_
    rintro e x ⟨rfl, b1⟩
    go_wp2
    go_ret
    exact ⟨rfl, b1⟩
theorem at_size (k : Nat) : sizeR k 0 = 3 + wordsFor k := rfl
set_option maxHeartbeats 400000 in
theorem at_yes (k : Nat) (w : World) (hk : k ≤ 64) :
    Calls Try.prog 65 #[.int .i64 (k : Int)] w fun e w' => e = .returned (.int .i64 (sizeR k 0 : Int)) ∧ Below w.heap.size w w' := by
  go_enter Try.func65, Try.ntmps65
  go_wp2_with fail
  refine (size_yes k 0 _ hk (by decide)).mono ?_
  rintro e x ⟨rfl, b1⟩
  go_wp2
  go_ret
  exact ⟨rfl, b1⟩
set_option maxHeartbeats 400000 in
theorem rsize_yes (k v : Nat) (w : World) (hk : k ≤ 64) (hv : v ≤ 128) :
    Calls Try.prog 40 #[.int .i64 (k : Int), .int .i64 (v : Int)] w fun e w' => e = .returned (.int .i64 (sizeR k v : Int)) ∧ w' = w := by
  have H : Hid ((sizeR k v : Int) = 3 + ((k : Int) + 7) / 8 + ((v : Int) + 7) / 8) := by simp only [Hid, sizeR, wordsFor]; omega
  go_enter Try.func40, Try.ntmps40
  go_wp2
  go_ret
  exact ⟨ret_int (by rw [H.out]), rfl⟩
set_option maxHeartbeats 400000 in
theorem rsize_no (k v : Int) (w : World) (h : k < 0 ∨ v < 0 ∨ 64 < k ∨ 128 < v) :
    Calls Try.prog 40 #[.int .i64 k, .int .i64 v] w fun e w' => e = .returned (.int .i64 0) ∧ w' = w := by
  have H := hide h
  clear h
  by_cases h1 : k < 0
  · clear H
    go_enter Try.func40, Try.ntmps40
    go_wp2
    go_ret
    exact ⟨rfl, rfl⟩
  · by_cases h2 : v < 0
    · clear H
      go_enter Try.func40, Try.ntmps40
      go_wp2
      go_ret
      exact ⟨rfl, rfl⟩
    · by_cases h3 : 64 < k
      · clear H
        go_enter Try.func40, Try.ntmps40
        go_wp2
        go_ret
        exact ⟨rfl, rfl⟩
      · have h4 : 128 < v := by have := H.out; omega
        clear H
        go_enter Try.func40, Try.ntmps40
        go_wp2
        go_ret
        exact ⟨rfl, rfl⟩
end Go.Proofs.Ytikpphbgjbfddaa
