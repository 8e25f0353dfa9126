/- Parts of the proof: Jn. -/
import Derived.Test.YtikpphbgjbfddaaJ6
import Derived.Test.YtikpphbgjbfddaaJ24
namespace Go.Proofs.Ytikpphbgjbfddaa
set_option maxRecDepth 20000
open Go.RowKit
/-- May there be a record of such lengths at such an address of pages of 32 words? -/
def mayR (a key v : Int) : Bool := decide (1 ≤ key ∧ key ≤ 64 ∧ 0 ≤ v ∧ v ≤ 128 ∧ a < 281474976710656 ∧ (sizeR key.toNat v.toNat : Int) + a % 32 ≤ 32)
set_option maxHeartbeats 400000 in
theorem rmay_no (a key v : Int) (w : World) (h : key < 1 ∨ 64 < key ∨ v < 0 ∨ 128 < v) :
    Calls Try.prog 22 #[.int .i64 32, .int .u64 a, .int .i64 key, .int .i64 v] w fun e w' => e = .returned (.bool false) ∧ w' = w := by
  by_cases h1 : key < 0 ∨ v < 0 ∨ 64 < key ∨ 128 < v
  · have HS := hide (rsize_no key v w h1)
    clear h h1
    by_cases hk : key < 1
    · go_enter Try.func22, Try.ntmps22
      go_wp2_with fail
      refine HS.out.mono ?_
      rintro e x ⟨rfl, rfl⟩
      go_wp2
      go_ret
      exact ⟨rfl, rfl⟩
    · go_enter Try.func22, Try.ntmps22
      go_wp2_with fail
      refine HS.out.mono ?_
      rintro e x ⟨rfl, rfl⟩
      go_wp2
      go_ret
      exact ⟨rfl, rfl⟩
  · obtain ⟨k0, rfl⟩ : ∃ k0 : Nat, key = (k0 : Int) := ⟨key.toNat, by omega⟩
    obtain ⟨v0, rfl⟩ : ∃ v0 : Nat, v = (v0 : Int) := ⟨v.toNat, by omega⟩
    have HS := hide (rsize_yes k0 v0 w (by omega) (by omega))
    have hk : (k0 : Int) < 1 := by omega
    clear h h1
    generalize sizeR k0 v0 = n at *
    go_enter Try.func22, Try.ntmps22
    go_wp2_with fail
    refine HS.out.mono ?_
    rintro e x ⟨rfl, rfl⟩
    go_wp2
    go_ret
    exact ⟨rfl, rfl⟩
set_option maxHeartbeats 400000 in
theorem rmay_far (a : Int) (k v : Nat) (w : World) (hk : 1 ≤ k ∧ k ≤ 64) (hv : v ≤ 128) (ha : 281474976710656 ≤ a) :
    Calls Try.prog 22 #[.int .i64 32, .int .u64 a, .int .i64 (k : Int), .int .i64 (v : Int)] w fun e w' => e = .returned (.bool false) ∧ w' = w := by
  have HS := hide (rsize_yes k v w (by omega) (by omega))
  have hn : 0 < (sizeR k v : Int) := by unfold sizeR; omega
  have hk1 : 1 ≤ (k : Int) := by omega
  have ha' : ¬ a < 281474976710656 := by omega
  obtain ⟨n, hN⟩ : ∃ n : Int, (sizeR k v : Int) = n := ⟨_, rfl⟩
  rw [hN] at HS hn
  clear hN hk hv
  generalize (k : Int) = K at *
  go_enter Try.func22, Try.ntmps22
  go_wp2_with fail
  refine HS.out.mono ?_
  rintro e x ⟨rfl, rfl⟩
  go_wp2
  go_ret
  exact ⟨rfl, rfl⟩
set_option maxHeartbeats 400000 in
theorem rmay_near (a : Int) (k v : Nat) (w : World) (hk : 1 ≤ k ∧ k ≤ 64) (hv : v ≤ 128) (ha : 0 ≤ a ∧ a < 281474976710656) :
    Calls Try.prog 22 #[.int .i64 32, .int .u64 a, .int .i64 (k : Int), .int .i64 (v : Int)] w fun e w' => e = .returned (.bool (decide ((sizeR k v : Int) + a % 32 ≤ 32))) ∧ w' = w := by
  have HS := hide (rsize_yes k v w (by omega) (by omega))
  have hn : 0 < (sizeR k v : Int) := by unfold sizeR; omega
  have hk1 : 1 ≤ (k : Int) := by omega
  have ha' : a < 281474976710656 := ha.2
  obtain ⟨n, hN⟩ : ∃ n : Int, (sizeR k v : Int) = n := ⟨_, rfl⟩
  rw [hN] at HS hn ⊢
  obtain ⟨r, hR⟩ : ∃ r : Int, a % 32 = r := ⟨_, rfl⟩
  have h1 : a.tmod 32 = r := by rw [← hR]; exact Int.tmod_eq_emod_of_nonneg ha.1
  have h2 : IntKind.u64.wrap 32 = 32 := by decide
  have h3 : 0 ≤ r ∧ r < 32 := by omega
  have h4 : wrap64 r = r := IntWalk.wrap64_in _ (by omega)
  have h5 : IntKind.i64.wrap r = r := IntWalk.i64_in _ (by omega)
  have h6 : IntKind.u64.wrap r = r := IntWalk.u64_in _ (by omega)
  obtain ⟨b, HB⟩ : ∃ b, Hid (decide (n + r ≤ 32) = b) := ⟨_, rfl⟩
  rw [hR, HB.out]
  have hb : decide (n ≤ 32 - r) = b := by rw [← HB.out]; exact decide_eq_decide.2 (by omega)
  clear hN hk hv
  generalize (k : Int) = K at *
  go_enter Try.func22, Try.ntmps22
  go_wp2_with fail
  refine HS.out.mono ?_
  rintro e x ⟨rfl, rfl⟩
  go_wp2
  go_ret
  exact ⟨by first | rfl | (simp [hb]; done), rfl⟩
theorem rmay_any (a key v : Int) (w : World) (ha : 0 ≤ a) :
    Calls Try.prog 22 #[.int .i64 32, .int .u64 a, .int .i64 key, .int .i64 v] w fun e w' => e = .returned (.bool (mayR a key v)) ∧ w' = w := by
  unfold mayR
  by_cases h : key < 1 ∨ 64 < key ∨ v < 0 ∨ 128 < v
  · rw [decide_eq_false (by omega)]
    exact rmay_no a key v w h
  · obtain ⟨k0, rfl⟩ : ∃ k0 : Nat, key = (k0 : Int) := ⟨key.toNat, by omega⟩
    obtain ⟨v0, rfl⟩ : ∃ v0 : Nat, v = (v0 : Int) := ⟨v.toNat, by omega⟩
    by_cases h2 : 281474976710656 ≤ a
    · rw [decide_eq_false (by omega)]
      exact rmay_far a k0 v0 w (by omega) (by omega) h2
    · refine (rmay_near a k0 v0 w (by omega) (by omega) (by omega)).mono ?_
      rintro e w' ⟨rfl, rfl⟩
      refine ⟨ret_bool (decide_eq_decide.2 ?_), rfl⟩
      simp only [Int.toNat_natCast]
      omega
end Go.Proofs.Ytikpphbgjbfddaa
