/- The walks of values side by side: Join, Spread, and the reference's. -/
import Derived.Test.YtcjefpbagcflcaaWd
import Derived.Test.YtcjefpbagcflcaaMe
namespace Go.Proofs.Ytcjefpbagcflcaa
open Go.RowKit

/-- A slice that is read: its first n numbers are z 0, z 1, .. -/
def Sl (k : IntKind) (w : World) (ao : Option Addr) (n : Nat) (z : Nat → Int) : Prop :=
  ∀ j, j < n → ∃ b off, ao = some ⟨b, off, none⟩ ∧ w.cell? ⟨b, off + j, none⟩ = some (.int k (z j))
theorem Sl.below {k : IntKind} {w w' : World} {ao : Option Addr} {n : Nat} {z : Nat → Int} (h : Sl k w ao n z) (hb : Below w.heap.size w w') : Sl k w' ao n z := by
  intro j hj
  obtain ⟨b, off, h1, h2⟩ := h j hj
  exact ⟨b, off, h1, by rw [hb.cell (p := ⟨b, off + j, none⟩) (World.block_lt_of_cell? w _ h2)]; exact h2⟩
theorem Sl.drew {k : IntKind} {w : World} {ao : Option Addr} {n : Nat} {z : Nat → Int} (h : Sl k w ao n z) (m : Nat) : Sl k (w.drewN m) ao n z := h
theorem Sl.mono {k : IntKind} {w : World} {ao : Option Addr} {n m : Nat} {z : Nat → Int} (h : Sl k w ao n z) (hm : m ≤ n) : Sl k w ao m z := fun j hj => h j (by omega)

set_option maxHeartbeats 400000 in
theorem side_any (ao : Option Addr) (n cap : Nat) (z : Nat → Int) (r : Bool) (w : World) (hn : n ≤ 1000000) (hz : Sl .i64 w ao n z) (hr : r = true ↔ Fits z n) :
    Calls Try.prog 29 #[.slice ao n cap] w fun e w' => e = .returned (.bool r) ∧ w' = w := by
  have HR := hide hr
  have HZ := hide hz
  clear hr hz
  go_enter Try.func29, Try.ntmps29
  go_wp2
  go_loop [3, 8] (fun a i => ∃ k : Nat, k ≤ n ∧ i = .int .i64 k ∧ a = .int .i64 (atK (wid z) k : Int) ∧ Fits z k) (fun _ i => n - (intOf i).toNat)
  case atStart => exact ⟨0, Nat.zero_le _, rfl, rfl, fits_zero z⟩
  case round =>
    obtain ⟨k, hk, rfl, rfl, hf⟩ := hrel
    have hat := fits_at hf
    have hs := hide (fits_succ z k hf)
    have HF := hide hf
    clear hf
    by_cases hlt : k < n
    · obtain ⟨b, off, hao, hc⟩ := HZ.out k hlt
      subst hao
      have HA := hide (at_succ z k)
      cases hrb : rightB (atK (wid z) k : Int) (z k)
      · have hnf : ¬ Fits z n := fun h => by
          have := hs.out.1 (fits_mono h (by omega))
          rw [hrb] at this; cases this
        have hrf : Hid (r = false) := by
          cases r
          · rfl
          · exact absurd (HR.out.1 rfl) hnf
        clear hnf
        generalize atK (wid z) k = A at *
        generalize z k = Z at *
        go_wp2_with (go_at_call 11; refine (right_any _ _ _).mono ?_; rintro e w' ⟨rfl, rfl⟩)
        go_ret
        exact ⟨ret_bool hrf.out.symm, rfl⟩
      · have hf' := hs.out.2 hrb
        have h1 := (rightB_iff _ _).1 hrb
        obtain ⟨h1a, h1b, h1c, h1d⟩ := h1
        have HF' := hide hf'
        have HA' := hide (at_succ z k h1c)
        clear hf' hs HA
        generalize hAA : atK (wid z) k = A at *
        generalize hZZ : z k = Z at *
        clear hAA hZZ
        go_wp2_with (go_at_call 11; refine (right_any _ _ _).mono ?_; rintro e w' ⟨rfl, rfl⟩)
        go_round
        case rel => exact ⟨k + 1, by omega, by go_num, by rw [HA'.out], HF'.out⟩
        case measure => simp [intOf]; omega
    · have e : k = n := by omega
      subst e
      go_wp2
      go_ret
      exact ⟨ret_bool (HR.out.2 HF.out).symm, rfl⟩

set_option maxHeartbeats 800000 in
theorem fit_any (ao : Option Addr) (n cap : Nat) (z : Nat → Int) (r : Bool) (w : World) (hn : n ≤ 1000000) (hz : Sl .i64 w ao n z) (hr : r = true ↔ Fits z n) :
    Calls Try.prog 24 #[.slice ao n cap] w fun e w' => e = .returned (.bool r) ∧ w' = w := by
  have HR := hide hr
  have HZ := hide hz
  clear hr hz
  go_enter Try.func24, Try.ntmps24
  go_wp2
  go_loop [3, 4] (fun a i => ∃ k : Nat, k ≤ n ∧ i = .int .i64 k ∧ a = .int .i64 (atK (wid z) k : Int) ∧ Fits z k) (fun _ i => n - (intOf i).toNat)
  case atStart => exact ⟨0, Nat.zero_le _, rfl, rfl, fits_zero z⟩
  case round =>
    obtain ⟨k, hk, rfl, rfl, hf⟩ := hrel
    have hat := fits_at hf
    have hs := hide (fits_succ' z k hf)
    have HF := hide hf
    clear hf
    by_cases hlt : k < n
    · obtain ⟨b, off, hao, hc⟩ := HZ.out k hlt
      subst hao
      have hnf : Hid (¬ (1 ≤ z k ∧ z k ≤ 64 ∧ (atK (wid z) k : Int) + z k ≤ 64) → r = false) := fun h => by
        cases r
        · rfl
        · exact absurd (hs.out.1 (fits_mono (HR.out.1 rfl) (by omega))) h
      have HA := hide (at_succ z k)
      have HS := hide hs.out.2
      clear hs
      generalize hAA : atK (wid z) k = A at *
      generalize hZZ : z k = Z at *
      clear hAA hZZ
      by_cases h1 : Z < 1
      · go_wp2
        go_ret
        exact ⟨ret_bool (hnf.out (by omega)).symm, rfl⟩
      · by_cases h2 : 64 < Z
        · go_wp2
          go_ret
          exact ⟨ret_bool (hnf.out (by omega)).symm, rfl⟩
        · by_cases h3 : 64 < (A : Int) + Z
          · go_wp2
            go_ret
            exact ⟨ret_bool (hnf.out (by omega)).symm, rfl⟩
          · go_wp2
            go_round
            case rel => exact ⟨k + 1, by omega, by go_num, by rw [← HA.out (by omega)], HS.out (by omega)⟩
            case measure => simp [intOf]; omega
    · have e : k = n := by omega
      subst e
      go_wp2
      go_ret
      exact ⟨ret_bool (HR.out.2 HF.out).symm, rfl⟩
end Go.Proofs.Ytcjefpbagcflcaa
