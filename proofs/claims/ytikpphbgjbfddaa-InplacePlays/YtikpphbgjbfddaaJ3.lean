/- Parts of the proof: Wj. -/
import Derived.Test.YtikpphbgjbfddaaJ1
import Derived.Test.YtikpphbgjbfddaaJ2
namespace Go.Proofs.Ytikpphbgjbfddaa
set_option maxRecDepth 20000
open Go.RowKit

set_option maxHeartbeats 400000 in
theorem side_any (ao : Option Addr) (n cap : Nat) (z : Nat → Int) (r : Bool) (w : World) (hn : n ≤ 1000000) (hz : Sl .i64 w ao n z) (hr : r = true ↔ Fits z n) :
    Calls Try.prog 102 #[.slice ao n cap] w fun e w' => e = .returned (.bool r) ∧ w' = w := by
  have HR := hide hr
  have HZ := hide hz
  clear hr hz
  go_enter Try.func102, Try.ntmps102
  go_wp2
  go_loop [3, 8] (fun a i => ∃ k : Nat, k ≤ n ∧ i = .int .i64 k ∧ a = .int .i64 (atK (wid z) k : Int) ∧ Fits z k) (fun _ i => n - (intOf i).toNat)
  case atStart => exact ⟨0, Nat.zero_le _, rfl, rfl, fits_zero z⟩
  case round =>
    obtain ⟨k, hk, rfl, rfl, hf⟩ := hrel
    have hat := fits_at hf
    have hs := hide (fits_succ z k hf)
    have HF := hide hf
    clear hf
    by_cases hlt : k < n
    · obtain ⟨b, off, hao, hc⟩ := HZ.out k hlt
      subst hao
      have HA := hide (at_succ z k)
      cases hrb : rightB (atK (wid z) k : Int) (z k)
      · have hnf : ¬ Fits z n := fun h => by
          have := hs.out.1 (fits_mono h (by omega))
          rw [hrb] at this; cases this
        have hrf : Hid (r = false) := by
          cases r
          · rfl
          · exact absurd (HR.out.1 rfl) hnf
        clear hnf
        generalize atK (wid z) k = A at *
        generalize z k = Z at *
        go_wp2_with (go_at_call 83; refine (right_any _ _ _).mono ?_; rintro e w' ⟨rfl, rfl⟩)
        go_ret
        exact ⟨ret_bool hrf.out.symm, rfl⟩
      · have hf' := hs.out.2 hrb
        have h1 := (rightB_iff _ _).1 hrb
        obtain ⟨h1a, h1b, h1c, h1d⟩ := h1
        have HF' := hide hf'
        have HA' := hide (at_succ z k h1c)
        clear hf' hs HA
        generalize hAA : atK (wid z) k = A at *
        generalize hZZ : z k = Z at *
        clear hAA hZZ
        go_wp2_with (go_at_call 83; refine (right_any _ _ _).mono ?_; rintro e w' ⟨rfl, rfl⟩)
        go_round
        case rel => exact ⟨k + 1, by omega, by go_num, by rw [HA'.out], HF'.out⟩
        case measure => simp [intOf]; omega
    · have e : k = n := by omega
      subst e
      go_wp2
      go_ret
      exact ⟨ret_bool (HR.out.2 HF.out).symm, rfl⟩

/-- The answer of Join, where the widths fit and there are as many of both. -/
def joinV (v : Nat → Nat) (z : Nat → Int) (n : Nat) (r : Bool) : Nat := if r then sumK v (wid z) n else 0
def joinE (r : Bool) : Int := if r then 0 else 13

set_option maxHeartbeats 400000 in
theorem join_arg (va wa : Option Addr) (nv nw cv cw : Nat) (z : Nat → Int) (r : Bool) (w : World) (hn : nw ≤ 1000000) (hz : Sl .i64 w wa nw z) (hr : r = true ↔ Fits z nw) (h : r = false ∨ nv ≠ nw) :
    Calls Try.prog 97 #[.slice va nv cv, .slice wa nw cw] w fun e w' => e = .returned (.tuple #[.int .u64 0, .int .i64 1]) ∧ w' = w := by
  have HR := hide hr
  have HZ := hide hz
  clear hr hz
  cases r
  · go_enter Try.func97, Try.ntmps97
    go_wp2_with (go_at_call 102; refine (side_any _ _ _ _ _ _ hn HZ.out HR.out).mono ?_; rintro e w' ⟨rfl, rfl⟩)
    go_ret2
    exact ⟨rfl, rfl⟩
  · have hne : ((nv : Int) != (nw : Int)) = true := by
      rcases h with h | h
      · cases h
      · rw [bne_iff_ne]; omega
    clear h
    go_enter Try.func97, Try.ntmps97
    go_wp2_with (go_at_call 102; refine (side_any _ _ _ _ _ _ hn HZ.out HR.out).mono ?_; rintro e w' ⟨rfl, rfl⟩)
    go_ret2
    exact ⟨rfl, rfl⟩

set_option maxHeartbeats 1000000 in
theorem join_run (va wa : Option Addr) (n cv cw : Nat) (v : Nat → Nat) (z : Nat → Int) (r : Bool) (w : World) (hn : n ≤ 1000000) (hv : Sl .u64 w va n (fun j => (v j : Int))) (hz : Sl .i64 w wa n z)
    (hf : Fits z n) (hr : r = true ↔ ∀ k, k < n → v k ≤ mostN (z k)) :
    Calls Try.prog 97 #[.slice va n cv, .slice wa n cw] w fun e w' => e = .returned (.tuple #[.int .u64 (joinV v z n r : Int), .int .i64 (joinE r)]) ∧ ∃ m, w' = w.drewN m := by
  have HR := hide hr
  have HZ := hide hz
  have HV := hide hv
  have HF := hide hf
  clear hr hz hv hf
  go_enter Try.func97, Try.ntmps97
  go_wp2_with (go_at_call 102; refine (side_any _ _ _ _ true _ hn HZ.out (by simpa using HF.out)).mono ?_; rintro e w' ⟨rfl, rfl⟩)
  go_loopw [6, 7, 24] (fun x a i wr => ∃ k : Nat, k ≤ n ∧ i = .int .i64 k ∧ a = .int .i64 (atK (wid z) k : Int) ∧ x = .int .u64 (sumK v (wid z) k : Int) ∧ (∀ j, j < k → v j ≤ mostN (z j)) ∧ ∃ m, wr = w'.drewN m) (fun _ _ i _ => n - (intOf i).toNat)
  case atStart => exact ⟨0, Nat.zero_le _, rfl, rfl, rfl, fun j hj => absurd hj (by omega), 0, rfl⟩
  case round =>
    obtain ⟨k, hk, rfl, rfl, rfl, hall, m, rfl⟩ := hrel
    have HALL := hide hall
    have hlt2 : ∀ j, j < k → v j < 2 ^ wid z j := fun j hj => (lt_of_most HF.out (by omega)).1 (hall j hj)
    have hsum : sumK v (wid z) k < 18446744073709551616 := Nat.lt_of_lt_of_le (sumK_lt v (wid z) k hlt2) (pow_le64 (fits_at (fits_mono HF.out hk)))
    have HLT2 := hide hlt2
    clear hall hlt2
    by_cases hlt : k < n
    · obtain ⟨b, off, hao, hc⟩ := HZ.out k hlt
      obtain ⟨b2, off2, hao2, hc2⟩ := HV.out k hlt
      subst hao hao2
      have hrb := (fits_succ z k (fits_mono HF.out (by omega))).1 (fits_mono HF.out (by omega))
      obtain ⟨hA1, hA2, hA3, hA4⟩ := (rightB_iff _ _).1 hrb
      have HA := hide (at_succ z k hA3)
      have HP := hide (put_sum v (wid z) k HLT2.out)
      have HW : Hid (wid z k = (z k).toNat) := rfl
      by_cases hvk : v k ≤ mostN (z k)
      · have HALL' : Hid (∀ j, j < k + 1 → v j ≤ mostN (z j)) := fun j hj => by
          by_cases e : j < k
          · exact HALL.out j e
          · rw [show j = k by omega]; exact hvk
        go_wp2_with (go_at_call 103; refine (put_yes _ _ _ _ _ hsum hrb hvk).mono ?_; rintro e w' ⟨rfl, m2, rfl⟩)
        go_roundw
        case rel => exact ⟨k + 1, by omega, by go_num, by rw [← HA.out], by rw [← HP.out]; rfl, HALL'.out, _, rfl⟩
        case measure => simp [intOf]; omega
      · have hrf : Hid (r = false) := by
          cases r
          · rfl
          · exact absurd (HR.out.1 rfl k hlt) hvk
        have hvk' : mostN (z k) < v k := by omega
        go_wp2_with (go_at_call 103; refine (put_over _ _ _ _ _ hrb hvk').mono ?_; rintro e w' ⟨rfl, rfl⟩)
        go_ret2
        exact ⟨by rw [hrf.out]; rfl, _, rfl⟩
    · have e : k = n := by omega
      subst e
      go_wp2
      go_ret2
      exact ⟨by rw [HR.out.2 HALL.out]; rfl, _, rfl⟩
end Go.Proofs.Ytikpphbgjbfddaa
