/- Parts of the proof: Wh. -/
import Derived.Test.YtikpphbgjbfddaaJ1
namespace Go.Proofs.Ytikpphbgjbfddaa
set_option maxRecDepth 20000
open Go.RowKit

set_option maxHeartbeats 800000 in
theorem same_any (a1 a2 : Option Addr) (n1 n2 c1 c2 : Nat) (x y : Nat → Nat) (r : Bool) (w : World) (h1 : n1 ≤ 1000000) (h2 : n2 ≤ 1000000) (s1 : Sl .u64 w a1 n1 (fun j => (x j : Int))) (s2 : Sl .u64 w a2 n2 (fun j => (y j : Int)))
    (hr : r = true ↔ n1 = n2 ∧ ∀ j, j < n1 → x j = y j) :
    Calls Try.prog 10 #[.slice a1 n1 c1, .slice a2 n2 c2] w fun e w' => e = .returned (.bool r) ∧ ∃ m, w' = w.drewN m := by
  have S1 := hide s1
  have S2 := hide s2
  have HR := hide hr
  clear s1 s2 hr
  by_cases he : n1 = n2
  · subst he
    have hnn : ((n1 : Int) != (n1 : Int)) = false := by simp
    go_enter Try.func10, Try.ntmps10
    go_wp2
    go_loopw [5] (fun i wr => ∃ k : Nat, k ≤ n1 ∧ i = .int .i64 k ∧ (∀ j, j < k → x j = y j) ∧ ∃ m, wr = w.drewN m) (fun i _ => n1 - (intOf i).toNat)
    case atStart => exact ⟨0, Nat.zero_le _, rfl, fun j hj => absurd hj (by omega), 0, rfl⟩
    case round =>
      obtain ⟨k, hk, rfl, hall, m, rfl⟩ := hrel
      have HALL := hide hall
      clear hall
      by_cases hlt : k < n1
      · obtain ⟨b, off, hao, hc⟩ := S1.out k hlt
        obtain ⟨b2, off2, hao2, hd⟩ := S2.out k hlt
        subst hao hao2
        simp only at hc hd
        by_cases hxy : x k = y k
        · have HALL' : Hid (∀ j, j < k + 1 → x j = y j) := fun j h2 => by
            by_cases e : j < k
            · exact HALL.out j e
            · rw [show j = k by omega]; exact hxy
          rw [← hxy] at hd
          clear hxy
          generalize x k = X at *
          have hX : ((X : Int) != (X : Int)) = false := by simp
          go_wp2
          go_quiet (fail)
          go_wp2
          go_roundw
          case rel => exact ⟨k + 1, by omega, by go_num, HALL'.out, _, rfl⟩
          case measure => simp [intOf]; omega
        · have hrf : Hid (r = false) := by
            cases r
            · rfl
            · exact absurd ((HR.out.1 rfl).2 k hlt) hxy
          have hX : ((x k : Int) != (y k : Int)) = true := by rw [bne_iff_ne]; omega
          clear hxy
          generalize x k = X at *
          generalize y k = Y at *
          go_wp2
          go_quiet (fail)
          go_wp2
          go_ret
          exact ⟨ret_bool hrf.out.symm, _, drewN_drewN _ _ _⟩
      · have hrt : Hid (r = true) := HR.out.2 ⟨trivial, fun j hj => HALL.out j (by omega)⟩
        go_wp2
        go_ret
        exact ⟨ret_bool hrt.out.symm, _, rfl⟩
  · have hrf : Hid (r = false) := by
      cases r
      · rfl
      · exact absurd (HR.out.1 rfl).1 he
    have hnn : ((n1 : Int) != (n2 : Int)) = true := by rw [bne_iff_ne]; omega
    clear he
    go_enter Try.func10, Try.ntmps10
    go_wp2
    go_ret
    exact ⟨ret_bool hrf.out.symm, 0, rfl⟩
end Go.Proofs.Ytikpphbgjbfddaa
