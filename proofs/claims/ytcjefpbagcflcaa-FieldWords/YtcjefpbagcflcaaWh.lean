/- The walks of bytes in words: byteOf, emptyBehind, and the reference's Same and Words. -/
import Derived.Test.YtcjefpbagcflcaaWg
import Derived.Test.YtcjefpbagcflcaaMf
namespace Go.Proofs.Ytcjefpbagcflcaa
open Go.RowKit

theorem u8_byte (x r : Nat) : (x : Int) / 2 ^ (r % 8 * 8) % 256 = ((x / 2 ^ (r % 8 * 8) % 256 : Nat) : Int) := by
  have h3 : ((x : Int) / 2 ^ (r % 8 * 8)) = ((x / 2 ^ (r % 8 * 8) : Nat) : Int) := by simp
  rw [h3]; omega

set_option maxHeartbeats 400000 in
theorem byteOf_any (ao : Option Addr) (n cap i : Nat) (v : Nat → Nat) (w : World) (hn : n ≤ 1000000) (hs : Sl .u64 w ao n (fun j => (v j : Int))) (hi : i < 8 * n) :
    Calls Try.prog 32 #[.slice ao n cap, .int .i64 (i : Int)] w fun e w' => e = .returned (.int .u8 (byteAt v i : Int)) ∧ w' = w := by
  obtain ⟨b, off, hao, hc⟩ := hs (i / 8) (by omega)
  subst hao
  simp only at hc
  have HB : Hid ((v (i / 8) : Int) / 2 ^ (i % 8 * 8) % 256 = (byteAt v i : Int)) := u8_byte _ _
  clear hs
  generalize v (i / 8) = x at *
  go_enter Try.func32, Try.ntmps32
  go_wp2
  go_ret
  exact ⟨ret_int HB.out, rfl⟩

set_option maxHeartbeats 400000 in
theorem empty_any (ao : Option Addr) (N cap n : Nat) (v : Nat → Nat) (r : Bool) (w : World) (hN : N ≤ 1000000) (hn : n ≤ 9223372036854775807) (hs : Sl .u64 w ao N (fun j => (v j : Int))) (hr : r = true ↔ Empty v n N) :
    Calls Try.prog 31 #[.slice ao N cap, .int .i64 (n : Int)] w fun e w' => e = .returned (.bool r) ∧ w' = w := by
  have HS := hide hs
  have HR := hide hr
  clear hs hr
  go_enter Try.func31, Try.ntmps31
  go_wp2
  go_loop [5] (fun i => ∃ k : Nat, n ≤ k ∧ k ≤ 9223372036854775807 ∧ i = .int .i64 k ∧ ∀ j, n ≤ j → j < k → j < 8 * N → byteAt v j = 0) (fun i => 8 * N - (intOf i).toNat)
  case atStart => exact ⟨n, Nat.le_refl _, hn, rfl, fun j h1 h2 => by omega⟩
  case round =>
    obtain ⟨k, hk, hk2, rfl, hall⟩ := hrel
    have HALL := hide hall
    clear hall
    by_cases hlt : k < 8 * N
    · by_cases hz : byteAt v k = 0
      · have HALL' : Hid (∀ j, n ≤ j → j < k + 1 → j < 8 * N → byteAt v j = 0) := fun j h1 h2 h3 => by
          by_cases e : j < k
          · exact HALL.out j h1 e h3
          · rw [show j = k by omega]; exact hz
        have HB : Hid (byteAt v k = 0) := hz
        clear hz
        go_wp2_with fail
        refine (byteOf_any _ _ _ _ _ _ hN HS.out hlt).mono ?_
        rintro e w' ⟨rfl, rfl⟩
        rw [HB.out]
        go_wp2
        go_round
        case rel => exact ⟨k + 1, by omega, by omega, by go_num, HALL'.out⟩
        case measure => simp [intOf]; omega
      · have hrf : Hid (r = false) := by
          cases r
          · rfl
          · exact absurd (HR.out.1 rfl k hk hlt) hz
        have hz' : ((byteAt v k : Int) != 0) = true := by rw [bne_iff_ne]; omega
        go_wp2_with fail
        refine (byteOf_any _ _ _ _ _ _ hN HS.out hlt).mono ?_
        rintro e w' ⟨rfl, rfl⟩
        go_wp2
        go_ret
        exact ⟨ret_bool hrf.out.symm, rfl⟩
    · have hrt : Hid (r = true) := HR.out.2 fun i h1 h2 => HALL.out i h1 (by omega) h2
      go_wp2
      go_ret
      exact ⟨ret_bool hrt.out.symm, rfl⟩

set_option maxHeartbeats 800000 in
theorem same_any (a1 a2 : Option Addr) (n1 n2 c1 c2 : Nat) (x y : Nat → Nat) (r : Bool) (w : World) (h1 : n1 ≤ 1000000) (h2 : n2 ≤ 1000000) (s1 : Sl .u64 w a1 n1 (fun j => (x j : Int))) (s2 : Sl .u64 w a2 n2 (fun j => (y j : Int)))
    (hr : r = true ↔ n1 = n2 ∧ ∀ j, j < n1 → x j = y j) :
    Calls Try.prog 27 #[.slice a1 n1 c1, .slice a2 n2 c2] w fun e w' => e = .returned (.bool r) ∧ ∃ m, w' = w.drewN m := by
  have S1 := hide s1
  have S2 := hide s2
  have HR := hide hr
  clear s1 s2 hr
  by_cases he : n1 = n2
  · subst he
    have hnn : ((n1 : Int) != (n1 : Int)) = false := by simp
    go_enter Try.func27, Try.ntmps27
    go_wp2
    go_loopw [5] (fun i wr => ∃ k : Nat, k ≤ n1 ∧ i = .int .i64 k ∧ (∀ j, j < k → x j = y j) ∧ ∃ m, wr = w.drewN m) (fun i _ => n1 - (intOf i).toNat)
    case atStart => exact ⟨0, Nat.zero_le _, rfl, fun j hj => absurd hj (by omega), 0, rfl⟩
    case round =>
      obtain ⟨k, hk, rfl, hall, m, rfl⟩ := hrel
      have HALL := hide hall
      clear hall
      by_cases hlt : k < n1
      · obtain ⟨b, off, hao, hc⟩ := S1.out k hlt
        obtain ⟨b2, off2, hao2, hd⟩ := S2.out k hlt
        subst hao hao2
        simp only at hc hd
        by_cases hxy : x k = y k
        · have HALL' : Hid (∀ j, j < k + 1 → x j = y j) := fun j h2 => by
            by_cases e : j < k
            · exact HALL.out j e
            · rw [show j = k by omega]; exact hxy
          rw [← hxy] at hd
          clear hxy
          generalize x k = X at *
          have hX : ((X : Int) != (X : Int)) = false := by simp
          go_wp2
          go_quiet (fail)
          go_wp2
          go_roundw
          case rel => exact ⟨k + 1, by omega, by go_num, HALL'.out, _, rfl⟩
          case measure => simp [intOf]; omega
        · have hrf : Hid (r = false) := by
            cases r
            · rfl
            · exact absurd ((HR.out.1 rfl).2 k hlt) hxy
          have hX : ((x k : Int) != (y k : Int)) = true := by rw [bne_iff_ne]; omega
          clear hxy
          generalize x k = X at *
          generalize y k = Y at *
          go_wp2
          go_quiet (fail)
          go_wp2
          go_ret
          exact ⟨ret_bool hrf.out.symm, _, drewN_drewN _ _ _⟩
      · have hrt : Hid (r = true) := HR.out.2 ⟨trivial, fun j hj => HALL.out j (by omega)⟩
        go_wp2
        go_ret
        exact ⟨ret_bool hrt.out.symm, _, rfl⟩
  · have hrf : Hid (r = false) := by
      cases r
      · rfl
      · exact absurd (HR.out.1 rfl).1 he
    have hnn : ((n1 : Int) != (n2 : Int)) = true := by rw [bne_iff_ne]; omega
    clear he
    go_enter Try.func27, Try.ntmps27
    go_wp2
    go_ret
    exact ⟨ret_bool hrf.out.symm, 0, rfl⟩
end Go.Proofs.Ytcjefpbagcflcaa
