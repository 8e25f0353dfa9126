/- The walks of the reference's Word, Get and Put. -/
import Derived.Test.YtcjefpbagcflcaaWb
namespace Go.Proofs.Ytcjefpbagcflcaa
open Go.RowKit

theorem u64_small (n : Nat) (h : n < 18446744073709551616) : IntKind.u64.wrap (n : Int) = (n : Int) := by
  rw [IntKind.wrap_u64]; omega

set_option maxHeartbeats 800000 in
theorem word_any (zs : List Nat) (b off len cap : Nat) (w : World) (hl : zs.length = len) (h64 : len ≤ 64) (hz : isBits zs)
    (hc : ∀ j, j < len → w.cell? ⟨b, off + j, none⟩ = some (.int .i64 (zs[j]?.getD 0 : Nat))) :
    Calls Try.prog 20 #[.slice (some ⟨b, off, none⟩) len cap] w fun e w' => e = .returned (.int .u64 (wordN zs : Int)) ∧ w' = w := by
  have HL : Hid (zs.length = len) := hl
  clear hl
  go_enter Try.func20, Try.ntmps20
  go_wp2
  go_loop [3, 4] (fun m i => ∃ k : Nat, k ≤ len ∧ i = .int .i64 ((k : Int) - 1) ∧ m = .int .u64 (wordN (zs.drop k) : Int)) (fun _ i => (intOf i + 1).toNat)
  case atStart => exact ⟨len, Nat.le_refl _, rfl, by rw [List.drop_of_length_le (by rw [HL.out]; omega)]; rfl⟩
  case round =>
    obtain ⟨k, hk, rfl, rfl⟩ := hrel
    by_cases h0 : 0 < k
    · obtain ⟨q, hq⟩ : ∃ q, k = q + 1 := ⟨k - 1, by omega⟩
      subst hq
      have hbd : 2 * wordN (zs.drop (q + 1)) + zs[q]?.getD 0 < 18446744073709551616 := by
        have := word_step_bound zs (q + 1) hz (by omega) (by rw [HL.out]; exact hk) (by rw [HL.out]; exact h64)
        simpa using this
      have HE : Hid (wordN (zs.drop q) = 2 * wordN (zs.drop (q + 1)) + zs[q]?.getD 0) := by
        have := drop_pred zs (q + 1) (by omega) (by rw [HL.out]; exact hk)
        simpa [Hid] using this
      have hcq := hc q (by omega)
      generalize zs[q]?.getD 0 = z at *
      generalize wordN (zs.drop (q + 1)) = m at *
      go_wp2
      go_round
      case rel => exact ⟨q, by omega, rfl, by rw [HE.out]; go_num⟩
      case measure => simp [intOf]
    · go_wp2
      go_ret
      have e : k = 0 := by omega
      subst e
      exact ⟨rfl, rfl⟩

theorem own_cellsN {w : World} {base g cap n : Nat} {e : TypeId} {zs : List Nat} (h : w.ownsRow base e 1 (.slice (some ⟨g, 0, none⟩) n cap) n (intsN zs)) (hl : zs.length = n) (j : Nat) (hj : j < n) :
    w.cell? ⟨g, j, none⟩ = some (.int .i64 (zs[j]?.getD 0 : Nat)) := by
  rw [h.cellAt j (by omega), intsN_get _ _ (by omega)]
theorem own_cap {w : World} {base g cap n : Nat} {e : TypeId} {xs : List Value} (h : w.ownsRow base e 1 (.slice (some ⟨g, 0, none⟩) n cap) n xs) : n ≤ cap ∧ base ≤ g ∧ g < w.heap.size ∧ cap ≤ 9223372036854775807 := by
  rcases h.2 with ⟨h', _⟩ | ⟨g', cap', cur, h', hb, hg, hnc, hm, _⟩
  · simp at h'
  · simp only [Value.slice.injEq, Option.some.injEq, Addr.mk.injEq, and_true, true_and] at h'
    obtain ⟨rfl, rfl⟩ := h'
    exact ⟨hnc, hb, (Array.getElem?_eq_some_iff.1 hg).1, by unfold maxLen at hm; exact hm⟩

/-- What is owned stays owned in every later world that keeps what lay there. -/
theorem own_below {w w' : World} {base : Nat} {e : TypeId} {size : Nat} {v : Value} {n : Nat} {xs : List Value} (h : w.ownsRow base e size v n xs) (hb : Below w.heap.size w w') : w'.ownsRow base e size v n xs := by
  obtain ⟨h1, h2⟩ := h
  refine ⟨h1, ?_⟩
  rcases h2 with h2 | ⟨g, cap, cur, hv, hg, hh, r⟩
  · exact .inl h2
  · exact .inr ⟨g, cap, cur, hv, hg, by rw [hb.block g (Array.getElem?_eq_some_iff.1 hh).1]; exact hh, r⟩

set_option maxHeartbeats 800000 in
theorem rget_yes (n : Nat) (a b : Int) (w : World) (hn : n < 18446744073709551616) (hr : rightB a b = true) :
    Calls Try.prog 16 #[.int .u64 (n : Int), .int .i64 a, .int .i64 b] w fun e w' => e = .returned (.int .u64 (getN n a.toNat b.toNat : Int)) ∧ Below w.heap.size w w' := by
  have hr' := (rightB_iff a b).1 hr
  obtain ⟨A, rfl⟩ := Int.eq_ofNat_of_zero_le hr'.1
  obtain ⟨B, rfl⟩ := Int.eq_ofNat_of_zero_le (show 0 ≤ b by omega)
  have hA : A + B ≤ 64 := by omega
  have hB1 : 1 ≤ B := by omega
  clear hr'
  have HE : Hid (wordN (((bitsL n 64).drop A).take B) = getN n A B) := wordN_get n A B hA
  have hlen : Hid ((((bitsL n 64).drop A).take B).length = B) := by simp only [Hid, List.length_take, List.length_drop, bitsL_length]; omega
  simp only [Int.toNat_natCast]
  go_enter Try.func16, Try.ntmps16
  go_wp2_with fail
  refine (rright_any _ _ _).mono ?_
  rintro e w' ⟨rfl, rfl⟩
  rw [hr]
  go_wp2_with fail
  refine (bits_any _ _ hn).mono ?_
  rintro e w1 ⟨g, cap, rfl, hown, hbel⟩
  obtain ⟨hcap, hg1, hg2, hg3⟩ := own_cap hown
  have hne : ¬ cap = A := by omega
  have hc : ∀ j, j < B → w1.cell? ⟨g, A + j, none⟩ = some (.int .i64 ((((bitsL n 64).drop A).take B)[j]?.getD 0 : Nat)) := by
    intro j hj
    rw [own_cellsN hown (bitsL_length _ _) (A + j) (by omega), List.getElem?_take, if_pos hj, List.getElem?_drop]
  go_wp2_with fail
  refine (word_any (((bitsL n 64).drop A).take B) g A B _ _ hlen.out (by omega) (isBits_take _ _ (isBits_drop _ _ (bitsL_isBits _ _))) hc).mono ?_
  rintro e w' ⟨rfl, rfl⟩
  go_wp2
  go_ret
  exact ⟨ret_int (by rw [HE.out]), hbel⟩
set_option maxHeartbeats 400000 in
theorem rget_no (n : Nat) (a b : Int) (w : World) (hr : rightB a b = false) :
    Calls Try.prog 16 #[.int .u64 (n : Int), .int .i64 a, .int .i64 b] w fun e w' => e = .returned (.int .u64 0) ∧ w' = w := by
  go_enter Try.func16, Try.ntmps16
  go_wp2_with (go_at_call 12; refine (rright_any _ _ _).mono ?_; rintro e w' ⟨rfl, rfl⟩)
  go_ret
  exact ⟨rfl, rfl⟩
theorem rget_any (n : Nat) (a b : Int) (w : World) (hn : n < 18446744073709551616) :
    Calls Try.prog 16 #[.int .u64 (n : Int), .int .i64 a, .int .i64 b] w fun e w' => e = .returned (.int .u64 (getI n a b : Int)) ∧ Below w.heap.size w w' := by
  cases hr : rightB a b
  · exact (rget_no n a b w hr).mono fun e w' ⟨h, h'⟩ => ⟨by simp [h, getI, hr], by rw [h']; exact Below.refl _ _⟩
  · exact (rget_yes n a b w hn hr).mono fun e w' ⟨h, h'⟩ => ⟨by simp [h, getI, hr], h'⟩

set_option maxHeartbeats 400000 in
theorem rput_arg (n : Nat) (a b : Int) (v : Nat) (w : World) (hr : rightB a b = false) :
    Calls Try.prog 10 #[.int .u64 (n : Int), .int .i64 a, .int .i64 b, .int .u64 (v : Int)] w fun e w' => e = .returned (.tuple #[.int .u64 0, .int .i64 1]) ∧ w' = w := by
  go_enter Try.func10, Try.ntmps10
  go_wp2_with (first | (go_at_call 12; refine (rright_any _ _ _).mono ?_; rintro e w' ⟨rfl, rfl⟩) | (go_at_call 14; refine (rmost_any _ _).mono ?_; rintro e w' ⟨rfl, rfl⟩))
  go_ret2
  exact ⟨rfl, rfl⟩
set_option maxHeartbeats 400000 in
theorem rput_over (n : Nat) (a b : Int) (v : Nat) (w : World) (hr : rightB a b = true) (hv : mostN b < v) :
    Calls Try.prog 10 #[.int .u64 (n : Int), .int .i64 a, .int .i64 b, .int .u64 (v : Int)] w fun e w' => e = .returned (.tuple #[.int .u64 0, .int .i64 13]) ∧ w' = w := by
  go_enter Try.func10, Try.ntmps10
  go_wp2_with (first | (go_at_call 12; refine (rright_any _ _ _).mono ?_; rintro e w' ⟨rfl, rfl⟩) | (go_at_call 14; refine (rmost_any _ _).mono ?_; rintro e w' ⟨rfl, rfl⟩))
  go_ret2
  exact ⟨rfl, rfl⟩

theorem intsN_set (l : List Nat) (j b : Nat) : (intsN l).set j (.int .i64 (b : Int)) = intsN (l.set j b) := by simp [intsN, List.map_set]

set_option maxHeartbeats 1000000 in
theorem rput_yes (n : Nat) (a b : Int) (v : Nat) (w : World) (hn : n < 18446744073709551616) (hv64 : v < 18446744073709551616) (hr : rightB a b = true) (hv : v ≤ mostN b) :
    Calls Try.prog 10 #[.int .u64 (n : Int), .int .i64 a, .int .i64 b, .int .u64 (v : Int)] w fun e w' => e = .returned (.tuple #[.int .u64 (putN n a.toNat b.toNat v : Int), .int .i64 0]) ∧ Below w.heap.size w w' := by
  have hr' := (rightB_iff a b).1 hr
  obtain ⟨A, rfl⟩ := Int.eq_ofNat_of_zero_le hr'.1
  obtain ⟨B, rfl⟩ := Int.eq_ofNat_of_zero_le (show 0 ≤ b by omega)
  have hA : A + B ≤ 64 := by omega
  have hB1 : 1 ≤ B := by omega
  have hvB : v < 2 ^ B := by
    have := most_mid (B : Int) (by omega) (by omega)
    have := pow_pos2 B
    simp only [Int.toNat_natCast] at *
    omega
  have HE : Hid (wordN (layL n A v B) = putN n A B v) := layL_word n A B v (by rw [pow64]; exact hn) hA hvB
  clear hr' hvB
  simp only [Int.toNat_natCast]
  go_enter Try.func10, Try.ntmps10
  go_wp2_with (first | (go_at_call 12; refine (rright_any _ _ _).mono ?_; rintro e w' ⟨rfl, rfl⟩) | (go_at_call 14; refine (rmost_any _ _).mono ?_; rintro e w' ⟨rfl, rfl⟩))
  refine (bits_any _ _ hn).mono ?_
  rintro e w1 ⟨g, cap, rfl, hown, hbel⟩
  obtain ⟨hcap, hg1, hg2, hg3⟩ := own_cap hown
  go_wp2_with fail
  refine (bits_any _ _ hv64).mono ?_
  rintro e w2 ⟨g2, cap2, rfl, hown2, hbel2⟩
  obtain ⟨hcap2, hh1, hh2, hh3⟩ := own_cap hown2
  have hown1 := own_below hown hbel2
  have hb2 : Below w'.heap.size w' w2 := hbel.trans (hbel2.mono hbel.size)
  clear hown hbel hbel2
  go_wp2
  go_loopw [12] (fun i wr => ∃ k : Nat, k ≤ B ∧ i = .int .i64 k ∧ wr.ownsRow w'.heap.size 3 1 (.slice (some ⟨g, 0, none⟩) 64 cap) 64 (intsN (layL n A v k)) ∧
      wr.ownsRow w1.heap.size 3 1 (.slice (some ⟨g2, 0, none⟩) 64 cap2) 64 (intsN (bitsL v 64)) ∧ Below w'.heap.size w' wr)
    (fun i _ => B - (intOf i).toNat)
  case atStart => exact ⟨0, Nat.zero_le _, rfl, by rw [layL_zero]; exact hown1, hown2, hb2⟩
  case round =>
    clear hown1 hown2 hb2
    obtain ⟨k, hk, rfl, ho1, ho2, hb⟩ := hrel
    by_cases hlt : k < B
    · have hcx := own_cellsN ho2 (bitsL_length _ _) k (by omega)
      rw [bitsL_get _ _ _ (by omega)] at hcx
      simp only [Option.getD_some] at hcx
      have hfz := ho1.frozenAt (A + k)
      have HS : Hid ((layL n A v k).set (A + k) (v / 2 ^ k % 2) = layL n A v (k + 1)) := layL_set n A v k (by omega)
      generalize v / 2 ^ k % 2 = z at *
      have hthere := own_cellsN ho1 (layL_length _ _ _ _ (by omega)) (A + k) (by omega)
      go_wp2
      obtain ⟨hs1, hs2⟩ := ho1.stored (A + k) (.int .i64 (z : Int))
      go_roundw
      case rel => exact ⟨k + 1, by omega, by go_num, by rw [← HS.out, ← intsN_set]; exact hs1, ho2.kept hs2 (.inr (by simp [Value.ownBlock]; omega)), hb.setCell hg1 _⟩
      case measure => simp [intOf]; omega
    · have e : k = B := by omega
      subst e
      have hc : ∀ j, j < 64 → wr.cell? ⟨g, 0 + j, none⟩ = some (.int .i64 ((layL n A v k)[j]?.getD 0 : Nat)) := by
        intro j hj
        rw [Nat.zero_add]
        exact own_cellsN ho1 (layL_length _ _ _ _ hA) j hj
      go_wp2_with fail
      refine (word_any (layL n A v k) g 0 64 _ _ (layL_length _ _ _ _ hA) (by omega) (layL_isBits _ _ _ _) hc).mono ?_
      rintro e w3 ⟨rfl, rfl⟩
      go_wp2
      go_ret2
      exact ⟨ret_two (by rw [HE.out]) rfl, hb⟩
theorem rput_any (n : Nat) (a b : Int) (v : Nat) (w : World) (hn : n < 18446744073709551616) (hv64 : v < 18446744073709551616) :
    Calls Try.prog 10 #[.int .u64 (n : Int), .int .i64 a, .int .i64 b, .int .u64 (v : Int)] w fun e w' => e = .returned (.tuple #[.int .u64 (putV n a b v : Int), .int .i64 (putE a b v)]) ∧ Below w.heap.size w w' := by
  cases hr : rightB a b
  · exact (rput_arg n a b v w hr).mono fun e w' ⟨h, h'⟩ => ⟨by simp [h, putV, putE, hr], by rw [h']; exact Below.refl _ _⟩
  · by_cases hv : v ≤ mostN b
    · exact (rput_yes n a b v w hn hv64 hr hv).mono fun e w' ⟨h, h'⟩ => ⟨by simp [h, putV, putE, hr, hv], h'⟩
    · exact (rput_over n a b v w hr (by omega)).mono fun e w' ⟨h, h'⟩ => ⟨by simp [h, putV, putE, hr, hv], by rw [h']; exact Below.refl _ _⟩
end Go.Proofs.Ytcjefpbagcflcaa
