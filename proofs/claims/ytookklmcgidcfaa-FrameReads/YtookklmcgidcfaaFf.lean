/- The walks of the reference's Unpack of frames. -/
import Derived.Test.YtookklmcgidcfaaFe
namespace Go.Proofs.Ytookklmcgidcfaa
open Go.RowKit
theorem seal_iff (t : List UInt8) (h8 : 8 ≤ t.length) : sealL (t.take (t.length - 8)) = t ↔ Opens t := by
  constructor
  · intro h
    have := seal_opens (t.take (t.length - 8))
    rw [h] at this
    exact this
  · exact opens_seal t h8
theorem str_toList (l : List UInt8) : (strL l).toList = l := by rw [ByteArray.toList_eq]; rfl
theorem extract_mid (t : List UInt8) (i j : Nat) : ((strL t).extract i j) = strL ((t.drop i).take (j - i)) := by
  apply ByteArray.ext
  rw [ByteArray.data_extract]
  apply Array.ext'
  rw [Array.toList_extract]
  rfl
theorem num_word (t : List UInt8) (k i j : Nat) (hi : i = 8 * k) (hj : j = i + 8) (h : j ≤ t.length) : numN ((strL t).extract i j) = wordAt t k := by
  subst hi hj
  rw [extract_mid, numN, if_pos (by rw [strL_size, List.length_take, List.length_drop]; omega), strL_toList, show 8 * k + 8 - 8 * k = 8 by omega]
  rfl
theorem listN_succ (v : Nat → Nat) (n : Nat) : listN v (n + 1) = listN v n ++ [v n] := by simp [listN, List.range_succ]
set_option maxHeartbeats 400000 in
theorem runpack_short (s : ByteArray) (w : World) (h : s.size < 32) :
    Calls Try.prog 13 #[.string s] w fun e w' => e = .returned (.tuple #[.int .i64 0, .slice none 0 0, .int .i64 4]) ∧ w' = w := by
  go_enter Try.func13, Try.ntmps13
  go_wp2
  go_ret3
  exact ⟨rfl, rfl⟩
set_option maxHeartbeats 400000 in
theorem runpack_odd (s : ByteArray) (N : Nat) (w : World) (hm : s.size ≤ 1000000) (h0 : (s.size : Int) - 8 = (N : Int)) (h1 : 24 ≤ N) (h2 : N % 8 ≠ 0) :
    Calls Try.prog 13 #[.string s] w fun e w' => e = .returned (.tuple #[.int .i64 0, .slice none 0 0, .int .i64 4]) ∧ w' = w := by
  have h3 : ((N : Int) % 8 != 0) = true := by rw [bne_iff_ne]; omega
  clear h2
  go_enter Try.func13, Try.ntmps13
  go_wp2
  go_ret3
  exact ⟨rfl, rfl⟩
set_option maxHeartbeats 400000 in
theorem runpack_seal (s T : ByteArray) (N : Nat) (w : World) (hm : s.size ≤ 1000000) (h0 : (s.size : Int) - 8 = (N : Int)) (h1 : 24 ≤ N) (h2 : N % 8 = 0)
    (HT : ∀ w, Calls Try.prog 14 #[.string (s.extract 0 N)] w fun e w' => e = .returned (.string T) ∧ Below w.heap.size w w') (hn : (T.toList == s.toList) = false) :
    Calls Try.prog 13 #[.string s] w fun e w' => e = .returned (.tuple #[.int .i64 0, .slice none 0 0, .int .i64 4]) ∧ Below w.heap.size w w' := by
  have h3 : ((N : Int) % 8 != 0) = false := by rw [bne_eq_false_iff_eq]; omega
  have hN : N ≤ s.size := by omega
  clear h2
  replace HT := hide HT
  go_enter Try.func13, Try.ntmps13
  go_wp2_with fail
  refine (HT.out _).mono ?_
  rintro e x ⟨rfl, b⟩
  go_wp2
  go_ret3
  exact ⟨rfl, b⟩
set_option maxHeartbeats 2000000 in
theorem runpack_run (s : ByteArray) (v : Nat → Nat) (N n : Nat) (w : World) (hm : s.size ≤ 1000000) (h0 : (s.size : Int) - 8 = (N : Int)) (h1 : N = 8 * (n + 2)) (hn : 1 ≤ n)
    (HT : ∀ w, Calls Try.prog 14 #[.string (s.extract 0 N)] w fun e w' => e = .returned (.string s) ∧ Below w.heap.size w w')
    (HV : ∀ k i j, i = 8 * k → j = i + 8 → j ≤ s.size → numN (s.extract i j) = v k) (hv : ∀ j, v j < 18446744073709551616) (r : Bool) (hr : r = true ↔ v 0 < 64 ∧ v 1 = n ∧ n ≤ 512) :
    Calls Try.prog 13 #[.string s] w fun e w' => (r = true → ∃ ao cap, e = .returned (.tuple #[.int .i64 (v 0 : Int), .slice ao n cap, .int .i64 0]) ∧ Sl .u64 w' ao n (fun j => (v (j + 2) : Int))) ∧
      (r = false → e = .returned (.tuple #[.int .i64 0, .slice none 0 0, .int .i64 4])) ∧ Below w.heap.size w w' := by
  obtain ⟨i0, hi, hz0, hz1, hz2⟩ := info_parts Try.infoU64
  have h3 : ((N : Int) % 8 != 0) = false := by rw [bne_eq_false_iff_eq]; omega
  have h24 : 24 ≤ N := by omega
  have hN : N ≤ s.size := by omega
  have hss : (s.toList == s.toList) = true := by simp
  have H1 := hide h1
  replace HT := hide HT
  replace HV := hide HV
  replace hv := hide hv
  replace hr := hide hr
  clear h1
  go_enter Try.func13, Try.ntmps13
  go_wp2_with fail
  refine (HT.out _).mono ?_
  rintro e x ⟨rfl, b⟩
  go_wp2
  have B := b.size
  go_loopw [6, 7] (fun l i wr => ∃ k c : Nat, k ≤ n + 2 ∧ Hid (c = 8 * k) ∧ i = .int .i64 (c : Int) ∧ wr.ownsRow w.heap.size 29 1 l k (uintsN (listN v k)) ∧ Below w.heap.size w wr) (fun _ i _ => N + 8 - (intOf i).toNat)
  case atStart => exact ⟨0, 0, Nat.zero_le _, rfl, rfl, own_base (by simpa [uintsN, listN] using World.ownsRow_made (e := 29) (size := 1) x #[] 0 (Nat.le_refl _) (by decide) (by simp)) B, b.alloc B _⟩
  case round =>
    clear b
    obtain ⟨k, c, hk, HC, rfl, hown, hb⟩ := hrel
    have hB := hb.size
    by_cases hlt : c < N
    · have hcs : c + 8 ≤ s.size := by have := HC.out; have := H1.out; omega
      have hk2 : k ≤ 1000000 := by have := HC.out; omega
      have HE := hide (HV.out k c (c + 8) HC.out rfl hcs)
      have HG : Hid (uintsN (listN v (k + 1)) = uintsN (listN v k) ++ [.int .u64 (v k : Int)]) := by unfold Hid; rw [listN_succ, uintsN_snoc]
      have hvk := hv.out k
      generalize v k = y at *
      go_wp2_with fail
      refine (rnumber_any _ _).mono ?_
      rintro e x2 ⟨rfl, rfl⟩
      rw [HE.out]
      have hown2 := hown.alloc (.cells #[.int .u64 (y : Int)] 29)
      go_wp2_with (at_builtin; refine wpList_append_own _ rfl _ _ 22 rfl w.heap.size 29 i0 (.int .u64 0) 1 8 Try.underlying22 hi hz0 hz1 hz2 rfl (by decide) _ _ _ rfl hown2 ⟨x2.heap.size, 0, none⟩ 1 1 [.int .u64 (y : Int)] rfl rfl (cell_one _ _ _) one_int ?c3 ?c4 ?c5 ?_)
      case c3 => unfold maxLen; omega
      case c4 => omega
      case c5 => simpa using Nat.le_succ_of_le hB
      intro v' w3 hown' hgrow _
      have R := grow_step hown hB hb hgrow
      rw [← HG.out] at hown'
      clear hgrow hown hown2 hb
      go_wp2
      go_roundw
      case rel => exact ⟨k + 1, c + 8, by have := HC.out; have := H1.out; omega, by have := HC.out; unfold Hid; omega, by go_num, hown', R⟩
      case measure => simp [intOf]; omega
    · obtain rfl : k = n + 2 := by have := HC.out; have := H1.out; omega
      obtain ⟨g, cap, rfl, _, _⟩ := own_form hown (by omega)
      obtain ⟨hcap, _, _, hcm⟩ := own_cap hown
      have hc : Hid (∀ j, j < n + 2 → wr.cell? ⟨g, j, none⟩ = some (.int .u64 (v j : Int))) := fun j hj => by
        rw [own_cellsU hown (listN_length _ _) j hj, listN_get _ _ _ hj]
      have c0 := hc.out 0 (by omega)
      have c1 := hc.out 1 (by omega)
      have hn2 : n ≤ 1000000 := by have := H1.out; omega
      clear hown
      have hv0 := hv.out 0
      have hv1 := hv.out 1
      by_cases a0 : v 0 < 64
      · have a0' : decide ((63 : Int) < (v 0 : Int)) = false := by simp; omega
        by_cases a1 : v 1 = n
        · rw [a1] at c1 hv1
          have hnn : ((n : Int) != (n : Int)) = false := by simp
          by_cases a2 : n ≤ 512
          · have hrt : Hid (r = true) := hr.out.2 ⟨a0, a1, a2⟩
            replace a1 := hide a1
            obtain ⟨q, HQ⟩ : ∃ q, Hid (v 0 = q) := ⟨_, rfl⟩
            rw [HQ.out] at c0 hv0 a0' a0
            have hcap2 : 2 < cap := by omega
            go_wp2
            go_quiet (fail)
            go_wp2
            go_ret3
            exact ⟨fun _ => ⟨_, _, by rw [HQ.out]; rfl, fun j hj => ⟨g, 2, rfl, by rw [Nat.add_comm 2 j]; exact hc.out (j + 2) (by omega)⟩⟩, fun h => absurd (hrt.out.symm.trans h) (by decide), below_drewN hb _⟩
          · have hrf : Hid (r = false) := by
              cases r
              · rfl
              · exact absurd (hr.out.1 rfl).2.2 a2
            generalize v 0 = q at *
            go_wp2
            go_ret3
            exact ⟨fun h => absurd (hrf.out.symm.trans h) (by decide), fun _ => rfl, hb⟩
        · have hrf : Hid (r = false) := by
            cases r
            · rfl
            · exact absurd (hr.out.1 rfl).2.1 a1
          have hne : ((v 1 : Int) != (n : Int)) = true := by rw [bne_iff_ne]; omega
          clear a1
          generalize v 0 = q at *
          generalize v 1 = q1 at *
          go_wp2
          go_ret3
          exact ⟨fun h => absurd (hrf.out.symm.trans h) (by decide), fun _ => rfl, hb⟩
      · have hrf : Hid (r = false) := by
          cases r
          · rfl
          · exact absurd (hr.out.1 rfl).1 a0
        have a0' : decide ((63 : Int) < (v 0 : Int)) = true := by simp; omega
        generalize v 0 = q at *
        go_wp2
        go_ret3
        exact ⟨fun h => absurd (hrf.out.symm.trans h) (by decide), fun _ => rfl, hb⟩
theorem runpack_no (t : List UInt8) (w : World) (hl : t.length ≤ 1000000) (h : ¬ FrOK t) :
    Calls Try.prog 13 #[.string (strL t)] w fun e w' => e = .returned (.tuple #[.int .i64 0, .slice none 0 0, .int .i64 4]) ∧ Below w.heap.size w w' := by
  have hz := strL_size t
  by_cases h1 : t.length < 32
  · refine (runpack_short _ w (by omega)).mono ?_
    rintro e x ⟨rfl, rfl⟩
    exact ⟨rfl, Below.refl _ _⟩
  by_cases h2 : t.length % 8 = 0
  · have HT : ∀ w, Calls Try.prog 14 #[.string ((strL t).extract 0 (t.length - 8))] w fun e w' => e = .returned (.string (strL (sealL (t.take (t.length - 8))))) ∧ Below w.heap.size w w' := fun w => by
      rw [extract_str]
      exact rseal_any _ w (by rw [strL_size, List.length_take]; omega)
    by_cases ho : Opens t
    · rw [(seal_iff t (by omega)).2 ho] at HT
      refine (runpack_run _ (wordAt t) (t.length - 8) (t.length / 8 - 3) w (by omega) (by omega) (by omega) (by omega) HT (fun k i j hi hj hs => num_word t k i j hi hj (by omega)) (wordAt_lt t) false ?_).mono ?_
      · constructor
        · intro h; cases h
        · rintro ⟨a0, a1, a2⟩
          exact absurd ⟨by omega, h2, ho, a0, a1, a2⟩ h
      · rintro e x ⟨_, h4, b⟩
        exact ⟨h4 rfl, b⟩
    · refine runpack_seal _ _ (t.length - 8) w (by omega) (by omega) (by omega) (by omega) HT ?_
      rw [str_toList, str_toList]
      have : sealL (t.take (t.length - 8)) ≠ t := fun e => ho ((seal_iff t (by omega)).1 e)
      simpa using this
  · refine (runpack_odd _ (t.length - 8) w (by omega) (by omega) (by omega) (by omega)).mono ?_
    rintro e x ⟨rfl, rfl⟩
    exact ⟨rfl, Below.refl _ _⟩
theorem runpack_yes (t : List UInt8) (n p : Nat) (w : World) (h : FrOK t) (hn : t.length = 8 * n + 24) (hp : wordAt t 0 = p) :
    Calls Try.prog 13 #[.string (strL t)] w fun e w' => ∃ ao cap, e = .returned (.tuple #[.int .i64 (p : Int), .slice ao n cap, .int .i64 0]) ∧
      Sl .u64 w' ao n (fun j => ((wordAt t (j + 2) : Nat) : Int)) ∧ Below w.heap.size w w' := by
  have hz := strL_size t
  have hl := h.long
  have h5 := h.most
  have HT : ∀ w, Calls Try.prog 14 #[.string ((strL t).extract 0 (t.length - 8))] w fun e w' => e = .returned (.string (strL (sealL (t.take (t.length - 8))))) ∧ Below w.heap.size w w' := fun w => by
    rw [extract_str]
    exact rseal_any _ w (by rw [strL_size, List.length_take]; omega)
  rw [(seal_iff t (by omega)).2 h.opens] at HT
  refine (runpack_run _ (wordAt t) (t.length - 8) n w (by omega) (by omega) (by omega) (by omega) HT (fun k i j hi hj hs => num_word t k i j hi hj (by omega)) (wordAt_lt t) true ?_).mono ?_
  · exact ⟨fun _ => ⟨h.page, by rw [h.count]; omega, by omega⟩, fun _ => rfl⟩
  · rintro e x ⟨h4, _, b⟩
    obtain ⟨ao, cap, h6, h7⟩ := h4 rfl
    exact ⟨ao, cap, by rw [h6, hp], h7, b⟩
end Go.Proofs.Ytookklmcgidcfaa
