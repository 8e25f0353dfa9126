/- Parts of the proof: Sc. -/
import Derived.Test.YtikpphbgjbfddaaJ12
import Derived.Test.YtikpphbgjbfddaaJ21
import Derived.Deep.CutBlock
import Derived.Deep.DeepCutAuto
namespace Go.Proofs.Ytikpphbgjbfddaa
set_option maxRecDepth 20000
open Go.RowKit
set_option maxRecDepth 10000 in
set_option maxHeartbeats 8000000 in
theorem sums_any {X : InPred} (C : InProg X) (n : Nat) (hn : n < 18446744073709551616) (rd : Nat) (hrd : rd ≤ 255) {w : World} {ao am : Option Addr} {na capa nm capm : Nat} {za mz : Nat → Int} (hza : Sl .u64 w ao na za) (hzb : ∀ j, j < na → 0 ≤ za j ∧ za j ≤ 18446744073709551615) (hm : Sl .u8 w am nm mz) (hmz : ∀ j, j < nm → 0 ≤ mz j ∧ mz j ≤ 255) :
    Calls Try.prog 4 #[.int .u64 (n : Int), .slice ao na capa, .int .u8 (rd : Int), .slice am nm capm] w fun e w' => e = .returned (.bool true) ∧ Below w.heap.size w w' := by
  obtain ⟨i0, hi, hz0, hz1, hz2⟩ := info_parts Try.infoOw
  have HAW := hide (awake18 C w)
  have HZA := hide hza
  have HZB := hide hzb
  have HM := hide hm
  have HMZ := hide hmz
  have HNN := hide hn
  obtain ⟨rr, HRR⟩ : ∃ rr, Hid (rd % 3 = rr) := ⟨_, rfl⟩
  have hrr : rr ≤ 2 := by rw [← HRR.out]; omega
  have hrt : (rd : Int).tmod 3 = (rr : Int) := by rw [Int.tmod_eq_emod_of_nonneg (by omega), ← HRR.out]; omega
  have hrw : wrap64 (rd : Int) = (rd : Int) := IntWalk.wrap64_in _ (by omega)
  clear hza hzb hm hmz hn
  go_enter Try.func4, Try.ntmps4
  go_wp2_with fail
  refine HAW.out.mono ?_
  rintro e y0 ⟨rfl, b0⟩
  have ho0 := own_nilO y0
  have hb0 := (Below.refl y0.heap.size y0).alloc (Nat.le_refl _) (.cells #[] 56)
  have HB0 := hide b0
  clear b0 HAW
  go_upto_block 0 with fail
  go_cut [9] (fun v9 wx => ∃ i : Nat, i ≤ na ∧ i ≤ 4 ∧ OwnO wx y0.heap.size v9 (wlO za i 0) ∧ Below y0.heap.size y0 wx)
  case first =>
    go_wp2
    go_loopw [9, 10] (fun v9 v10 wr => ∃ i : Nat, i ≤ na ∧ i ≤ 4 ∧ v10 = .int .i64 (i : Int) ∧ OwnO wr y0.heap.size v9 (wlO za i 0) ∧ Below y0.heap.size y0 wr) (fun _ v10 _ => 4 - (intOf v10).toNat)
    case atStart => exact ⟨0, Nat.zero_le _, by omega, rfl, ho0, hb0⟩
    case round =>
      clear ho0 hb0
      obtain ⟨i, hin, hi4, rfl, ho, hbel⟩ := hrel
      obtain ⟨a9, c9, rfl, -, -, -⟩ := own_slice ho
      by_cases hlt : i < na ∧ i < 4
      · obtain ⟨h1, h2⟩ := hlt
        obtain ⟨bb, off, hao, hcell⟩ := HZA.out.below (HB0.out.trans (hbel.mono HB0.out.size)) i h1
        subst hao
        have HAD : Hid (wlO za (i + 1) 0 = wlO za i 0 ++ [⟨2, ⟨#[]⟩, za i⟩]) := wlO_add za i
        obtain ⟨zi, HZI⟩ : ∃ zi, Hid (za i = zi) := ⟨_, rfl⟩
        rw [HZI.out] at hcell HAD
        have hX := (Below.refl wr.heap.size wr).alloc (Nat.le_refl _) (.cells #[.int .i64 2, .string ⟨#[]⟩, .int .u64 zi] 56)
        have hown2 := ho.below hX
        unfold OwnO at hown2
        have HON : Hid (owsV (wlO za (i + 1) 0) = owsV (wlO za i 0) ++ [.int .i64 2, .string ⟨#[]⟩, .int .u64 zi]) := by rw [Hid, HAD.out, owsV_snoc]
        have HOO := hide ho
        have hnews := cell_threeO wr (.int .i64 2) (.string ⟨#[]⟩) (.int .u64 zi) 56
        have HLE : Hid ((wlO za i 0).length = i) := wlO_length za i 0
        have hbs := hbel.size
        rw [HLE.out] at hown2 ⊢
        generalize owsV (wlO za i 0) = le at *
        clear ho hX
        have q1 : (i : Int) < (na : Int) := by omega
        have q2 : (i : Int) < 4 := by omega
        go_wp2_with (at_builtin; refine wpList_append_lies _ rfl _ _ 22 rfl y0.heap.size 56 i0 (.agg #[.int .i64 0, .string ⟨#[]⟩, .int .u64 0]) 3 32 Try.underlying22 hi hz0 hz1 hz2 rfl (by decide) _ _ _ rfl hown2 ⟨wr.heap.size, 0, none⟩ 1 1 [.int .i64 2, .string ⟨#[]⟩, .int .u64 zi] rfl rfl hnews three_ow (by decide) ?c3 ?c4 ?c5 (wr.heap.size + 1) (by simp) ?_)
        case c3 => unfold maxLen; omega
        case c4 => omega
        case c5 => first | omega | (simp; omega)
        intro g cap' w1 hown' hgrow _ _
        have hb1 := grow_stepO HOO.out hbs hbel (by rw [HLE.out]; exact hgrow)
        have HO1 : Hid (OwnO w1 y0.heap.size (.slice (some ⟨g, 0, none⟩) (i + 1) cap') (wlO za (i + 1) 0)) := by
          unfold Hid OwnO
          rw [HON.out, wlO_length]; exact hown'
        have HB1 := hide hb1
        clear hgrow hown' hnews hown2 HOO hbel hb1 hbs
        go_wp2
        go_roundw
        case rel => exact ⟨i + 1, by omega, by omega, by go_num, HO1.out, HB1.out⟩
        case measure => simp [intOf]; omega
      · have HBB := hide hbel
        have HLE : Hid ((wlO za i 0).length = i) := wlO_length za i 0
        have HOO : Hid (OwnO wr y0.heap.size (.slice a9 i c9) (wlO za i 0)) := by
          have h := ho
          rw [wlO_length] at h
          exact h
        have HINA := hide hin
        have HI4 := hide hi4
        rw [HLE.out]
        clear ho hbel hin
        by_cases h1 : i < na
        · have q1 : (i : Int) < (na : Int) := by omega
          have q2 : ¬ (i : Int) < 4 := by omega
          clear hlt
          go_wp2
          go_meet
          case rel => exact ⟨i, HINA.out, HI4.out, HOO.out, HBB.out⟩
        · have q1 : ¬ (i : Int) < (na : Int) := by omega
          clear hlt
          go_wp2
          go_meet
          case rel => exact ⟨i, HINA.out, HI4.out, HOO.out, HBB.out⟩
  case rest =>
    obtain ⟨i, hin, hi4, ho, hbel⟩ := hcut
    clear ho0 hb0
    go_upto_block 2 with fail
    go_cut [9] (fun v9 wx => OwnO wx y0.heap.size v9 (wlO za i rr) ∧ Below y0.heap.size y0 wx)
    case first =>
      go_wp2
      go_loopw [9, 11] (fun v9 v11 wr => ∃ r : Nat, r ≤ rr ∧ v11 = .int .i64 (r : Int) ∧ OwnO wr y0.heap.size v9 (wlO za i r) ∧ Below y0.heap.size y0 wr) (fun _ v11 _ => rr - (intOf v11).toNat)
      case atStart => exact ⟨0, Nat.zero_le _, rfl, ho, hbel⟩
      case round =>
        clear ho hbel
        obtain ⟨r, hr, rfl, ho, hbel⟩ := hrel
        obtain ⟨a9, c9, rfl, -, -, -⟩ := own_slice ho
        have HLE : Hid ((wlO za i r).length = i + r) := wlO_length za i r
        by_cases hlt : r < rr
        · have HAD : Hid (wlO za i (r + 1) = wlO za i r ++ [⟨3, ⟨#[]⟩, 0⟩]) := wlO_read za i r
          have hX := (Below.refl wr.heap.size wr).alloc (Nat.le_refl _) (.cells #[.int .i64 3, .string ⟨#[]⟩, .int .u64 0] 56)
          have hown2 := ho.below hX
          unfold OwnO at hown2
          have HON : Hid (owsV (wlO za i (r + 1)) = owsV (wlO za i r) ++ [.int .i64 3, .string ⟨#[]⟩, .int .u64 0]) := by rw [Hid, HAD.out, owsV_snoc]
          have HOO := hide ho
          have hnews := cell_threeO wr (.int .i64 3) (.string ⟨#[]⟩) (.int .u64 0) 56
          have hbs := hbel.size
          obtain ⟨ln, HLN⟩ : ∃ ln, Hid ((wlO za i r).length = ln) := ⟨_, rfl⟩
          have hln : ln ≤ 6 := by rw [← HLN.out, HLE.out]; omega
          rw [HLN.out] at hown2 ⊢
          generalize owsV (wlO za i r) = le at *
          clear ho hX
          have q1 : (r : Int) < (rr : Int) := by omega
          go_wp2_with (at_builtin; refine wpList_append_lies _ rfl _ _ 22 rfl y0.heap.size 56 i0 (.agg #[.int .i64 0, .string ⟨#[]⟩, .int .u64 0]) 3 32 Try.underlying22 hi hz0 hz1 hz2 rfl (by decide) _ _ _ rfl hown2 ⟨wr.heap.size, 0, none⟩ 1 1 [.int .i64 3, .string ⟨#[]⟩, .int .u64 0] rfl rfl hnews three_ow (by decide) ?c3 ?c4 ?c5 (wr.heap.size + 1) (by simp) ?_)
          case c3 => unfold maxLen; omega
          case c4 => omega
          case c5 => first | omega | (simp; omega)
          intro g cap' w1 hown' hgrow _ _
          have hb1 := grow_stepO HOO.out hbs hbel (by rw [HLN.out]; exact hgrow)
          have HO1 : Hid (OwnO w1 y0.heap.size (.slice (some ⟨g, 0, none⟩) (ln + 1) cap') (wlO za i (r + 1))) := by
            unfold Hid OwnO
            rw [HON.out, HAD.out, List.length_append, HLN.out]; exact hown'
          have HB1 := hide hb1
          clear hgrow hown' hnews hown2 HOO hbel hb1 hbs
          go_wp2
          go_roundw
          case rel => exact ⟨r + 1, by omega, by go_num, HO1.out, HB1.out⟩
          case measure => simp [intOf]; omega
        · have e : r = rr := by omega
          subst e
          have HOO := hide ho
          have HBB := hide hbel
          clear ho hbel
          go_wp2
          go_meet
          case rel => exact ⟨HOO.out, HBB.out⟩
    case rest =>
      clear ho hbel
      obtain ⟨ho, hbel⟩ := hcut
      obtain ⟨a9, c9, rfl, hzs⟩ := ho.ows (wlO_ok (fun j hj => HZB.out j (by omega)))
      have HV := hide (fun y => rvalue_any n y HNN.out)
      have HOP : Hid (∀ y, Below wc.heap.size wc y → _) := fun y hb => sc_open C (valS n) (by rw [valS_size]; decide) (cap := c9) (hzs.below hb)
      have HNW : Hid (∀ j, j < (wlO za i rr).length → (getO (wlO za i rr) j).kd ≠ 1) := fun j hj => wlO_kd j (by rw [wlO_length] at hj; exact hj)
      obtain ⟨e81, e82⟩ := valS_words n HNN.out
      have HCE : Hid (ceS (valS n) = ⟨false, 0, [n]⟩) := by unfold Hid ceS; rw [e81, e82]
      have HN8 : Hid (wordsFor (valS n).size = 1) := e81
      have HBW := hide (HB0.out.trans (hbel.mono HB0.out.size))
      generalize (wlO za i rr).length = ln at *
      generalize getO (wlO za i rr) = zz at *
      generalize valS n = sv at *
      clear ho hbel hzs e81 e82
      go_wp2_with fail
      refine (HV.out _).mono ?_
      rintro e y1 ⟨rfl, b1⟩
      have HOP1 := hide (HOP.out y1 b1)
      have HBY := hide (HBW.out.trans (b1.mono HBW.out.size))
      clear HV HOP HBW b1
      go_wp2_with fail
      refine HOP1.out.mono ?_
      rintro e y2 ⟨d, rfl, hop⟩
      obtain ⟨k, o, vls, vgs, xs, hP, hk, hK, hdn, hadd, hfr⟩ := PlOk.start hop
      have hN1 : d.N = 1 := by rw [hP.nn, hdn]; exact HN8.out
      have hce : CeOk 1 (⟨false, 0, [n]⟩ : Ce) := by rw [← HCE.out, ← hN1]; exact hP.s.ce
      have hsu : SuOk X y1 y2 d k o vls vgs ⟨false, 0, [n]⟩ xs ⟨false, 0, [n]⟩ xs n :=
        ⟨by rw [← HCE.out]; exact hP.a, sumOk_fresh HNN.out (fun j hj => by rw [← hN1]; exact hfr j hj) (hadd HNW.out), hP.rd, hP.rd, fun _ _ => rfl, hN1, rfl, hP.bel⟩
      obtain ⟨mf, mz'⟩ := own_madeB y2 d.K
      have hgo : o y2.heap.size = 0 := Classical.byContradiction fun e => by have := (hP.a.bs.ge _ e).2; omega
      have hdf : ∀ j, j < d.K → (fun _ : Nat => false) j = dnS xs j := fun j hj => by
        unfold dnS
        rcases hfr j hj with e | ⟨_, m, _, e⟩ | ⟨l, _, _, e⟩ <;> rw [e] <;> rfl
      have hb3 := (Below.refl y2.heap.size y2).alloc (Nat.le_refl _) (.cells (madeCells #[.bool false] d.K) 4)
      have hall : SuAll X y1 (y2.alloc (.cells (madeCells #[.bool false] d.K) 4)) d y2.heap.size k o vls vgs ⟨false, 0, [n]⟩ xs ⟨false, 0, [n]⟩ xs n (dnS xs) :=
        ⟨hsu.below C hb3, OvIs.congr ⟨mf, fun j _ => mz' j, by simp⟩ hdf, hgo, hP.bel.size⟩
      have c4 := hP.a.s.c4
      obtain ⟨am4, cm4, em4, _⟩ := own_slice hP.a.s.om
      rw [em4] at c4
      have HAL := hide hall
      obtain ⟨K, HKK⟩ : ∃ K, Hid (d.K = K) := ⟨_, rfl⟩
      have hK6 : K ≤ 6 := by rw [← HKK.out]; exact hK
      rw [HKK.out] at c4 HAL
      have hmk := run_make_row' (P := Try.prog) 58 4 (.bool false) 1 Try.underlying58 Try.infoBool rfl .i64 .i64 K (by omega) (by omega)
      clear hP hop HOP1 hdn hadd hfr hsu mf mz' hgo hdf hb3 hall em4 hce hK
      go_upto_block 4 with fail
      obtain ⟨go, HGO⟩ : ∃ go, Hid (y2.heap.size = go) := ⟨_, rfl⟩
      rw [HGO.out] at HAL ⊢
      generalize y2.alloc (.cells (madeCells #[.bool false] K) 4) = y3 at *
      generalize (⟨false, 0, [n]⟩ : Ce) = cr at *
      have hk1 := hk
      clear c4 hmk hk
      go_cut [15] (fun v15 wx => ∃ (k : Nat) (o : Nat → Nat) (cp : Ce) (xp : Nat → Wk) (S : Nat), v15 = .int .u64 (S : Int) ∧ k ≤ 301 ∧ SuAll X y1 wx d go k o vls vgs cp xp cr xs S (dnS xp))
      case first =>
        go_wp2
        go_loopw [15, 16] (fun v15 v16 wr => ∃ (i k : Nat) (o : Nat → Nat) (cp : Ce) (xp : Nat → Wk) (S : Nat), v16 = .int .i64 (i : Int) ∧ i ≤ 300 ∧ k ≤ i + 1 ∧ v15 = .int .u64 (S : Int) ∧ SuAll X y1 wr d go k o vls vgs cp xp cr xs S (dnS xp)) (fun _ v16 _ => 300 - (intOf v16).toNat)
        case atStart => exact ⟨0, k, o, cr, xs, n, rfl, by omega, by omega, rfl, HAL.out⟩
        case round =>
          clear HAL
          obtain ⟨i, k, o, cp, xp, S, rfl, hi, hk', rfl, hA⟩ := hrel
          by_cases hlt : i < nm ∧ i < 300 ∧ 0 < d.K
          · obtain ⟨h1, h2, h3⟩ := hlt
            obtain ⟨ga, ca, gb, cb, gm, cm, hr⟩ := hA.u.a.rows h3
            obtain ⟨bm, offm, ham, hcm⟩ := HM.out.below (HBY.out.trans (hA.u.bel.mono HBY.out.size)) i h1
            obtain ⟨mi, hmi⟩ : ∃ mi : Nat, mz i = (mi : Int) := ⟨(mz i).toNat, by have := HMZ.out i h1; omega⟩
            have hmb : mi ≤ 255 := by have := HMZ.out i h1; omega
            rw [hmi] at hcm
            subst ham
            obtain ⟨j, HJ⟩ : ∃ j, Hid (mi % d.K = j) := ⟨_, rfl⟩
            have hj : j < d.K := by rw [← HJ.out]; exact Nat.mod_lt _ h3
            have hSee := hA.u.a.see hr hj
            have c4 := hSee.c4
            rw [HKK.out] at c4
            have hjK : j < K := by rw [← HKK.out]; exact hj
            have q0 : (mi : Int).tmod (K : Int) = (j : Int) := by
              rw [Int.tmod_eq_emod_of_nonneg (by omega), ← HJ.out, HKK.out]; simp
            have q1 : (i : Int) < (nm : Int) := by omega
            have q2 : (i : Int) < 300 := by omega
            have q3 : (0 : Int) < (K : Int) := by omega
            have q4 : ¬ (K : Int) = 0 := by omega
            have q6 : IntKind.i64.wrap (j : Int) = (j : Int) := IntWalk.i64_in _ (by omega)
            have q7 : wrap64 (mi : Int) = (mi : Int) := IntWalk.wrap64_in _ (by omega)
            have q8 : ((K : Int) == 0) = false := by rw [beq_eq_false_iff_ne]; omega
            have HAH := hide hA
            have HR := hide hr
            clear hA hr hSee hmi
            go_wp2_with fail
            go_quiet ((fail))
            have HA1 := hide (HAH.out.below C (below_drewN (Below.refl wr.heap.size wr) nq))
            clear c4 hcm q0 q1 q2 q3 q4 q6 q7 q8 HAH
            generalize wr.drewN nq = y4 at *
            obtain ⟨r, HRR2⟩ : ∃ r, Hid ((wkMove cp (xp j)).1 = r) := ⟨_, rfl⟩
            have HMV0 := sa_move C HA1.out hj (by omega)
            rw [HRR2.out] at HMV0
            have HMV := hide HMV0
            clear HMV0
            go_wp2_with fail
            refine HMV.out.mono ?_
            rintro e y5 ⟨rfl, o2, hA2⟩
            have HA2 := hide hA2
            clear hA2 HMV HA1
            have hjI : (j : Int) < (K : Int) := by omega
            by_cases hr2 : r = 2
            · subst hr2
              have hdn := wk_two.1 HRR2.out
              have ov := HA2.out.v.cs j hj
              obtain ⟨dj, HDJ⟩ : ∃ b, Hid (dnS xp j = b) := ⟨_, rfl⟩
              rw [HDJ.out] at ov
              cases dj with
              | true =>
                have HE := hide (HA2.out.tell (sum_old (.inl HDJ.out)) (fun q _ => dn_upd (hdn.trans HDJ.out.symm) q))
                clear HA2 hdn
                go_wp2
                go_roundw
                case rel => exact ⟨i + 1, k + 1, _, _, _, S, by go_num, by omega, by omega, rfl, HE.out⟩
                case measure => simp [intOf]; omega
              | false =>
                have fv := HA2.out.v.fs j hj
                have hset := (HA2.out.set C j true).tell (sum_new HDJ.out HRR2.out) (fun q _ => dn_set hdn q)
                have HE := hide hset
                clear hset HA2
                go_upto_region 26 with fail
                generalize y5.setCell ⟨go, j, none⟩ (.bool true) = y6 at *
                have hsee := HE.out.u.a.see HR.out hj
                have c4 := hsee.c4
                rw [HKK.out] at c4
                have rm := hsee.rm
                have hcn : y6.cell? ⟨d.q j, 2, none⟩ = some (.int .u64 ((xs j).n : Int)) := (HE.out.u.a.r.rf j hj).cs 2 (by omega)
                have hnn := HE.out.u.nn j hj
                rw [wkUpd_same, (wk_fix cp (xp j)).2.2] at hnn
                rw [← hnn] at hcn
                obtain ⟨nj, HNJ⟩ : ∃ nj, Hid ((xp j).n = nj) := ⟨_, rfl⟩
                rw [HNJ.out] at hcn HE
                obtain ⟨S2, HS2⟩ : ∃ S2, Hid (sumW S nj = S2) := ⟨_, rfl⟩
                have hsm : IntKind.u64.wrap ((S : Int) + (nj : Int)) = (S2 : Int) := by rw [IntKind.wrap_u64, ← HS2.out, sumW]; omega
                rw [HS2.out] at HE
                clear hsee hnn ov fv hdn
                go_wp2
                go_roundw
                case rel => exact ⟨i + 1, k + 1, _, _, _, S2, by go_num, by omega, by omega, rfl, HE.out⟩
                case measure => simp [intOf]; omega
            · have hr2' : ((r : Int) == 2) = false := by rw [beq_eq_false_iff_ne]; omega
              have hnt := wk_not_two (c := cp) (x := xp j) (by rw [HRR2.out]; exact hr2)
              have HE := hide (HA2.out.tell (sum_old (.inr (by rw [HRR2.out]; exact hr2))) (fun q _ => dn_upd (hnt.2.trans hnt.1.symm) q))
              clear HA2 hnt hr2
              go_wp2
              go_roundw
              case rel => exact ⟨i + 1, k + 1, _, _, _, S, by go_num, by omega, by omega, rfl, HE.out⟩
              case measure => simp [intOf]; omega
          · have c4 := hA.u.a.s.c4
            obtain ⟨am5, cm5, em5, _⟩ := own_slice hA.u.a.s.om
            rw [em5, HKK.out] at c4
            have HAX := hide hA
            clear hA em5
            by_cases h1 : i < nm
            · have h1' : (i : Int) < (nm : Int) := by omega
              by_cases h2 : i < 300
              · have h3 : K = 0 := by rw [← HKK.out]; omega
                have h2' : (i : Int) < 300 := by omega
                rw [h3] at c4
                clear hlt
                go_wp2
                go_meet
                case rel => exact ⟨k, o, cp, xp, S, rfl, by omega, HAX.out⟩
              · have h2' : ¬ (i : Int) < 300 := by omega
                clear hlt
                go_wp2
                go_meet
                case rel => exact ⟨k, o, cp, xp, S, rfl, by omega, HAX.out⟩
            · have h1' : ¬ (i : Int) < (nm : Int) := by omega
              clear hlt
              go_wp2
              go_meet
              case rel => exact ⟨k, o, cp, xp, S, rfl, by omega, HAX.out⟩
      case rest =>
        obtain ⟨k, o, cp, xp, S, rfl, hk, hA⟩ := hcut
        clear HAL
        go_wp2
        go_loopw [15, 20] (fun v15 v20 wr => ∃ (tu k : Nat) (o : Nat → Nat) (cp : Ce) (xp : Nat → Wk) (S : Nat), v20 = .int .i64 (tu : Int) ∧ tu ≤ 2 ∧ k ≤ 301 + tu * 100 ∧ v15 = .int .u64 (S : Int) ∧ SuAll X y1 wr d go k o vls vgs cp xp cr xs S (dnS xp) ∧ (1 ≤ tu → ∀ j, j < d.K → (xp j).holds = false) ∧ (2 ≤ tu → ∀ j, j < d.K → (xp j).dn = true)) (fun _ v20 _ => 2 - (intOf v20).toNat)
        case atStart => exact ⟨0, k, o, cp, xp, S, rfl, by omega, by omega, rfl, hA, fun e => absurd e (by omega), fun e => absurd e (by omega)⟩
        case round =>
          clear hA
          obtain ⟨tu, k, o, cp, xp, S, rfl, htu, hk, rfl, hA, hno, hdn⟩ := hrel
          by_cases ht2 : tu < 2
          · have HT : Hid (TurnQ d xp tu 0) := ⟨fun _ j hj => absurd hj (by omega), fun e => ⟨hno (by omega), fun j hj => absurd hj (by omega)⟩⟩
            clear hno hdn
            have ht2' : (tu : Int) < 2 := by omega
            go_wp2
            go_loopw [15, 21] (fun v15 v21 wr2 => ∃ (q k : Nat) (o : Nat → Nat) (cp : Ce) (xp : Nat → Wk) (S : Nat), v21 = .int .i64 (q : Int) ∧ q ≤ K ∧ k ≤ 301 + tu * 100 + q * 14 ∧ v15 = .int .u64 (S : Int) ∧ SuAll X y1 wr2 d go k o vls vgs cp xp cr xs S (dnS xp) ∧ TurnQ d xp tu q) (fun _ v21 _ => K - (intOf v21).toNat)
            case atStart => exact ⟨0, k, o, cp, xp, S, rfl, Nat.zero_le _, by omega, rfl, hA, HT.out⟩
            case round =>
              clear hA HT
              obtain ⟨q, k, o, cp, xp, S, rfl, hqK, hk, rfl, hA, hT⟩ := hrel
              by_cases hlt : q < K
              · have hq : q < d.K := by rw [HKK.out]; exact hlt
                obtain ⟨ga, ca, gb, cb, gm, cm, hr⟩ := hA.u.a.rows (Nat.lt_of_le_of_lt (Nat.zero_le q) hq)
                have hsee := hA.u.a.see hr hq
                have c2 := hsee.c2
                have c4 := hsee.c4
                have ra := hsee.ra
                rw [HKK.out] at c2 c4
                have ov := hA.v.cs q hq
                have HA := hide hA
                have HT := hide hT
                have HR := hide hr
                have HH0 := hide (hold_any C hA.u.a hq (hA.u.rp q hq))
                obtain ⟨pv, HPV⟩ : ∃ pv, Hid (ptrV (d.fa q) = pv) := ⟨_, rfl⟩
                rw [HPV.out] at ra HH0
                obtain ⟨dq, HDQ⟩ : ∃ b, Hid (dnS xp q = b) := ⟨_, rfl⟩
                rw [HDQ.out] at ov
                have hqI : (q : Int) < (K : Int) := by omega
                clear hA hT hr hsee
                cases dq with
                | true =>
                  have HT2 := hide (HT.out.pass (fun _ => dn_holds HDQ.out) (fun _ => HDQ.out))
                  clear HH0 HT
                  go_wp2
                  go_roundw
                  case rel => first | exact ⟨q + 1, k, o, cp, xp, S, by go_num, by omega, by omega, rfl, HA.out, HT2.out⟩ | ((repeat apply Exists.intro); exact ⟨⟨q + 1, k, o, cp, xp, S, by go_num, by omega, by omega, rfl, HA.out, HT2.out⟩, rfl⟩)
                  case measure => simp [intOf]; omega
                | false =>
                  by_cases ht0 : tu = 0
                  · subst ht0
                    obtain ⟨hb, HHB⟩ : ∃ b, Hid ((xp q).holds = b) := ⟨_, rfl⟩
                    rw [HHB.out] at HH0
                    cases hb with
                    | false =>
                      have HT2 := hide (HT.out.pass (fun _ => HHB.out) (fun e => absurd e (by decide)))
                      clear HT
                      go_wp2_with fail
                      refine HH0.out.mono ?_
                      rintro e z1 ⟨rfl, bz⟩
                      have HA2 := hide (HA.out.below C bz)
                      clear HA bz HH0 c2 c4 ra ov
                      go_wp2
                      go_roundw
                      case rel => first | exact ⟨q + 1, k, o, cp, xp, S, by go_num, by omega, by omega, rfl, HA2.out, HT2.out⟩ | ((repeat apply Exists.intro); exact ⟨⟨q + 1, k, o, cp, xp, S, by go_num, by omega, by omega, rfl, HA2.out, HT2.out⟩, rfl⟩)
                      case measure => simp [intOf]; omega
                    | true =>
                      go_wp2_with fail
                      refine HH0.out.mono ?_
                      rintro e z1 ⟨rfl, bz⟩
                      have HA2 := hide (HA.out.below C bz)
                      have HRS : Hid (RunQ S (xs q).n 0 0 cp (xp q) S) := run_start HDQ.out (.inl HHB.out)
                      clear HA bz HH0 c2 c4 ra ov
                      go_wp2
                      go_loopw [22, 23] (fun v22 v23 wr3 => ∃ (jj k' r : Nat) (o' : Nat → Nat) (cp' : Ce) (xp' : Nat → Wk) (S' : Nat), v23 = .int .i64 (jj : Int) ∧ jj ≤ 7 ∧ v22 = .int .i64 (r : Int) ∧ k' ≤ k + jj ∧ SuAll X y1 wr3 d go k' o' vls vgs cp' xp' cr xs S' (dnS xp) ∧ (∀ i, i ≠ q → xp' i = xp i) ∧ RunQ S (xs q).n r jj cp' (xp' q) S') (fun _ v23 _ => 12 - (intOf v23).toNat)
                      case atStart => exact ⟨0, k, 0, o, cp, xp, S, rfl, by omega, rfl, by omega, HA2.out, fun _ _ => rfl, HRS.out⟩
                      case round =>
                        clear HA2 HRS
                        obtain ⟨jj, k', r, o', cp', xp', S', rfl, hjj, rfl, hk', hA3, hoth, hrun⟩ := hrel
                        have hj12 : (jj : Int) < 12 := by omega
                        rcases hrun with ⟨e1, e2, e3, e4, e5⟩ | ⟨e1, e2, e3⟩
                        · have hr : ((r : Int) != 2) = true := by rw [bne_iff_ne]; omega
                          have HRQ := hide (run_step (S0 := S) (nq := (xs q).n) hA3.u.s hq (hA3.u.nn q hq) e2 e3 e4 e5)
                          have HMV := hide (sa_move C hA3 hq (by omega))
                          have HOT : Hid (∀ x i, i ≠ q → wkUpd xp' q x i = xp i) := fun x i hi => by rw [wkUpd_ne hi]; exact hoth i hi
                          have HJ6 : Hid (jj + 1 ≤ 7) := by unfold Hid; omega
                          clear hA3 e1 e2 e3 e4 e5 hoth
                          obtain ⟨r2, HR2⟩ : ∃ r2, Hid ((wkMove cp' (xp' q)).1 = r2) := ⟨_, rfl⟩
                          rw [HR2.out] at HRQ HMV
                          go_wp2_with fail
                          refine HMV.out.mono ?_
                          rintro e z2 ⟨rfl, o2, hA4⟩
                          have HA4 := hide hA4
                          clear hA4 HMV
                          go_wp2
                          go_roundw
                          case rel => first | exact ⟨jj + 1, k' + 1, r2, o2, _, _, _, by go_num, HJ6.out, rfl, by omega, HA4.out, HOT.out _, by rw [wkUpd_same]; exact HRQ.out⟩ | ((repeat apply Exists.intro); exact ⟨⟨jj + 1, k' + 1, r2, o2, _, _, _, by go_num, HJ6.out, rfl, by omega, HA4.out, HOT.out _, by rw [wkUpd_same]; exact HRQ.out⟩, rfl⟩)
                          case measure => simp [intOf]; omega
                        · subst e1
                          have HT2 := hide (HT.out.run hoth e2)
                          have fv := hA3.v.fs q hq
                          have hov := hA3.v.cs q hq
                          have hset := (hA3.set C q true).tell e3 (fun i _ => dn_run hoth e2 i)
                          have hsee := hA3.u.a.see HR.out hq
                          have c4z := hsee.c4
                          rw [HKK.out] at c4z
                          have rmz := hsee.rm
                          have hcn : World.cell? _ ⟨d.q q, 2, none⟩ = some (Value.int .u64 ((xs q).n : Int)) := (hA3.u.a.r.rf q hq).cs 2 (by omega)
                          obtain ⟨nj, HNJ⟩ : ∃ nj, Hid ((xs q).n = nj) := ⟨_, rfl⟩
                          rw [HNJ.out] at hcn hset
                          obtain ⟨S2, HS2⟩ : ∃ S2, Hid (sumW S nj = S2) := ⟨_, rfl⟩
                          have hsm : IntKind.u64.wrap ((S : Int) + (nj : Int)) = (S2 : Int) := by rw [IntKind.wrap_u64, ← HS2.out, sumW]; omega
                          rw [HS2.out] at hset
                          have HE := hide hset
                          have HK7 : Hid (k' ≤ k + 7) := by unfold Hid; omega
                          clear hA3 hsee hset hoth e2 e3
                          go_wp2
                          go_roundw
                          case rel => first | exact ⟨q + 1, k', o', cp', xp', S2, by go_num, by omega, by have := HK7.out; omega, rfl, HE.out, HT2.out⟩ | ((repeat apply Exists.intro); exact ⟨⟨q + 1, k', o', cp', xp', S2, by go_num, by omega, by have := HK7.out; omega, rfl, HE.out, HT2.out⟩, rfl⟩)
                          case measure => simp [intOf]; omega
                  · have ht1 : tu = 1 := by omega
                    subst ht1
                    have HA2 := HA
                    have HRS : Hid (RunQ S (xs q).n 0 0 cp (xp q) S) := run_start HDQ.out (.inr (su_free HA.out.u.s (HT.out.2 rfl).1))
                    clear HA HH0
                    go_wp2
                    go_loopw [22, 23] (fun v22 v23 wr3 => ∃ (jj k' r : Nat) (o' : Nat → Nat) (cp' : Ce) (xp' : Nat → Wk) (S' : Nat), v23 = .int .i64 (jj : Int) ∧ jj ≤ 7 ∧ v22 = .int .i64 (r : Int) ∧ k' ≤ k + jj ∧ SuAll X y1 wr3 d go k' o' vls vgs cp' xp' cr xs S' (dnS xp) ∧ (∀ i, i ≠ q → xp' i = xp i) ∧ RunQ S (xs q).n r jj cp' (xp' q) S') (fun _ v23 _ => 12 - (intOf v23).toNat)
                    case atStart => exact ⟨0, k, 0, o, cp, xp, S, rfl, by omega, rfl, by omega, HA2.out, fun _ _ => rfl, HRS.out⟩
                    case round =>
                      clear HA2 HRS
                      obtain ⟨jj, k', r, o', cp', xp', S', rfl, hjj, rfl, hk', hA3, hoth, hrun⟩ := hrel
                      have hj12 : (jj : Int) < 12 := by omega
                      rcases hrun with ⟨e1, e2, e3, e4, e5⟩ | ⟨e1, e2, e3⟩
                      · have hr : ((r : Int) != 2) = true := by rw [bne_iff_ne]; omega
                        have HRQ := hide (run_step (S0 := S) (nq := (xs q).n) hA3.u.s hq (hA3.u.nn q hq) e2 e3 e4 e5)
                        have HMV := hide (sa_move C hA3 hq (by omega))
                        have HOT : Hid (∀ x i, i ≠ q → wkUpd xp' q x i = xp i) := fun x i hi => by rw [wkUpd_ne hi]; exact hoth i hi
                        have HJ6 : Hid (jj + 1 ≤ 7) := by unfold Hid; omega
                        clear hA3 e1 e2 e3 e4 e5 hoth
                        obtain ⟨r2, HR2⟩ : ∃ r2, Hid ((wkMove cp' (xp' q)).1 = r2) := ⟨_, rfl⟩
                        rw [HR2.out] at HRQ HMV
                        go_wp2_with fail
                        refine HMV.out.mono ?_
                        rintro e z2 ⟨rfl, o2, hA4⟩
                        have HA4 := hide hA4
                        clear hA4 HMV
                        go_wp2
                        go_roundw
                        case rel => first | exact ⟨jj + 1, k' + 1, r2, o2, _, _, _, by go_num, HJ6.out, rfl, by omega, HA4.out, HOT.out _, by rw [wkUpd_same]; exact HRQ.out⟩ | ((repeat apply Exists.intro); exact ⟨⟨jj + 1, k' + 1, r2, o2, _, _, _, by go_num, HJ6.out, rfl, by omega, HA4.out, HOT.out _, by rw [wkUpd_same]; exact HRQ.out⟩, rfl⟩)
                        case measure => simp [intOf]; omega
                      · subst e1
                        have HT2 := hide (HT.out.run hoth e2)
                        have fv := hA3.v.fs q hq
                        have hov := hA3.v.cs q hq
                        have hset := (hA3.set C q true).tell e3 (fun i _ => dn_run hoth e2 i)
                        have hsee := hA3.u.a.see HR.out hq
                        have c4z := hsee.c4
                        rw [HKK.out] at c4z
                        have rmz := hsee.rm
                        have hcn : World.cell? _ ⟨d.q q, 2, none⟩ = some (Value.int .u64 ((xs q).n : Int)) := (hA3.u.a.r.rf q hq).cs 2 (by omega)
                        obtain ⟨nj, HNJ⟩ : ∃ nj, Hid ((xs q).n = nj) := ⟨_, rfl⟩
                        rw [HNJ.out] at hcn hset
                        obtain ⟨S2, HS2⟩ : ∃ S2, Hid (sumW S nj = S2) := ⟨_, rfl⟩
                        have hsm : IntKind.u64.wrap ((S : Int) + (nj : Int)) = (S2 : Int) := by rw [IntKind.wrap_u64, ← HS2.out, sumW]; omega
                        rw [HS2.out] at hset
                        have HE := hide hset
                        have HK7 : Hid (k' ≤ k + 7) := by unfold Hid; omega
                        clear hA3 hsee hset hoth e2 e3
                        go_wp2
                        go_roundw
                        case rel => first | exact ⟨q + 1, k', o', cp', xp', S2, by go_num, by omega, by have := HK7.out; omega, rfl, HE.out, HT2.out⟩ | ((repeat apply Exists.intro); exact ⟨⟨q + 1, k', o', cp', xp', S2, by go_num, by omega, by have := HK7.out; omega, rfl, HE.out, HT2.out⟩, rfl⟩)
                        case measure => simp [intOf]; omega
              · have e : q = K := by omega
                subst e
                have c4 := hA.u.a.s.c4
                obtain ⟨am5, cm5, em5, _⟩ := own_slice hA.u.a.s.om
                rw [em5, HKK.out] at c4
                have HAX := hide hA
                have HHN : Hid (∀ j, j < d.K → (xp j).holds = false) := by
                  by_cases ht0 : tu = 0
                  · exact fun j hj => hT.1 ht0 j (by rw [← HKK.out]; exact hj)
                  · exact (hT.2 (by omega)).1
                have HDN : Hid (2 ≤ tu + 1 → ∀ j, j < d.K → (xp j).dn = true) := fun e j hj => (hT.2 (by omega)).2 j (by rw [← HKK.out]; exact hj)
                clear hA hT em5
                go_wp2
                go_roundw
                case rel => first | exact ⟨tu + 1, k, o, cp, xp, S, by go_num, by omega, by omega, rfl, HAX.out, fun _ => HHN.out, HDN.out⟩ | ((repeat apply Exists.intro); exact ⟨⟨tu + 1, k, o, cp, xp, S, by go_num, by omega, by omega, rfl, HAX.out, fun _ => HHN.out, HDN.out⟩, rfl⟩)
                case measure => simp [intOf]; omega
          · have hte : tu = 2 := by omega
            subst hte
            have hlk := su_free hA.u.s (hno (by omega))
            have hcl := hA.u.s.fr hlk
            have HWD := hide (sc_words hA.u.a (by rw [hA.u.n1]; exact hA.u.cl))
            rw [hcl, hA.u.n1] at HWD
            have HBE := hide (HBY.out.trans (hA.u.bel.mono HBY.out.size))
            clear hA hno hdn hlk hcl
            go_wp2_with fail
            refine HWD.out.mono ?_
            rintro e z1 ⟨ao1, cap1, rfl, hsl, bz⟩
            obtain ⟨b1, off1, rfl, hc1⟩ := hsl 0 (by omega)
            have HBZ := hide (HBE.out.trans (bz.mono HBE.out.size))
            simp only [Nat.add_zero] at hc1
            have hc2 : z1.cell? ⟨b1, off1, none⟩ = some (.int .u64 (S : Int)) := hc1
            clear hsl hc1 bz HWD HBE
            go_wp2
            go_ret
            exact ⟨rfl, HBZ.out⟩
end Go.Proofs.Ytikpphbgjbfddaa
