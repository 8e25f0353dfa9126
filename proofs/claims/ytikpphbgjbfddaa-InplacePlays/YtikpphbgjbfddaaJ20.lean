/- Parts of the proof: Jx. -/
import Derived.Test.YtikpphbgjbfddaaJ8
import Derived.Test.YtikpphbgjbfddaaJ19
import Derived.Deep.CutBlock
import Derived.Deep.DeepCutAuto
namespace Go.Proofs.Ytikpphbgjbfddaa
set_option maxRecDepth 20000
open Go.RowKit
set_option maxRecDepth 10000 in
set_option maxHeartbeats 8000000 in
theorem plays_any {X : InPred} (C : InProg X) (s : ByteArray) (hsz : s.size ≤ 9223372036854775807) {w : World} {ao am : Option Addr} {n cap nm capm : Nat} {z : Nat → Ow} {mz : Nat → Int} (hz : Ows w ao n z) (hm : Sl .u8 w am nm mz) (hmz : ∀ j, j < nm → 0 ≤ mz j ∧ mz j ≤ 255) (_hnm : nm ≤ 9223372036854775807) :
    Calls Try.prog 3 #[.string s, .slice ao n cap, .slice am nm capm] w fun e w' => e = .returned (.bool true) ∧ Below w.heap.size w w' := by
  by_cases hs : s.size ≤ 128
  · have HAW := hide (awake18 C w)
    have HZ := hide hz
    have HM := hide hm
    have HMZ := hide hmz
    have HB0 : Hid (∀ y, Below w.heap.size w y → Ows y ao n z) := fun y hb => HZ.out.below hb
    have HOP : Hid (∀ y, Below w.heap.size w y → _) := fun y hb => sc_open C s hs (cap := cap) (HB0.out y hb)
    have hs' : ¬ (128 : Int) < (s.size : Int) := by omega
    clear hz hm hmz
    go_enter Try.func3, Try.ntmps3
    go_wp2_with fail
    refine HAW.out.mono ?_
    rintro e y0 ⟨rfl, b0⟩
    have HOP0 := hide (HOP.out y0 b0)
    go_wp2_with fail
    refine HOP0.out.mono ?_
    rintro e y1 ⟨d, rfl, hop⟩
    obtain ⟨k, o, vls, vgs, xs, hP, hk, hK, hdn, _, _⟩ := PlOk.start hop
    have HP := hide hP
    have HY0 := hide b0
    have HDN := hide hdn
    have c4 := hP.a.s.c4
    obtain ⟨am4, cm4, em4, _⟩ := own_slice hP.a.s.om
    rw [em4] at c4
    clear hP hop HOP0 HOP HAW b0 hdn
    go_wp2
    go_loopw [9] (fun vi wr => ∃ (i k : Nat) (o : Nat → Nat) (vls vgs : Nat → Value) (c : Ce) (xs : Nat → Wk), vi = .int .i64 (i : Int) ∧ i ≤ 300 ∧ k ≤ i + 1 ∧ PlOk X y0 wr d k o vls vgs c xs) (fun vi _ => 300 - (intOf vi).toNat)
    case atStart => exact ⟨0, k, o, vls, vgs, _, xs, rfl, by omega, by omega, HP.out⟩
    case round =>
      clear HP c4 em4
      obtain ⟨i, k, o, vls, vgs, c, xs, rfl, hi, hk', hP⟩ := hrel
      by_cases hlt : i < nm ∧ i < 300 ∧ 0 < d.K
      · obtain ⟨h1, h2, h3⟩ := hlt
        obtain ⟨ga, ca, gb, cb, gm, cm, hr⟩ := hP.a.rows h3
        obtain ⟨bm, offm, ham, hcm⟩ := HM.out.below (HY0.out.trans (hP.bel.mono HY0.out.size)) i h1
        obtain ⟨mi, hmi⟩ : ∃ mi : Nat, mz i = (mi : Int) := ⟨(mz i).toNat, by have := HMZ.out i h1; omega⟩
        have hmb : mi ≤ 255 := by have := HMZ.out i h1; omega
        rw [hmi] at hcm
        subst ham
        obtain ⟨j, HJ⟩ : ∃ j, Hid (mi % d.K = j) := ⟨_, rfl⟩
        have hj : j < d.K := by rw [← HJ.out]; exact Nat.mod_lt _ h3
        have hSee := hP.a.see hr hj
        have c4 := hSee.c4
        have q1 : (i : Int) < (nm : Int) := by omega
        have q2 : (i : Int) < 300 := by omega
        have q3 : (0 : Int) < (d.K : Int) := by omega
        have q4 : ¬ (d.K : Int) = 0 := by omega
        have q5 : (mi : Int).tmod (d.K : Int) = (j : Int) := by
          rw [Int.tmod_eq_emod_of_nonneg (by omega), ← HJ.out]; simp
        have q6 : IntKind.i64.wrap (j : Int) = (j : Int) := IntWalk.i64_in _ (by omega)
        have q7 : wrap64 (mi : Int) = (mi : Int) := IntWalk.wrap64_in _ (by omega)
        have q8 : ((d.K : Int) == 0) = false := by rw [beq_eq_false_iff_ne]; omega
        have HP := hide hP
        have HR := hide hr
        have HSee := hide hSee
        clear hP hr hSee hmi
        obtain ⟨K, HKK⟩ : ∃ K, Hid (d.K = K) := ⟨_, rfl⟩
        rw [HKK.out] at c4 q3 q4 q5 q8
        go_wp2_with fail
        go_quiet ((fail))
        have HP1 := hide (HP.out.below C (below_drewN (Below.refl wr.heap.size wr) nq))
        clear c4 hcm q1 q2 q3 q4 q5 q6 q7 q8 HP HSee
        generalize wr.drewN nq = y2 at *
        obtain ⟨⟨r, c2, x2⟩, HW⟩ : ∃ p, Hid (wkMove c (xs j) = p) := ⟨_, rfl⟩
        have HMV0 := sc_move C HP1.out.a hj HP1.out.s.ce (HP1.out.s.wk j hj) (HP1.out.rd j hj) (HP1.out.rd j hj) (by omega) (fun hh => ⟨HP1.out.s.lk.2 ⟨j, hj, hh⟩, HP1.out.s.tk j hj hh⟩)
        rw [HW.out] at HMV0
        have HMV := hide HMV0
        clear HMV0
        go_wp2_with fail
        refine HMV.out.mono ?_
        rintro e y3 ⟨rfl, hA1, k1⟩
        have hN16 := HP1.out.a.p.buf.few
        have hBy := Nat.le_trans HP1.out.bel.size k1.size
        have HBW := hide (HP1.out.bel.trans (k1.below HP1.out.bel.size (fun i hi => (HP1.out.a.bs.ge i (by omega)).1)))
        have hA1d := hA1.below C (below_drewN (Below.refl y3.heap.size y3) 1)
        have hc2 : c2.l.length = d.N := by
          have := (wk_keeps HP1.out.s.ce (HP1.out.s.wk j hj)).1.len
          rw [HW.out] at this; exact this
        have hc1 : c.l.length = d.N := HP1.out.s.ce.len
        obtain ⟨av, cv, ev, _⟩ := own_slice hA1.r.ce.own
        rw [hc1] at ev
        have HRM0 := rm_move (hA1d.r.both hj) hBy HP1.out.s.ce (HP1.out.s.wk j hj) (by omega)
        rw [HW.out] at HRM0
        have HRM := hide HRM0
        have HQ : Hid (∀ z, RmIs (y3.drewN 1) z y0.heap.size d.m d.v c2 (d.q j) (vls j) (vgs j) x2 → ∃ vls2 vgs2 o2, ScA X z o2 y0.heap.size d (k + 1) vls2 vgs2 c2 (wkUpd xs j x2) c2 (wkUpd xs j x2) ∧ Below y0.heap.size y0 z) := fun z hm => by
          obtain ⟨vls2, vgs2, h2, k2⟩ := hA1d.ref C hj hm
          exact ⟨vls2, vgs2, _, h2, (HBW.out.trans ((below_drewN (Below.refl y3.heap.size y3) 1).mono hBy)).trans (k2.below hBy (fun i hi => (hA1d.bs.ge i (by omega)).1))⟩
        have hS1 := hA1.seeR HR.out hj HKK.out ev
        have HA1 := hide hA1
        have HEV := hide ev
        have hr0 : ((r : Int) != (r : Int)) = false := by simp
        clear hA1 hA1d k1 hBy HRM0 ev hc1
        unfold SeeR at hS1
        obtain ⟨s1, s2, s3, s4⟩ := hS1
        have hjK : (j : Int) < (K : Int) := by have := HKK.out; omega
        have hjK' : j < K := by omega
        go_wp2_with fail
        go_region_held3 (fun W => W.cell? ⟨d.sx, 4, none⟩ = some (.slice (some ⟨gm, 0, none⟩) K cm) ∧ W.cell? ⟨gm, j, none⟩ = some (.pointer (some ⟨d.q j, 0, none⟩)) ∧ W.cell? ⟨d.sx, 1, none⟩ = some (.pointer (some ⟨d.m, 0, none⟩)) ∧ W.cell? ⟨d.m, 2, none⟩ = some (.slice av d.N cv)) (first | assumption | go_keep) (first | (go_at_call 9; refine HRM.out.mono ?_; rintro e y4 ⟨rfl, hm4⟩; obtain ⟨vls2, vgs2, o2, hA2, hb2⟩ := HQ.out y4 hm4; have q4 : _ ∧ _ ∧ _ ∧ _ := hA2.seeR HR.out hj HKK.out HEV.out) | (go_at_call 11; refine (sc_words hA2 hc2).mono ?_; rintro e y5 ⟨a5, c5, rfl, hs5, hb5⟩; have hA3 := hA2.below C hb5; have q5 : _ ∧ _ ∧ _ ∧ _ := hA3.seeR HR.out hj HKK.out HEV.out; have v5 := hA3.value HEV.out hc2) | (go_at_call 10; refine (same_any _ _ _ _ _ _ (fun j => c2.l.getD j 0) (fun j => c2.l.getD j 0) true _ (by omega) (by omega) hs5 v5 (by simp)).mono ?_; rintro e y6 ⟨rfl, m6, rfl⟩))
        have hb6 := (hb2.trans (hb5.mono hb2.size)).trans ((below_drewN (Below.refl y5.heap.size y5) m6).mono (Nat.le_trans hb2.size hb5.size))
        have hA6 := hA3.below C (below_drewN (Below.refl y5.heap.size y5) m6)
        have hP6 := HP1.out.both C hj (w' := y5.drewN m6) (by rw [HW.out]; exact hA6) hb6
        rw [HW.out] at hP6
        have HP6 := hide hP6
        clear hP6 hA6 hb6 hA3 hA2 hb5 hb2 q4 q5 hs5 v5 hm4 s1 s2 s3 s4 HRM HQ HMV HBW HA1 hr0 hc2 HP1
        generalize y5.drewN m6 = y6 at *
        have hx2 : wkUpd xs j x2 j = x2 := wkUpd_same _ _ _
        have hok := HP6.out.s.wk j hj
        have hrdj := HP6.out.rd j hj
        have hrw := HP6.out.a.r.rf j hj
        rw [hx2] at hok hrdj hrw
        have hX := HP6.out.a.p.pr j hj
        rw [hx2] at hX
        have hsee := HP6.out.a.see HR.out hj
        have c4 := hsee.c4
        have rm := hsee.rm
        rw [HKK.out] at c4
        have w0 : y6.cell? ⟨d.q j, 0, none⟩ = some (.bool x2.rd) := hrw.cs 0 (by omega)
        obtain ⟨ry, HRY⟩ : ∃ b, Hid (x2.rd = b) := ⟨_, rfl⟩
        have HXJ := hide hX
        have HOK := hide hok
        have HRW := hide hrw
        have HRD := hide hrdj
        have HSE := hide hsee
        have HNN : Hid (d.N = wordsFor d.n) := HP6.out.nn
        rw [HRY.out] at w0
        clear hX hok hrw hrdj hsee hx2
        -- what is the same behind both ways
        have HEND : Hid (∀ y8, Below y6.heap.size y6 y8 → PlOk X y0 y8 d (k + 1) o2 vls2 vgs2 c2 (wkUpd xs j x2)) := fun y8 hb => HP6.out.below C hb
        have HEM : Hid (x2.dn = true → Empty (fun q => x2.gt.getD q 0) d.n d.N) := fun _ => by
          have := HP6.out.em.2 j hj
          rw [wkUpd_same] at this
          exact this
        have HSX : Hid (∀ y, PlOk X y0 y d (k + 1) o2 vls2 vgs2 c2 (wkUpd xs j x2) → y.cell? ⟨d.sx, 0, none⟩ = some (.pointer (some ⟨d.t, 0, none⟩))) := fun y h => h.a.s.c0
        go_upto_if 104 with fail
        go_cut [13] (fun _ wx => PlOk X y0 wx d (k + 1) o2 vls2 vgs2 c2 (wkUpd xs j x2))
        case first =>
          cases ry with
          | true =>
            have hfa : d.fa j = none := by unfold Sn.fa; rw [if_pos (by rw [← HRD.out, HRY.out])]
            have hfb : d.fb j = some (d.pw j) := by unfold Sn.fb; rw [if_pos (by rw [← HRD.out, HRY.out])]
            have c2y := HSE.out.c2
            have c3y := HSE.out.c3
            have ra := HSE.out.ra
            have rb := HSE.out.rb
            rw [HKK.out] at c2y c3y
            rw [hfa] at ra
            rw [hfb] at rb
            simp only [ptrV] at ra rb
            have w5 : y6.cell? ⟨d.q j, 5, none⟩ = some (.bool x2.dn) := HRW.out.cs 5 (by omega)
            have w7 : y6.cell? ⟨d.q j, 7, none⟩ = some (vgs2 j) := HRW.out.cs 7 (by omega)
            obtain ⟨ag, cg, eg, _⟩ := own_slice HRW.out.og
            rw [eg] at w7
            obtain ⟨dy, HDY⟩ : ∃ b, Hid (x2.dn = b) := ⟨_, rfl⟩
            rw [HDY.out] at w5
            have HVA : Hid (∀ y, Below y6.heap.size y6 y → Calls Try.prog 13 #[.pointer (some ⟨d.pw j, 0, none⟩)] y fun e w' => e = .returned (.string (if dy = true then txtS x2.gt d.n else ⟨#[]⟩)) ∧ Below y.heap.size y w') := fun y hb => by
              have := C.value (C.keep (R := fun _ => False) HXJ.out (Below.keeps hb) (fun _ _ => id)) HRY.out HOK.out HNN.out hN16 HEM.out
              rw [HDY.out] at this; exact this
            have HTX : Hid (dy = true → Calls Try.prog 12 #[.slice ag x2.gt.length cg, .int .i64 (s.size : Int)] y6 fun e w' => e = .returned (.string (txtS x2.gt d.n)) ∧ Below y6.heap.size y6 w') := fun hd => by
              have hmv := HOK.out.rdn HRY.out (by rw [HDY.out]; exact hd)
              have hg := HOK.out.rgt HRY.out (by omega)
              have hgl : x2.gt.length = d.N := by omega
              have hsl : Sl .u64 y6 ag x2.gt.length (fun q => (x2.gt.getD q 0 : Int)) := by
                have ho := HRW.out.og
                rw [eg] at ho
                obtain ⟨a2, c2', e2, hs⟩ := own_slU ho rfl
                cases e2
                intro q hq
                obtain ⟨b', off, e, hc⟩ := hs q hq
                exact ⟨b', off, e, by simp only [List.getD_eq_getElem?_getD]; exact hc⟩
              rw [HDN.out]
              refine rtext_any ag cg x2.gt s.size y6 hsl HOK.out.got (by omega) ?_
              have h1 := HNN.out
              rw [HDN.out] at h1
              unfold wordsFor at h1
              omega
            have HH0 := hide C.holds0
            generalize x2.gt.length = gl at *
            generalize d.q j = dq at *
            clear HXJ HOK HRW HRD HSE eg hfa hfb HP6
            cases dy with
            | true =>
              have HT2 := hide (HTX.out rfl)
              obtain ⟨T, HT⟩ : ∃ T, Hid (txtS x2.gt d.n = T) := ⟨_, rfl⟩
              rw [HT.out] at HT2
              rw [if_pos rfl, HT.out] at HVA
              have hTT : (T.toList == T.toList) = true := by simp
              clear HTX
              go_wp2_with fail
              refine HT2.out.mono ?_
              rintro e y7 ⟨rfl, b7⟩
              have c3z := (b7.cell (p := ⟨d.sx, 3, none⟩) (World.block_lt_of_cell? _ _ c3y)).trans c3y
              have c2z := (b7.cell (p := ⟨d.sx, 2, none⟩) (World.block_lt_of_cell? _ _ c2y)).trans c2y
              have raz := (b7.cell (p := ⟨ga, j, none⟩) (World.block_lt_of_cell? _ _ ra)).trans ra
              have rbz := (b7.cell (p := ⟨gb, j, none⟩) (World.block_lt_of_cell? _ _ rb)).trans rb
              have HV2 := hide (HVA.out y7 b7)
              clear c3y c2y ra rb c4 rm w0 w5 w7 HVA HT2
              go_wp2_with fail
              refine HV2.out.mono ?_
              rintro e y8 ⟨rfl, b8⟩
              have c2v := (b8.cell (p := ⟨d.sx, 2, none⟩) (World.block_lt_of_cell? _ _ c2z)).trans c2z
              have rav := (b8.cell (p := ⟨ga, j, none⟩) (World.block_lt_of_cell? _ _ raz)).trans raz
              clear c2z raz c3z rbz HV2
              go_wp2_with fail
              refine (HH0.out y8).mono ?_
              rintro e y9 ⟨rfl, b9⟩
              have HPE := hide (HEND.out y9 ((b7.trans (b8.mono b7.size)).trans (b9.mono (Nat.le_trans b7.size b8.size))))
              clear b7 b8 b9 c2v rav
              go_wp2
              go_meet
              case rel => exact HPE.out
            | false =>
              have hTT : ((⟨#[]⟩ : ByteArray).toList == (⟨#[]⟩ : ByteArray).toList) = true := by simp
              rw [if_neg (by decide)] at HVA
              have HV2 := hide (HVA.out y6 (Below.refl _ _))
              clear HTX HVA
              go_wp2_with fail
              refine HV2.out.mono ?_
              rintro e y8 ⟨rfl, b8⟩
              have c2v := (b8.cell (p := ⟨d.sx, 2, none⟩) (World.block_lt_of_cell? _ _ c2y)).trans c2y
              have rav := (b8.cell (p := ⟨ga, j, none⟩) (World.block_lt_of_cell? _ _ ra)).trans ra
              clear c2y c3y ra rb c4 rm w0 w5 w7 HV2
              go_wp2_with fail
              refine (HH0.out y8).mono ?_
              rintro e y9 ⟨rfl, b9⟩
              have HPE := hide (HEND.out y9 (b8.trans (b9.mono b8.size)))
              clear b8 b9 c2v rav
              go_wp2
              go_meet
              case rel => exact HPE.out
          | false =>
            have hfa : d.fa j = some (d.pw j) := by unfold Sn.fa; rw [if_neg (by rw [← HRD.out, HRY.out]; decide)]
            have c2y := HSE.out.c2
            have ra := HSE.out.ra
            rw [HKK.out] at c2y
            rw [hfa] at ra
            simp only [ptrV] at ra
            have HHO : Hid (∀ n, Calls Try.prog 14 #[.pointer (some ⟨d.pw j, 0, none⟩)] (y6.drewN n) fun e w' => e = .returned (.bool x2.holds) ∧ Below (y6.drewN n).heap.size (y6.drewN n) w') := fun n => C.holds (C.keep (R := fun _ => False) HXJ.out (Below.keeps (below_drewN (Below.refl _ _) n)) (fun _ _ => id)) HRY.out
            have HRH : Hid (∀ n z, Below (y6.drewN n).heap.size (y6.drewN n) z → Calls Try.prog 15 #[.pointer (some ⟨d.q j, 0, none⟩)] z fun e w' => e = .returned (.bool x2.holds) ∧ ∃ m, w' = z.drewN m) := fun n z hb => rm_holds ((HRW.out.below (below_drewN (Below.refl _ _) n)).below hb)
            obtain ⟨hb, HHB⟩ : ∃ b, Hid (x2.holds = b) := ⟨_, rfl⟩
            rw [HHB.out] at HHO HRH
            have hbb : (hb != hb) = false := by simp
            have hjK2 : (j : Int) < (K : Int) := hjK
            have HSS : Hid (∀ z, Below (y6.drewN 1).heap.size (y6.drewN 1) z → z.cell? ⟨d.sx, 2, none⟩ = some (.slice (some ⟨ga, 0, none⟩) K ca) ∧ z.cell? ⟨ga, j, none⟩ = some (.pointer (some ⟨d.pw j, 0, none⟩)) ∧ z.cell? ⟨d.sx, 4, none⟩ = some (.slice (some ⟨gm, 0, none⟩) K cm) ∧ z.cell? ⟨gm, j, none⟩ = some (.pointer (some ⟨d.q j, 0, none⟩))) := fun z hb => by
              have l1 : d.sx < y6.heap.size := World.block_lt_of_cell? _ _ c2y
              have l2 : ga < y6.heap.size := World.block_lt_of_cell? _ _ ra
              have l3 : gm < y6.heap.size := World.block_lt_of_cell? _ _ rm
              exact ⟨(hb.cell (p := ⟨d.sx, 2, none⟩) l1).trans c2y, (hb.cell (p := ⟨ga, j, none⟩) l2).trans ra, (hb.cell (p := ⟨d.sx, 4, none⟩) l1).trans c4, (hb.cell (p := ⟨gm, j, none⟩) l3).trans rm⟩
            clear HXJ HOK HRW HRD HSE hfa HP6
            generalize d.q j = dq at *
            generalize d.pw j = dp at *
            go_wp2_with fail
            go_region_held3 (fun W => W.cell? ⟨d.sx, 2, none⟩ = some (.slice (some ⟨ga, 0, none⟩) K ca) ∧ W.cell? ⟨ga, j, none⟩ = some (.pointer (some ⟨dp, 0, none⟩)) ∧ W.cell? ⟨d.sx, 4, none⟩ = some (.slice (some ⟨gm, 0, none⟩) K cm) ∧ W.cell? ⟨gm, j, none⟩ = some (.pointer (some ⟨dq, 0, none⟩))) (first | assumption | go_keep) (first | (go_at_call 14; refine (HHO.out 1).mono ?_; rintro e y8 ⟨rfl, b8⟩; have q8 := HSS.out y8 b8) | (go_at_call 15; refine (HRH.out 1 y8 b8).mono ?_; rintro e y9 ⟨rfl, m9, rfl⟩))
            have BB := ((below_drewN (Below.refl y6.heap.size y6) 1).trans (b8.mono (by simp))).trans ((below_drewN (Below.refl y8.heap.size y8) m9).mono (by have := b8.size; simpa using this))
            have HPE := hide (HEND.out (y8.drewN m9) BB)
            clear q8 b8 HHO HRH HSS c2y ra c4 rm w0 BB
            go_wp2
            go_meet
            case rel => exact HPE.out
        case rest =>
          clear HEND HEM HXJ HOK HRW HRD HSE HNN HP6 c4 rm w0 hN16
          have hP9 := hcut
          clear hcut
          generalize wc = y9 at *
          have HLK0 := inb_lock hP9.a.p.buf
          have hlc := hP9.a.r.ce.c0
          have hct := hP9.a.r.ce.c1
          have hc0 := hP9.a.s.c0
          have hc1 := hP9.a.s.c1
          have hctb := hP9.s.ce.ct
          have HP9 := hide hP9
          have HL9 : Hid (∀ z, Below y9.heap.size y9 z → z.cell? ⟨d.sx, 1, none⟩ = some (.pointer (some ⟨d.m, 0, none⟩)) ∧ z.cell? ⟨d.m, 0, none⟩ = some (.bool c2.lk) ∧ z.cell? ⟨d.m, 1, none⟩ = some (.int .u64 (c2.ct : Int))) := fun z hb => ⟨(hb.cell (p := ⟨d.sx, 1, none⟩) (World.block_lt_of_cell? _ _ hc1)).trans hc1, (hb.cell (p := ⟨d.m, 0, none⟩) (World.block_lt_of_cell? _ _ hlc)).trans hlc, (hb.cell (p := ⟨d.m, 1, none⟩) (World.block_lt_of_cell? _ _ hct)).trans hct⟩
          obtain ⟨ci, HCI⟩ : ∃ ci : Int, Hid ((c2.ct : Int) = ci) := ⟨_, rfl⟩
          have hci : 0 ≤ ci ∧ ci < 4294967296 := by rw [← HCI.out]; omega
          obtain ⟨lb, HLB⟩ : ∃ lb, Hid (c2.lk = lb) := ⟨_, rfl⟩
          rw [HLB.out] at HLK0
          obtain ⟨Li, HLI⟩ : ∃ Li : Int, Hid ((((if lb = true then 9223372036854775808 else 0) + c2.ct : Nat) : Int) = Li) := ⟨_, rfl⟩
          rw [HLI.out] at HLK0
          have HLK := hide HLK0
          have hLe : Li = (if lb = true then 9223372036854775808 else 0) + ci := by
            rw [← HLI.out, ← HCI.out]
            cases lb <;> simp
          rw [HLB.out, HCI.out] at HL9
          have HLE := hide hLe
          clear hLe HLK0 hlc hct hc1 hctb hP9
          go_wp2_with fail
          refine HLK.out.mono ?_
          rintro e z9 ⟨rfl, bz9⟩
          obtain ⟨f1, f2, f3⟩ := HL9.out z9 bz9
          have HPZ := hide (HP9.out.below C bz9)
          have hcc : (ci != ci) = false := by simp
          clear HLK HL9 HP9 hc0
          cases lb with
          | true =>
            have g1 : 9223372036854775808 ≤ Li := by have := HLE.out; rw [if_pos rfl] at this; omega
            have g2 : Li.tmod 4294967296 = ci := by
              have := HLE.out
              rw [if_pos rfl] at this
              rw [Int.tmod_eq_emod_of_nonneg (by omega)]; omega
            have g3 : IntKind.u64.wrap ci = ci := IntWalk.u64_in _ (by omega)
            clear HLE hci
            go_wp2
            go_roundw
            case rel => exact ⟨i + 1, k + 1, o2, vls2, vgs2, c2, wkUpd xs j x2, by go_num, by omega, by omega, HPZ.out⟩
            case measure => simp [intOf]; omega
          | false =>
            have g1 : ¬ 9223372036854775808 ≤ Li := by have := HLE.out; rw [if_neg (by decide)] at this; omega
            have g2 : Li.tmod 4294967296 = ci := by
              have := HLE.out
              rw [if_neg (by decide)] at this
              rw [Int.tmod_eq_emod_of_nonneg (by omega)]; omega
            have g3 : IntKind.u64.wrap ci = ci := IntWalk.u64_in _ (by omega)
            clear HLE hci
            go_wp2
            go_roundw
            case rel => exact ⟨i + 1, k + 1, o2, vls2, vgs2, c2, wkUpd xs j x2, by go_num, by omega, by omega, HPZ.out⟩
            case measure => simp [intOf]; omega
      · have c4 := hP.a.s.c4
        obtain ⟨am4, cm4, em4, _⟩ := own_slice hP.a.s.om
        rw [em4] at c4
        have HBX := hide (HY0.out.trans (hP.bel.mono HY0.out.size))
        clear hP em4
        by_cases h1 : i < nm
        · have h1' : (i : Int) < (nm : Int) := by omega
          by_cases h2 : i < 300
          · have h3 : d.K = 0 := by omega
            have h2' : (i : Int) < 300 := by omega
            rw [h3] at c4
            clear hlt
            go_wp2
            go_ret
            exact ⟨rfl, HBX.out⟩
          · have h2' : ¬ (i : Int) < 300 := by omega
            clear hlt
            go_wp2
            go_ret
            exact ⟨rfl, HBX.out⟩
        · have h1' : ¬ (i : Int) < (nm : Int) := by omega
          clear hlt
          go_wp2
          go_ret
          exact ⟨rfl, HBX.out⟩
  · have HAW := hide (awake18 C w)
    have hs' : (128 : Int) < (s.size : Int) := by omega
    clear hz hm hmz
    go_enter Try.func3, Try.ntmps3
    go_wp2_with fail
    refine HAW.out.mono ?_
    rintro e y0 ⟨rfl, b0⟩
    go_wp2
    go_ret
    exact ⟨rfl, b0⟩
end Go.Proofs.Ytikpphbgjbfddaa
