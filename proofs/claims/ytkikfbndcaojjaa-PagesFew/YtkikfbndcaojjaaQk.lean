/- The law's does: Fill. -/
import Derived.Test.YtkikfbndcaojjaaQj
namespace Go.Proofs.Ytkikfbndcaojjaa
open Go.RowKit
section
variable {B D t m n : Nat} {bits : Int} {c : Nat} {F : Nat → Option Pg} {K : List (Nat × Nat)} {V : Nat → Nat → Int} {w : World}
theorem RbIs.sameV {M : Nat → Prop} {vl : Value} {V' : Nat → Nat → Int} (h : RbIs w M m n bits K V vl) (e : ∀ x ∈ K, ∀ j, j < sizeN bits → V x.2 j = V' x.2 j) : RbIs w M m n bits K V' vl :=
  ⟨h.c0, h.c1, h.c2, h.f2, h.hn, h.hb, h.own, h.sm, h.sv, h.wd, fun x hx j hj => by rw [← e x hx j hj]; exact h.ws x hx j hj, h.nd⟩
set_option maxRecDepth 10000 in
set_option maxHeartbeats 4000000 in
theorem does_7 (h : Bo B D t m n bits c F K V w) (x : AcP) (hx : AcPOk w x) (hlow : 0 < x.ll → ∀ g off, x.lo = some ⟨g, off, none⟩ → g < B) (hk : x.kd = 7) :
    Calls Try.prog 9 #[.pointer (some ⟨t, 0, none⟩), .pointer (some ⟨m, 0, none⟩), .agg #[.int .i64 x.kd, .int .i64 x.pg, .int .u64 (x.a : Int), .int .i64 x.n, .int .u64 x.old, .int .u64 x.wd, .slice x.lo x.ll x.lc]] w (DoesE B t m n bits c w) := by
  have hB := h.size
  have h1 := h.other (actO x)
  have a1 := act_made w x
  have hb1 := (Below.refl w.heap.size w).alloc (Nat.le_refl _) (actO x)
  have ha := hx.a
  have hD : ¬ Ow B w.heap.size w.heap.size := fun e => e.2 rfl
  have hrun0 := run_any h1 x.a hx.a 1
  have hll := hx.ll
  have hsl := hx.sl.below hb1
  clear hx
  obtain ⟨kd, pg, a, nn, old, wd, lo, ll, lc, z⟩ := x
  simp only at hk ha hrun0 hll hsl hlow
  subst hk
  simp only [actO] at *
  have HA := hide a1
  have HB1 := hide hb1
  obtain ⟨c0, cc1, c2, -, -, -, c6⟩ := a1
  simp only [Nat.zero_add] at c0 cc1 c2 c6
  obtain ⟨S, M, vl, hh, l⟩ := h1
  obtain ⟨fb, g, o, hp⟩ := hh.pb
  have HH := hide hh
  have HL := hide l
  have hsb := sizeN_bounds bits
  have HO0 := hide (Bo.more (⟨S, M, vl, hh, l⟩ : Bo B _ t m n bits c F K V _) (Nat.le_succ c))
  have HLW := hide hlow
  clear h hb1 hlow
  unfold DoesE
  by_cases h600 : 600 < ll
  · clear hh hp l hsl
    have hl6 : (600 : Int) < (ll : Int) := by omega
    go_enter Try.func9, Try.ntmps9
    go_wp2_with fail
    refine hrun0.mono ?_
    rintro e y ⟨i', at', er0, rfl, rfl⟩
    go_wp2
    go_ret
    exact ⟨rfl, ⟨_, _, _, _, HO0.out⟩, HB1.out.mono hB⟩
  have hl6 : ¬ (600 : Int) < (ll : Int) := by omega
  rcases ad_or n bits F a with ⟨v, hM, hF⟩ | hno
  · obtain ⟨i, hi, e1, e2, hv⟩ := l.here hF
    have hoff := off_lt bits a hp.hb
    have hrm := off_room bits a hp.hb hM
    cases hft : fitsB bits a (ll : Int)
    · have hrun := rb_run_arg hh.rb a hM i hi e1 e2 (ll : Int) hft
      have hst := pb_fill_arg hp a hM v hF ll lc hft lo
      clear hh hp l hsl
      go_enter Try.func9, Try.ntmps9
      go_wp2_with fail
      refine hrun0.mono ?_
      rintro e y ⟨i', at', er0, rfl, rfl⟩
      go_wp2_with fail
      refine hrun.mono ?_
      rintro e y ⟨rfl, rfl⟩
      go_wp2_with fail
      refine hst.mono ?_
      rintro e y1 ⟨rfl, bl1⟩
      have HO : Hid (Bo B _ t m n bits (c + 1) F K V y1) := Bo.more ⟨S, M, vl, HH.out.below bl1, HL.out⟩ (Nat.le_succ c)
      have HB2 := hide ((HB1.out.mono hB).trans (bl1.mono HH.out.size))
      have q6 := (HA.out.below bl1).c6
      simp only [Nat.zero_add] at q6
      clear hst hrun hrun0 c0 cc1 c2 c6 HA bl1 HH HO0
      go_wp2
      go_loop [19] (fun vi => vi = .int .i64 0) (fun _ => 0)
      case atStart => rfl
      case round =>
        subst hrel
        by_cases hl0 : 0 < ll
        · go_wp2
          go_ret
          exact ⟨rfl, ⟨_, _, _, _, HO.out⟩, HB2.out⟩
        · obtain rfl : ll = 0 := by omega
          go_wp2
          go_ret
          exact ⟨rfl, ⟨_, _, _, _, HO.out⟩, HB2.out⟩
    · have hn1 : 1 ≤ ll ∧ ll ≤ roomN bits a := by unfold fitsB at hft; simp at hft; omega
      have hkr : offN bits a + ll ≤ sizeN bits := by omega
      have hrun := rb_run_yes hh.rb a hM i hi e1 e2 (ll : Int) hft
      have hst := pb_fill_yes hp a hM v hF ll lc hft lo z hsl (fun h0 b off e hS => by have := HLW.out h0 b off e; have := (HH.out.sb b hS).1; omega)
      have HSL := hide hsl
      clear hh hp l e2 hft hrm hsl
      obtain ⟨q, hq⟩ : ∃ q, q = offN bits a := ⟨_, rfl⟩
      rw [← hq] at hrun hst hoff hkr
      clear hq
      go_enter Try.func9, Try.ntmps9
      go_wp2_with fail
      refine hrun0.mono ?_
      rintro e y ⟨i', at', er0, rfl, rfl⟩
      go_wp2_with fail
      refine hrun.mono ?_
      rintro e y ⟨rfl, rfl⟩
      go_wp2_with fail
      refine hst.mono ?_
      rintro e y1 ⟨rfl, hp1, kk1⟩
      obtain ⟨hh1, kk2⟩ := HH.out.prog kk1 ⟨_, _, _, hp1⟩ (fun k hs => .inl hs)
      have HA1 := hide (HA.out.keep kk2 hD)
      have HH1 := hide hh1
      have HR0 : Hid (RbIs y1 M m n bits K (updB V (getK K i).2 (fillV (V (getK K i).2) q 0 z)) vl) := hh1.rb.sameV (fun x hx j hj => by
        simp only [updB]
        split
        · rename_i e; rw [e]; simp [fillV]; omega
        · rfl)
      have HZ : Hid (∀ W, Keeps M y1 W → ∀ k, k < ll → ∃ g off, lo = some ⟨g, off, none⟩ ∧ W.cell? ⟨g, off + k, none⟩ = some (.int .u64 (z k)) ∧ ¬ M g) := fun W hW k hk => by
        obtain ⟨g, off, e, hc⟩ := HSL.out k hk
        have hgB := HLW.out (by omega) g off e
        have hnM : ¬ M g := fun hm => by have := (HH1.out.mb g hm).1; omega
        have hlt := World.block_lt_of_cell? _ _ hc
        refine ⟨g, off, e, ?_, hnM⟩
        rw [hW.cell (Nat.lt_of_lt_of_le hlt kk2.size) hnM, kk2.cell hlt (fun ho => by have := ho.1; simp only at this; omega)]
        exact hc
      have HB2 := hide ((HB1.out.mono hB).trans (kk2.below (by have := HB1.out.size; omega) (fun k hk => hk.1)))
      have HEND : Hid (∀ W, Keeps M y1 W → RbIs W M m n bits K (updB V (getK K i).2 (fillV (V (getK K i).2) q ll z)) vl → (∃ D' F' K' V', Bo B D' t m n bits (c + 1) F' K' V' W) ∧ Below B w W) := fun W hW hr => by
        obtain ⟨h1, h2⟩ := HH1.out.ref hW hr (fun k hs => .inl hs)
        refine ⟨⟨_, _, _, _, _, _, _, h1, HL.out.writes hi e1 hF HH1.out.rb.nd (fun j hj => ?_)⟩, HB2.out.trans (h2.below HH1.out.size (fun k hk => hk.1))⟩
        simp only [fillV]
        split
        · rfl
        · exact (hv j hj).symm
      clear hst hrun hrun0 c0 cc1 c2 c6 HA HH HO0 hh1 kk1 kk2 hp1 HB1 hv e1 hF
      go_wp2
      go_loopw [19] (fun vi wr => ∃ k : Nat, k ≤ ll ∧ vi = .int .i64 k ∧ Keeps M y1 wr ∧ RbIs wr M m n bits K (updB V (getK K i).2 (fillV (V (getK K i).2) q k z)) vl) (fun vi _ => ll - (intOf vi).toNat)
      case atStart => exact ⟨0, Nat.zero_le _, rfl, Keeps.refl _ _, HR0.out⟩
      case round =>
        obtain ⟨k, hk, rfl, hkp, hr⟩ := hrel
        have q6 := (HA1.out.keep hkp (fun hm => (HH1.out.mb _ hm).2.2 rfl)).c6
        simp only [Nat.zero_add] at q6
        by_cases hlt : k < ll
        · obtain ⟨lg, loff, rfl, hz, hnM⟩ := HZ.out wr hkp k hlt
          have hqk : q + k < sizeN bits := by omega
          obtain ⟨ao, cap, hvl, hcap1, hcap2, hcells⟩ := hr.form
          have d2 := hr.c2
          rw [hvl] at d2
          obtain ⟨gg, rfl, hog, -, r1⟩ := hcells i hi
          obtain ⟨r2, r3⟩ := hr.ws _ (getK_mem hi) (q + k) hqk
          obtain ⟨sM, n1, n2, -⟩ := hr.wd _ (getK_mem hi)
          have n3 : gg ≠ (getK K i).2 := fun e => n2 (by rw [← e]; exact hog)
          have n4 : w.heap.size ≠ (getK K i).2 := fun e => (HH1.out.mb _ sM).2.2 e.symm
          have n5 : lg ≠ (getK K i).2 := fun e => hnM (by rw [e]; exact sM)
          have b3 := below_drewN (Below.refl wr.heap.size wr) 1
          obtain ⟨hw1, hw2⟩ := (hr.below b3).setWord i hi (q + k) hqk (z k)
          have HN : Hid (RbIs ((wr.drewN 1).setCell ⟨(getK K i).2, q + k, none⟩ (.int .u64 (z k))) M m n bits K (updB V (getK K i).2 (fillV (V (getK K i).2) q (k + 1) z)) vl) := hw1.sameV (fun x hx j hj => by
            simp only [updB]
            by_cases e : x.2 = (getK K i).2
            · simp only [if_pos e, if_true, updV, fillV]
              by_cases e2 : j = q + k
              · subst e2; rw [if_pos rfl, if_pos (by omega), Nat.add_sub_cancel_left]
              · rw [if_neg e2]
                by_cases e3 : q ≤ j ∧ j < q + k
                · rw [if_pos e3, if_pos (by omega)]
                · rw [if_neg e3, if_neg (by omega)]
            · simp only [if_neg e])
          have HK2 : Hid (Keeps M y1 ((wr.drewN 1).setCell ⟨(getK K i).2, q + k, none⟩ (.int .u64 (z k)))) := (hkp.drewN 1).trans hw2 (fun _ _ t => t)
          have hSa : (wr.drewN 1).cell? ⟨m, 2, none⟩ = some (.slice (some ⟨gg, 0, none⟩) K.length cap) ∧ (wr.drewN 1).cell? ⟨gg, i * 2 + 1, none⟩ = some (.slice (some ⟨(getK K i).2, 0, none⟩) (sizeN bits) (sizeN bits)) ∧ (wr.drewN 1).cell? ⟨w.heap.size, 6, none⟩ = some (.slice (some ⟨lg, loff, none⟩) ll lc) ∧ (wr.drewN 1).cell? ⟨lg, loff + k, none⟩ = some (.int .u64 (z k)) := ⟨d2, r1, q6, hz⟩
          have hSb : ((wr.drewN 1).setCell ⟨(getK K i).2, q + k, none⟩ (.int .u64 (z k))).cell? ⟨m, 2, none⟩ = some (.slice (some ⟨gg, 0, none⟩) K.length cap) ∧ ((wr.drewN 1).setCell ⟨(getK K i).2, q + k, none⟩ (.int .u64 (z k))).cell? ⟨gg, i * 2 + 1, none⟩ = some (.slice (some ⟨(getK K i).2, 0, none⟩) (sizeN bits) (sizeN bits)) ∧ ((wr.drewN 1).setCell ⟨(getK K i).2, q + k, none⟩ (.int .u64 (z k))).cell? ⟨w.heap.size, 6, none⟩ = some (.slice (some ⟨lg, loff, none⟩) ll lc) ∧ ((wr.drewN 1).setCell ⟨(getK K i).2, q + k, none⟩ (.int .u64 (z k))).cell? ⟨lg, loff + k, none⟩ = some (.int .u64 (z k)) :=
            ⟨by rw [cell_set_block _ _ _ n1]; exact d2, by rw [cell_set_block _ _ _ (Ne.symm n3)]; exact r1, by rw [cell_set_block _ _ _ (Ne.symm n4)]; exact q6, by rw [cell_set_block _ _ _ (Ne.symm n5)]; exact hz⟩
          clear hcells hvl hr hkp HEND HR0 HZ HH1 HA1 hw1 hw2 b3 n1 n2 n3 n4 n5 hog sM hnM HSL HB2 HLW
          generalize updB V (getK K i).2 (fillV (V (getK K i).2) q k z) (getK K i).2 (q + k) = vv at *
          generalize hlb : (getK K i).2 = lb at *
          generalize hss : sizeN bits = s at *
          generalize hLL : K.length = L at *
          generalize hzz : z k = zk at *
          have hwr : IntKind.i64.wrap ((q : Int) + (k : Int)) = (q : Int) + (k : Int) := by rw [IntKind.wrap_i64]; omega
          have hu0 : (0 : Int) ≤ (q : Int) + (k : Int) := by omega
          have hu1 : (q : Int) + (k : Int) < (s : Int) := by omega
          have hut : ((q : Int) + (k : Int)).toNat = q + k := by omega
          clear hlb hss hLL hzz
          go_wp2
          go_region_held3 (fun W => W.cell? ⟨m, 2, none⟩ = some (.slice (some ⟨gg, 0, none⟩) L cap) ∧ W.cell? ⟨gg, i * 2 + 1, none⟩ = some (.slice (some ⟨lb, 0, none⟩) s s) ∧ W.cell? ⟨w.heap.size, 6, none⟩ = some (.slice (some ⟨lg, loff, none⟩) ll lc) ∧ W.cell? ⟨lg, loff + k, none⟩ = some (.int .u64 zk)) (first | assumption | go_keep) (fail)
          all_goals
            go_wp2
            go_roundw
            case rel => exact ⟨k + 1, by omega, by go_num, HK2.out, HN.out⟩
            case measure => simp [intOf]; omega
        · obtain rfl : ll = k := by omega
          have HE := hide (HEND.out wr hkp hr)
          clear HEND hkp hr HZ HH1 HR0
          go_wp2
          go_ret
          exact ⟨rfl, HE.out.1, HE.out.2⟩
  · have hrun := rb_run_no hh.rb a ha (fun hM j hj e => l.goneN (hno hM) j hj e) (ll : Int)
    have hst := pb_fill_no hp a ha hno ll lc lo
    clear hh hp l hsl
    go_enter Try.func9, Try.ntmps9
    go_wp2_with fail
    refine hrun0.mono ?_
    rintro e y ⟨i', at', er0, rfl, rfl⟩
    go_wp2_with fail
    refine hrun.mono ?_
    rintro e y ⟨rfl, rfl⟩
    go_wp2_with fail
    refine hst.mono ?_
    rintro e y1 ⟨rfl, bl1⟩
    have HO : Hid (Bo B _ t m n bits (c + 1) F K V y1) := Bo.more ⟨S, M, vl, HH.out.below bl1, HL.out⟩ (Nat.le_succ c)
    have HB2 := hide ((HB1.out.mono hB).trans (bl1.mono HH.out.size))
    have q6 := (HA.out.below bl1).c6
    simp only [Nat.zero_add] at q6
    clear hst hrun hrun0 c0 cc1 c2 c6 HA bl1 HH HO0
    go_wp2
    go_loop [19] (fun vi => vi = .int .i64 0) (fun _ => 0)
    case atStart => rfl
    case round =>
      subst hrel
      by_cases hl0 : 0 < ll
      · go_wp2
        go_ret
        exact ⟨rfl, ⟨_, _, _, _, HO.out⟩, HB2.out⟩
      · obtain rfl : ll = 0 := by omega
        go_wp2
        go_ret
        exact ⟨rfl, ⟨_, _, _, _, HO.out⟩, HB2.out⟩
end
end Go.Proofs.Ytkikfbndcaojjaa
