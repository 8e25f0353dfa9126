/- Parts of the proof: Ux. -/
import Derived.Test.YtfghfbmmaclcnaaGreatJ31
import Derived.Test.YtfghfbmmaclcnaaGreatJ32
import Derived.Deep.RegionHeld3
namespace Go.Proofs.YtfghfbmmaclcnaaGreat
set_option maxRecDepth 20000
open Go.RowKit
section
variable {w : World} {o : Nat → Nat} {a : Ad} {b : Rd} {c : Cf} {s : Hs} {k : Nat}
theorem Bt.more (h : Bt w o a b c s k) {k' : Nat} (hk : k ≤ k') : Bt w o a b c s k' := ⟨h.p.more hk, h.r.more hk⟩
theorem Bq.more {w' : World} (h : Bq w o a b c s k w') {k' : Nat} (hk : k ≤ k') : Bq w o a b c s k' w' := by
  obtain ⟨o', g, X, K⟩ := h
  exact ⟨o', g.more hk, X, K⟩
set_option maxRecDepth 10000 in
set_option maxHeartbeats 2000000 in
theorem does_word (h : Bt w o a b c s k) (hc : CfOk c) (x : Al) (A : Nat) (hA : x.a = (A : Int)) (ha : A < 18446744073709551616) (hx : x.kd = 13) :
    Calls Tryz.prog 8 #[.pointer (some ⟨a.l, 0, none⟩), .pointer (some ⟨b.l, 0, none⟩), .agg #[.int .i64 x.kd, .int .i64 x.n, .int .u64 x.a, .int .u64 x.w]] w fun e w' => e = .returned (.bool true) ∧ Bq w o a b c (wordS c s A x.w) (k + 1) w' := by
  have hb0 := (Below.refl w.heap.size w).alloc (Nat.le_refl _) (alO x)
  have hb1 := hb0.trans ((below_drewN (Below.refl _ _) 1).mono hb0.size)
  have a1 := al_made w x
  have c0 := a1.c0
  have c2 := a1.c2
  have c3 := a1.c3
  simp only [hx] at c0
  simp only [Nat.zero_add] at c2 c3
  have h1 := h.below hb1
  obtain ⟨kd, n, av, wv⟩ := x
  simp only at hx hA c2 c3
  subst hx hA
  have HV := hide (hl_pages h1.p)
  have H1 := hide h1
  have hwo : ¬ OwX o w.heap.size := fun e => by have := h.p.sz _ e; omega
  have HWO := hide hwo
  have HWS : Hid (w.heap.size < ((w.alloc (alO ⟨13, n, (A : Int), wv⟩)).drewN 1).heap.size) := by unfold Hid; simp
  have C2 := hide c2
  have C3 := hide c3
  obtain ⟨fb, g, oo, hp⟩ := h1.p.pb
  have hbits := hc.hb
  simp only [alO] at *
  rcases ad_or c.n c.b s.F A with ⟨v, hM, hF⟩ | hno
  · unfold wordS
    rw [wordF_some hM hF]
    simp only
    have hoff := off_lt c.b A hbits
    have HP : Hid (Calls Tryz.prog 53 #[.pointer (some ⟨a.bt, 0, none⟩), .int .u64 (A : Int), .int .u64 wv] ((w.alloc (.cells #[.int .i64 13, .int .i64 n, .int .u64 (A : Int), .int .u64 wv] 34)).drewN 1) fun e w' => e = .returned (.int .i64 0) ∧ Hq ((w.alloc (.cells #[.int .i64 13, .int .i64 n, .int .u64 (A : Int), .int .u64 wv] 34)).drewN 1) o a c { s with F := updF s.F (pageN c.b A % c.n) (some (pageN c.b A, updV v (offN c.b A) wv)) } (k + 1) w') :=
      (pb_store_yes hp A hM v hF wv).mono fun e w' ⟨he, h2, h3⟩ => ⟨he, h1.p.setBf h3 (PB.wider ⟨_, _, _, h2⟩ fun x e => .inl e) (Nat.le_succ k)⟩
    have c1 := (h.below hb0).r.c1
    clear h h1 a1 hc hwo
    go_enter Tryz.func8, Tryz.ntmps8
    go_wp2
    go_region_held3 (fun W => W.cell? ⟨w.heap.size, 2, none⟩ = some (.int .u64 (A : Int)) ∧ W.cell? ⟨w.heap.size, 3, none⟩ = some (.int .u64 wv)) (first | assumption | go_keep) (first | (go_at_call 12; refine HV.out.mono ?_; rintro e y0 ⟨rfl, rfl⟩) | (go_at_call 53; refine HP.out.mono ?_; rintro e y ⟨rfl, hq⟩; obtain ⟨o1, g1, X1, K1⟩ := H1.out.first hq; have q2 := (K1.cell (p := ⟨w.heap.size, 2, none⟩) HWS.out HWO.out).trans C2.out; have q3 := (K1.cell (p := ⟨w.heap.size, 3, none⟩) HWS.out HWO.out).trans C3.out))
    all_goals
      obtain ⟨K, V, vl, rb0, lk⟩ := g1.r.pb
      obtain ⟨i, hi, e1, e2, hv⟩ := lk.here hF
      have b1 := below_drewN (Below.refl y.heap.size y) 1
      have hrun := rb_run_yes (rb0.below b1) A hM i hi e1 e2 1 (fits_one c.b A hbits hM)
      have z1 := g1.r.c1
      have HG1 := hide g1
      have HRB := hide rb0
      have HLK := hide lk
      have HWY : Hid (w.heap.size < y.heap.size) := by unfold Hid; have h1 := HWS.out; have h2 := K1.size; simp at h1 h2 ⊢; omega
      have HO1 : Hid (o1 w.heap.size = 0) := by
        unfold Hid
        have h1 := X1 w.heap.size HWS.out
        have h2 := HWO.out
        unfold OwX at h2
        omega
      have HKX := hide (And.intro X1 K1)
      obtain ⟨q, hq⟩ : ∃ q, q = offN c.b A := ⟨_, rfl⟩
      rw [← hq] at hrun hoff
      have HQ := hide hq
      clear rb0 lk g1 X1 K1 b1 hq
      go_wp2
      go_region_held3 (fun W => W.cell? ⟨b.l, 1, none⟩ = some (.pointer (some ⟨b.p, 0, none⟩)) ∧ W.cell? ⟨w.heap.size, 2, none⟩ = some (.int .u64 (A : Int)) ∧ W.cell? ⟨w.heap.size, 3, none⟩ = some (.int .u64 wv)) (first | assumption | go_keep) (first | (go_at_call 54; refine hrun.mono ?_; rintro e y2 ⟨rfl, rfl⟩))
      all_goals
        go_wp2
        have b1 := below_drewN (Below.refl y.heap.size y) 1
        have q3y : (y.drewN 1).cell? ⟨w.heap.size, 3, none⟩ = some (.int .u64 wv) := by rw [b1.cell HWY.out]; exact q3
        have z1y : (y.drewN 1).cell? ⟨b.l, 1, none⟩ = some (.pointer (some ⟨b.p, 0, none⟩)) := (HG1.out.r.below b1).c1
        generalize y.drewN 1 = yy at *
        have b2 := b1.trans ((below_drewN (Below.refl yy.heap.size yy) 1).mono b1.size)
        have g3 := HG1.out.below b2
        have rb3 := HRB.out.below b2
        obtain ⟨hw1, hw2⟩ := rb3.setWord i hi q hoff wv
        have hlk := HLK.out.writes (v' := updV v q wv) (u := updV (V (getK K i).2) q wv) hi e1 hF rb3.nd (fun j hj => by
          simp only [updV]
          split
          · rfl
          · exact (hv j hj).symm)
        have hset := g3.r.setBf (F := updF s.F (pageN c.b A % c.n) (some (pageN c.b A, updV v q wv))) hw2 (hw1.wider (fun k e => .inl e)) hlk
        have HE : Hid (Bq w o a b c { s with F := updF s.F (pageN c.b A % c.n) (some (pageN c.b A, updV v (offN c.b A) wv)) } (k + 1) ((yy.drewN 1).setCell ⟨(getK K i).2, q, none⟩ (.int .u64 wv))) := by
          rw [← HQ.out]
          have g4 : Bf (yy.drewN 1) o1 a b c s k { s with F := updF s.F (pageN c.b A % c.n) (some (pageN c.b A, updV v q wv)) } (k + 1) := by
            rw [← HQ.out] at g3
            exact g3
          have h1 := (g4.second (hset.more (Nat.le_succ k))).behind (w := y) (o := o1) (fun _ _ => rfl) (Below.keeps (S := OwX o1) b2)
          exact Bq.behind (w := w) (fun x hx => HKX.out.1 x (by have := hb1.size; omega)) ((Below.keeps (S := OwX o) hb1).trans HKX.out.2 (fun x hx t => t)) h1
        have rb1 := HRB.out.below b1
        obtain ⟨ao, cap, hvl, hcap1, hcap2, hcells⟩ := rb1.form
        have d2 := rb1.c2
        rw [hvl] at d2
        obtain ⟨gg, rfl, hog, -, r1⟩ := hcells i hi
        obtain ⟨r2, r3⟩ := rb1.ws _ (getK_mem hi) q hoff
        obtain ⟨sM, n1, n2, -⟩ := rb3.wd _ (getK_mem hi)
        have n3 : gg ≠ (getK K i).2 := fun e => n2 (by rw [← e]; exact hog)
        have n4 : w.heap.size ≠ (getK K i).2 := fun e => by have h1 := HO1.out; rw [e] at h1; omega
        have n5 : b.l ≠ (getK K i).2 := fun e => by have h1 := HG1.out.r.ol; rw [e] at h1; omega
        have q3d : (yy.drewN 1).cell? ⟨w.heap.size, 3, none⟩ = some (.int .u64 wv) := q3y
        have z1d : (yy.drewN 1).cell? ⟨b.l, 1, none⟩ = some (.pointer (some ⟨b.p, 0, none⟩)) := z1y
        have hSa : (yy.drewN 1).cell? ⟨b.l, 1, none⟩ = some (.pointer (some ⟨b.p, 0, none⟩)) ∧ (yy.drewN 1).cell? ⟨b.p, 2, none⟩ = some (.slice (some ⟨gg, 0, none⟩) K.length cap) ∧ (yy.drewN 1).cell? ⟨gg, i * 2 + 1, none⟩ = some (.slice (some ⟨(getK K i).2, 0, none⟩) (sizeN c.b) (sizeN c.b)) ∧ (yy.drewN 1).cell? ⟨w.heap.size, 3, none⟩ = some (.int .u64 wv) := ⟨z1d, d2, r1, q3d⟩
        have hSb : ((yy.drewN 1).setCell ⟨(getK K i).2, q, none⟩ (.int .u64 wv)).cell? ⟨b.l, 1, none⟩ = some (.pointer (some ⟨b.p, 0, none⟩)) ∧ ((yy.drewN 1).setCell ⟨(getK K i).2, q, none⟩ (.int .u64 wv)).cell? ⟨b.p, 2, none⟩ = some (.slice (some ⟨gg, 0, none⟩) K.length cap) ∧ ((yy.drewN 1).setCell ⟨(getK K i).2, q, none⟩ (.int .u64 wv)).cell? ⟨gg, i * 2 + 1, none⟩ = some (.slice (some ⟨(getK K i).2, 0, none⟩) (sizeN c.b) (sizeN c.b)) ∧ ((yy.drewN 1).setCell ⟨(getK K i).2, q, none⟩ (.int .u64 wv)).cell? ⟨w.heap.size, 3, none⟩ = some (.int .u64 wv) :=
          ⟨by rw [cell_set_block _ _ _ (Ne.symm n5)]; exact z1d, by rw [cell_set_block _ _ _ n1]; exact d2, by rw [cell_set_block _ _ _ (Ne.symm n3)]; exact r1, by rw [cell_set_block _ _ _ (Ne.symm n4)]; exact q3d⟩
        clear hrun hcells hvl rb1 rb3 hw1 hw2 hlk hset g3 hog sM n1 n2 n3 n4 n5 b1 b2 HG1 HRB HLK HKX HQ HV HP H1 C2 C3 HWY HO1 hv e1 e2 hF hp
        generalize (getK K i).2 = lb at *
        generalize sizeN c.b = sz at *
        generalize K.length = L at *
        generalize V lb q = vv at *
        have hi' : i < L := hi
        clear hi q2 q3 z1 c0 c1 c2 c3 hb0 hb1
        rename_i hHeldX
        clear hHeldX
        go_region_held3 (fun W => W.cell? ⟨b.l, 1, none⟩ = some (.pointer (some ⟨b.p, 0, none⟩)) ∧ W.cell? ⟨b.p, 2, none⟩ = some (.slice (some ⟨gg, 0, none⟩) L cap) ∧ W.cell? ⟨gg, i * 2 + 1, none⟩ = some (.slice (some ⟨lb, 0, none⟩) sz sz) ∧ W.cell? ⟨w.heap.size, 3, none⟩ = some (.int .u64 wv)) (first | assumption | go_keep) (fail)
        all_goals
          go_wp2
          go_ret
          exact ⟨ret_bool (by simp), HE.out⟩
  · unfold wordS
    rw [wordF_none hno]
    simp only
    have hst := pb_store_no hp A ha hno wv
    have c1 := (h.below hb0).r.c1
    have HNO := hide hno
    have HLT : Hid (w.heap.size < (w.alloc (.cells #[.int .i64 13, .int .i64 n, .int .u64 (A : Int), .int .u64 wv] 34)).heap.size) := by unfold Hid; simp
    clear h h1 a1 hc hwo hno hp
    go_enter Tryz.func8, Tryz.ntmps8
    go_wp2
    go_region_held3 (fun W => W.cell? ⟨w.heap.size, 2, none⟩ = some (.int .u64 (A : Int)) ∧ W.cell? ⟨w.heap.size, 3, none⟩ = some (.int .u64 wv)) (first | assumption | go_keep) (first | (go_at_call 12; refine HV.out.mono ?_; rintro e y0 ⟨rfl, rfl⟩) | (go_at_call 53; refine hst.mono ?_; rintro e y ⟨rfl, b1⟩; have q2 := (b1.cell (p := ⟨w.heap.size, 2, none⟩) HWS.out).trans C2.out; have q3 := (b1.cell (p := ⟨w.heap.size, 3, none⟩) HWS.out).trans C3.out))
    all_goals
      have g1 := H1.out.below b1
      obtain ⟨K, V, vl, rb0, lk⟩ := g1.r.pb
      have b2 := below_drewN (Below.refl y.heap.size y) 1
      have hrun := rb_run_no (rb0.below b2) A ha (fun hM j hj e => lk.goneN (HNO.out hM) j hj e) 1
      have z1 := g1.r.c1
      have HE : Hid (Bq w o a b c s (k + 1) (y.drewN 1)) := by
        have h1 := (((g1.below b2).here).more (Nat.le_succ k))
        exact Bq.behind (w := w) (fun _ _ => rfl) (Below.keeps (S := OwX o) (hb1.trans ((b1.mono hb1.size).trans (b2.mono (Nat.le_trans hb1.size b1.size))))) h1
      clear rb0 lk g1 HNO hst b1 b2 H1 HV C2 C3
      go_wp2
      go_region_held3 (fun W => W.cell? ⟨b.l, 1, none⟩ = some (.pointer (some ⟨b.p, 0, none⟩)) ∧ W.cell? ⟨w.heap.size, 2, none⟩ = some (.int .u64 (A : Int))) (first | assumption | go_keep) (first | (go_at_call 54; refine hrun.mono ?_; rintro e y2 ⟨rfl, rfl⟩))
      all_goals
        go_wp2
        go_ret
        exact ⟨ret_bool (by simp), HE.out⟩
end
end Go.Proofs.YtfghfbmmaclcnaaGreat
