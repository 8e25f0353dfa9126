/- The law's does: Store, CAS. -/
import Derived.Test.YtkikfbndcaojjaaQg
namespace Go.Proofs.Ytkikfbndcaojjaa
open Go.RowKit
section
variable {B D t m n : Nat} {bits : Int} {c : Nat} {F : Nat → Option Pg} {K : List (Nat × Nat)} {V : Nat → Nat → Int} {w : World} {M : Nat → Prop} {vl : Value}
/-- A word is written. -/
theorem RbIs.setWord (h : RbIs w M m n bits K V vl) (i : Nat) (hi : i < K.length) (j : Nat) (hj : j < sizeN bits) (y : Int) :
    RbIs (w.setCell ⟨(getK K i).2, j, none⟩ (.int .u64 y)) M m n bits K (updB V (getK K i).2 (updV (V (getK K i).2) j y)) vl ∧ Keeps M w (w.setCell ⟨(getK K i).2, j, none⟩ (.int .u64 y)) := by
  obtain ⟨s1, s2, s3, -⟩ := h.wd _ (getK_mem hi)
  have hc := h.ws _ (getK_mem hi)
  generalize (getK K i).2 = lb at *
  have K1 : Keeps (fun k => k = lb) w (w.setCell ⟨lb, j, none⟩ (.int .u64 y)) := (Keeps.refl (fun k => k = lb) w).setCell ⟨lb, j, none⟩ (fun _ => rfl) _
  have hm : ¬ m = lb := fun e => s2 e.symm
  refine ⟨⟨by rw [K1.cell h.lt hm]; exact h.c0, by rw [K1.cell h.lt hm]; exact h.c1, by rw [K1.cell h.lt hm]; exact h.c2, by rw [K1.frozen h.lt hm]; exact h.f2, h.hn, h.hb, own_keep h.own K1 (fun g e e' => s3 (by rw [← e']; exact e)), h.sm, h.sv, h.wd, fun x hx k hk => ⟨?_, by rw [World.frozen?_setCell]; exact (h.ws x hx k hk).2⟩, h.nd⟩, K1.wider (fun k _ e => by subst e; exact s1)⟩
  by_cases e : x.2 = lb
  · rw [e]
    by_cases e2 : k = j
    · subst e2
      rw [World.cell?_setCell_same _ _ _ (hc k hk).1]
      simp [updB, updV]
    · rw [cell_set_off _ _ _ _ (fun c => e2 c.symm), (hc k hk).1]
      simp [updB, updV, e2]
  · rw [cell_set_block _ _ _ (fun c => e c.symm), (h.ws x hx k hk).1]
    simp [updB, e]
/-- What a write of a word on both leaves. -/
theorem Bh.word {S : Nat → Prop} {c' : Nat} {v : Nat → Int} {P q : Nat} {y : Int} (h : Bh B D t m n bits c' (updF F (P % n) (some (P, updV v q y))) K V S M vl w) (l : Lk n (sizeN bits) F K V) (i : Nat) (hi : i < K.length) (e1 : (getK K i).1 = P) (hF : F (P % n) = some (P, v)) (hq : q < sizeN bits) (hv : ∀ j, j < sizeN bits → v j = V (getK K i).2 j) :
    Bo B D t m n bits c' (updF F (P % n) (some (P, updV v q y))) K (updB V (getK K i).2 (updV (V (getK K i).2) q y)) (w.setCell ⟨(getK K i).2, q, none⟩ (.int .u64 y)) ∧ Keeps (Ow B D) w (w.setCell ⟨(getK K i).2, q, none⟩ (.int .u64 y)) := by
  obtain ⟨hr, hk⟩ := h.rb.setWord i hi q hq y
  obtain ⟨h1, h2⟩ := h.ref hk hr (fun k hs => .inl hs)
  refine ⟨⟨S, M, vl, h1, l.writes hi e1 hF h.rb.nd (fun j hj => ?_)⟩, h2⟩
  simp only [updV]
  split
  · rfl
  · exact (hv j hj).symm
end
section
variable {B D t m n : Nat} {bits : Int} {c : Nat} {F : Nat → Option Pg} {K : List (Nat × Nat)} {V : Nat → Nat → Int} {w : World}
set_option maxRecDepth 10000 in
set_option maxHeartbeats 2000000 in
theorem does_4 (h : Bo B D t m n bits c F K V w) (x : AcP) (hx : AcPOk w x) (hk : x.kd = 4) :
    Calls Try.prog 9 #[.pointer (some ⟨t, 0, none⟩), .pointer (some ⟨m, 0, none⟩), .agg #[.int .i64 x.kd, .int .i64 x.pg, .int .u64 (x.a : Int), .int .i64 x.n, .int .u64 x.old, .int .u64 x.wd, .slice x.lo x.ll x.lc]] w (DoesE B t m n bits c w) := by
  have hB := h.size
  have h1 := h.other (actO x)
  have a1 := act_made w x
  have hb1 := (Below.refl w.heap.size w).alloc (Nat.le_refl _) (actO x)
  have ha := hx.a
  have hD : ¬ Ow B w.heap.size w.heap.size := fun e => e.2 rfl
  clear hx
  obtain ⟨kd, pg, a, nn, old, wd, lo, ll, lc, z⟩ := x
  simp only at hk ha
  subst hk
  simp only [actO] at *
  have HA := hide a1
  have HB1 := hide hb1
  obtain ⟨c0, cc1, c2, -, -, c5, -⟩ := a1
  simp only [Nat.zero_add] at c0 cc1 c2 c5
  obtain ⟨S, M, vl, hh, l⟩ := h1
  obtain ⟨fb, g, o, hp⟩ := hh.pb
  have HH := hide hh
  have HL := hide l
  have hsb := sizeN_bounds bits
  clear h hb1
  unfold DoesE
  rcases ad_or n bits F a with ⟨v, hM, hF⟩ | hno
  · obtain ⟨i, hi, e1, e2, hv⟩ := l.here hF
    have hoff := off_lt bits a hp.hb
    have hrun := rb_run_yes hh.rb a hM i hi e1 e2 1 (fits_one bits a hp.hb hM)
    have hst := pb_store_yes hp a hM v hF wd
    clear hh hp l e2
    obtain ⟨q, hq⟩ : ∃ q, q = offN bits a := ⟨_, rfl⟩
    rw [← hq] at hrun hst hoff
    clear hq
    go_enter Try.func9, Try.ntmps9
    go_wp2_with fail
    refine hrun.mono ?_
    rintro e y ⟨rfl, rfl⟩
    go_wp2_with fail
    refine hst.mono ?_
    rintro e y1 ⟨rfl, hp1, kk1⟩
    obtain ⟨hh1, kk2⟩ := HH.out.prog kk1 ⟨_, _, _, hp1⟩ (fun k hs => .inl hs)
    have b3 := below_drewN (Below.refl y1.heap.size y1) 1
    obtain ⟨hbo, kk3⟩ := (hh1.below b3).word HL.out i hi e1 hF hoff hv
    have HO := hide hbo
    have HB2 : Hid (Below B w ((y1.drewN 1).setCell ⟨(getK K i).2, q, none⟩ (.int .u64 wd))) := by
      have hs2 := kk2.size
      have hs1 := HB1.out.size
      exact (HB1.out.mono hB).trans ((kk2.below (by omega) (fun k hk => hk.1)).trans ((b3.mono (by omega)).trans (kk3.below (by simp; omega) (fun k hk => hk.1))))
    have HA1 := HA.out.keep kk2 hD
    have q5 := HA1.c5
    simp only [Nat.zero_add] at q5
    obtain ⟨ao, cap, hvl, hcap1, hcap2, hcells⟩ := hh1.rb.form
    have d2 := hh1.rb.c2
    rw [hvl] at d2
    obtain ⟨gg, rfl, hog, -, r1⟩ := hcells i hi
    obtain ⟨r2, r3⟩ := hh1.rb.ws _ (getK_mem hi) q hoff
    obtain ⟨sM, n1, n2, -⟩ := hh1.rb.wd _ (getK_mem hi)
    have n3 : gg ≠ (getK K i).2 := fun e => n2 (by rw [← e]; exact hog)
    have n4 : w.heap.size ≠ (getK K i).2 := fun e => (hh1.mb _ sM).2.2 e.symm
    have hSa : (y1.drewN 1).cell? ⟨m, 2, none⟩ = some (.slice (some ⟨gg, 0, none⟩) K.length cap) ∧ (y1.drewN 1).cell? ⟨gg, i * 2 + 1, none⟩ = some (.slice (some ⟨(getK K i).2, 0, none⟩) (sizeN bits) (sizeN bits)) ∧ (y1.drewN 1).cell? ⟨w.heap.size, 5, none⟩ = some (.int .u64 wd) := ⟨d2, r1, q5⟩
    have hSb : ((y1.drewN 1).setCell ⟨(getK K i).2, q, none⟩ (.int .u64 wd)).cell? ⟨m, 2, none⟩ = some (.slice (some ⟨gg, 0, none⟩) K.length cap) ∧ ((y1.drewN 1).setCell ⟨(getK K i).2, q, none⟩ (.int .u64 wd)).cell? ⟨gg, i * 2 + 1, none⟩ = some (.slice (some ⟨(getK K i).2, 0, none⟩) (sizeN bits) (sizeN bits)) ∧ ((y1.drewN 1).setCell ⟨(getK K i).2, q, none⟩ (.int .u64 wd)).cell? ⟨w.heap.size, 5, none⟩ = some (.int .u64 wd) :=
      ⟨by rw [cell_set_block _ _ _ n1]; exact d2, by rw [cell_set_block _ _ _ (Ne.symm n3)]; exact r1, by rw [cell_set_block _ _ _ (Ne.symm n4)]; exact q5⟩
    clear hst hrun c0 cc1 c2 c5 HA HH hcells hvl hh1 kk1 kk2 kk3 hbo hp1 HA1 HB1 hv e1 hF b3 hog sM n1 n2 n3 n4
    generalize (getK K i).2 = lb at *
    generalize sizeN bits = s at *
    generalize K.length = L at *
    generalize V lb q = vv at *
    go_wp2
    go_region_held3 (fun W => W.cell? ⟨m, 2, none⟩ = some (.slice (some ⟨gg, 0, none⟩) L cap) ∧ W.cell? ⟨gg, i * 2 + 1, none⟩ = some (.slice (some ⟨lb, 0, none⟩) s s) ∧ W.cell? ⟨w.heap.size, 5, none⟩ = some (.int .u64 wd)) (first | assumption | go_keep) (fail)
    all_goals
      go_wp2
      go_ret
      exact ⟨rfl, ⟨_, _, _, _, HO.out⟩, HB2.out⟩
  · have hrun := rb_run_no hh.rb a ha (fun hM j hj e => l.goneN (hno hM) j hj e) 1
    have hst := pb_store_no hp a ha hno wd
    clear hh hp l hno
    go_enter Try.func9, Try.ntmps9
    go_wp2_with fail
    refine hrun.mono ?_
    rintro e y ⟨rfl, rfl⟩
    go_wp2_with fail
    refine hst.mono ?_
    rintro e y1 ⟨rfl, bl1⟩
    have HO : Hid (Bo B _ t m n bits (c + 1) F K V y1) := Bo.more ⟨S, M, vl, HH.out.below bl1, HL.out⟩ (Nat.le_succ c)
    have HB2 := hide ((HB1.out.mono hB).trans (bl1.mono HH.out.size))
    clear hst hrun c0 cc1 c2 HA bl1 HH
    go_wp2
    go_ret
    exact ⟨rfl, ⟨_, _, _, _, HO.out⟩, HB2.out⟩
end
end Go.Proofs.Ytkikfbndcaojjaa
