/- The law's does: Words. -/
import Derived.Test.YtkikfbndcaojjaaQi
namespace Go.Proofs.Ytkikfbndcaojjaa
open Go.RowKit
section
variable {B D t m n : Nat} {bits : Int} {c : Nat} {F : Nat → Option Pg} {K : List (Nat × Nat)} {V : Nat → Nat → Int} {w : World}
set_option maxRecDepth 10000 in
set_option maxHeartbeats 2000000 in
theorem does_6 (h : Bo B D t m n bits c F K V w) (x : AcP) (hx : AcPOk w x) (hk : x.kd = 6) :
    Calls Try.prog 9 #[.pointer (some ⟨t, 0, none⟩), .pointer (some ⟨m, 0, none⟩), .agg #[.int .i64 x.kd, .int .i64 x.pg, .int .u64 (x.a : Int), .int .i64 x.n, .int .u64 x.old, .int .u64 x.wd, .slice x.lo x.ll x.lc]] w (DoesE B t m n bits c w) := by
  have hB := h.size
  have h1 := h.other (actO x)
  have a1 := act_made w x
  have hb1 := (Below.refl w.heap.size w).alloc (Nat.le_refl _) (actO x)
  have ha := hx.a
  have hD : ¬ Ow B w.heap.size w.heap.size := fun e => e.2 rfl
  have hrun0 := run_any h1 x.a hx.a 1
  have hnn := hx.n
  clear hx
  obtain ⟨kd, pg, a, nn, old, wd, lo, ll, lc, z⟩ := x
  simp only at hk ha hrun0 hnn
  subst hk
  simp only [actO] at *
  have HA := hide a1
  have HB1 := hide hb1
  obtain ⟨c0, cc1, c2, c3, -, -, -⟩ := a1
  simp only [Nat.zero_add] at c0 cc1 c2 c3
  obtain ⟨S, M, vl, hh, l⟩ := h1
  obtain ⟨fb, g, o, hp⟩ := hh.pb
  have HH := hide hh
  have HL := hide l
  have hsb := sizeN_bounds bits
  clear h hb1
  unfold DoesE
  rcases ad_or n bits F a with ⟨v, hM, hF⟩ | hno
  · obtain ⟨i, hi, e1, e2, hv⟩ := l.here hF
    have hoff := off_lt bits a hp.hb
    have hrm := off_room bits a hp.hb hM
    cases hft : fitsB bits a nn
    · have hrun := rb_run_arg hh.rb a hM i hi e1 e2 nn hft
      have hst := pb_words_arg hp a hM v hF nn hft
      clear hh hp l
      go_enter Try.func9, Try.ntmps9
      go_wp2_with fail
      refine hrun0.mono ?_
      rintro e y ⟨i', at', er0, rfl, rfl⟩
      go_wp2_with fail
      refine hrun.mono ?_
      rintro e y ⟨rfl, rfl⟩
      go_wp2_with fail
      refine hst.mono ?_
      rintro e y1 ⟨rfl, bl1⟩
      have HO : Hid (Bo B _ t m n bits (c + 1) F K V y1) := Bo.more ⟨S, M, vl, HH.out.below bl1, HL.out⟩ (Nat.le_succ c)
      have HB2 := hide ((HB1.out.mono hB).trans (bl1.mono HH.out.size))
      clear hst hrun hrun0 c0 cc1 c2 c3 HA bl1 HH
      go_wp2
      go_ret
      exact ⟨rfl, ⟨_, _, _, _, HO.out⟩, HB2.out⟩
    · have hn1 : 1 ≤ nn ∧ nn ≤ (roomN bits a : Int) := by unfold fitsB at hft; simpa using hft
      obtain ⟨k, rfl⟩ := Int.eq_ofNat_of_zero_le (show 0 ≤ nn by omega)
      have hkr : offN bits a + k ≤ sizeN bits := by omega
      have hk1 : 1 ≤ k := by omega
      have hrun := rb_run_yes hh.rb a hM i hi e1 e2 (k : Int) hft
      have hst := pb_words_yes hp a hM v hF k hft
      clear hh hp l e1 e2 hF hft hn1 hrm
      obtain ⟨q, hq⟩ : ∃ q, q = offN bits a := ⟨_, rfl⟩
      rw [← hq] at hrun hst hoff hkr
      clear hq
      go_enter Try.func9, Try.ntmps9
      go_wp2_with fail
      refine hrun0.mono ?_
      rintro e y ⟨i', at', er0, rfl, rfl⟩
      go_wp2_with fail
      refine hrun.mono ?_
      rintro e y ⟨rfl, rfl⟩
      go_wp2_with fail
      refine hst.mono ?_
      rintro e y1 ⟨b1, rfl, sl1, bl1⟩
      have hh1 := HH.out.below bl1
      have b3 := fun k => below_drewN (Below.refl y1.heap.size y1) k
      have HO : Hid (∀ k, Bo B _ t m n bits (c + 1) F K V (y1.drewN k)) := fun k => Bo.more ⟨S, M, vl, hh1.below (b3 k), HL.out⟩ (Nat.le_succ c)
      have HB2 : Hid (∀ k, Below B w (y1.drewN k)) := fun k => (HB1.out.mono hB).trans ((bl1.mono HH.out.size).trans ((b3 k).mono hh1.size))
      have q3 := (HA.out.below bl1).c3
      simp only [Nat.zero_add] at q3
      obtain ⟨ao, cap, hvl, hcap1, hcap2, hcells⟩ := hh1.rb.form
      have d2 := hh1.rb.c2
      rw [hvl] at d2
      obtain ⟨gg, rfl, hog, -, r1⟩ := hcells i hi
      have sl2 := hh1.rb.wsl i hi q k hkr
      have hsame : ∀ kk c2, Calls Try.prog 18 #[.slice (some ⟨b1, 0, none⟩) k k, .slice (some ⟨(getK K i).2, q, none⟩) k c2] (y1.drewN kk) fun e w' => e = .returned (.bool true) ∧ ∃ m, w' = (y1.drewN kk).drewN m := fun kk c2 => same_ints _ _ _ _ k c2 _ _ rfl _ (by omega) (sl1.below (b3 kk)) (sl2.below (b3 kk)) (fun j hj => hv _ (by omega))
      have hqk : (q : Int) + (k : Int) = ((q + k : Nat) : Int) := by omega
      clear hst hrun hrun0 c0 cc1 c2 c3 HA HH hcells hvl hh1 bl1 HB1 b3 hog hv sl1 sl2
      generalize (getK K i).2 = lb at *
      generalize hss : sizeN bits = s at *
      generalize K.length = L at *
      obtain ⟨u, hu⟩ : ∃ u, u = q + k := ⟨_, rfl⟩
      rw [← hu] at hqk hkr
      have huq : u - q = k := by omega
      have hqu : q ≤ u := by omega
      have hqk' : (k : Int) = (u : Int) - (q : Int) := by omega
      have HU := hide hu
      clear hu hss hqk'
      go_wp2
      go_quiet ((go_at_call 18; exact Calls.quiet_of (hsame _ _)))
      go_wp2
      go_ret
      exact ⟨rfl, ⟨_, _, _, _, HO.out _⟩, HB2.out _⟩
  · have hrun := rb_run_no hh.rb a ha (fun hM j hj e => l.goneN (hno hM) j hj e) nn
    have hst := pb_words_no hp a ha hno nn
    clear hh hp l
    go_enter Try.func9, Try.ntmps9
    go_wp2_with fail
    refine hrun0.mono ?_
    rintro e y ⟨i', at', er0, rfl, rfl⟩
    go_wp2_with fail
    refine hrun.mono ?_
    rintro e y ⟨rfl, rfl⟩
    go_wp2_with fail
    refine hst.mono ?_
    rintro e y1 ⟨rfl, bl1⟩
    have HO : Hid (Bo B _ t m n bits (c + 1) F K V y1) := Bo.more ⟨S, M, vl, HH.out.below bl1, HL.out⟩ (Nat.le_succ c)
    have HB2 := hide ((HB1.out.mono hB).trans (bl1.mono HH.out.size))
    clear hst hrun hrun0 c0 cc1 c2 c3 HA bl1 HH
    go_wp2
    go_ret
    exact ⟨rfl, ⟨_, _, _, _, HO.out⟩, HB2.out⟩
end
end Go.Proofs.Ytkikfbndcaojjaa
