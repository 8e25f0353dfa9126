/- The law's does: Page, Load. -/
import Derived.Test.YtkikfbndcaojjaaQf
namespace Go.Proofs.Ytkikfbndcaojjaa
open Go.RowKit
set_option maxHeartbeats 800000 in
theorem same_ints (a1 a2 : Option Addr) (n1 n2 c1 c2 : Nat) (x y : Nat → Int) (he : n1 = n2) (w : World) (h1 : n1 ≤ 1000000) (s1 : Sl .u64 w a1 n1 x) (s2 : Sl .u64 w a2 n2 y) (hr : ∀ j, j < n1 → x j = y j) :
    Calls Try.prog 18 #[.slice a1 n1 c1, .slice a2 n2 c2] w fun e w' => e = .returned (.bool true) ∧ ∃ m, w' = w.drewN m := by
  subst he
  have S1 := hide s1
  have S2 := hide s2
  have HR := hide hr
  clear s1 s2 hr
  have hnn : ((n1 : Int) != (n1 : Int)) = false := by simp
  go_enter Try.func18, Try.ntmps18
  go_wp2
  go_loopw [5] (fun i wr => ∃ k : Nat, k ≤ n1 ∧ i = .int .i64 k ∧ ∃ m, wr = w.drewN m) (fun i _ => n1 - (intOf i).toNat)
  case atStart => exact ⟨0, Nat.zero_le _, rfl, 0, rfl⟩
  case round =>
    obtain ⟨k, hk, rfl, m, rfl⟩ := hrel
    by_cases hlt : k < n1
    · obtain ⟨b, off, hao, hc⟩ := S1.out k hlt
      obtain ⟨b2, off2, hao2, hd⟩ := S2.out k hlt
      subst hao hao2
      rw [← HR.out k hlt] at hd
      generalize x k = X at *
      have hX : (X != X) = false := by simp
      go_wp2
      go_quiet (fail)
      go_wp2
      go_roundw
      case rel => exact ⟨k + 1, by omega, by go_num, _, rfl⟩
      case measure => simp [intOf]; omega
    · go_wp2
      go_ret
      exact ⟨rfl, _, rfl⟩
section
variable {B D t m n : Nat} {bits : Int} {c : Nat} {F : Nat → Option Pg} {K : List (Nat × Nat)} {V : Nat → Nat → Int} {w : World}
theorem RbIs.wsl {M : Nat → Prop} {vl : Value} (h : RbIs w M m n bits K V vl) (i : Nat) (hi : i < K.length) (o k : Nat) (hk : o + k ≤ sizeN bits) : Sl .u64 w (some ⟨(getK K i).2, o, none⟩) k (fun j => V (getK K i).2 (o + j)) := fun j hj => ⟨_, _, rfl, (h.ws _ (getK_mem hi) (o + j) (by omega)).1⟩
set_option maxRecDepth 10000 in
set_option maxHeartbeats 2000000 in
theorem does_8 (h : Bo B D t m n bits c F K V w) (x : AcP) (hx : AcPOk w x) (hk : x.kd = 8) :
    Calls Try.prog 9 #[.pointer (some ⟨t, 0, none⟩), .pointer (some ⟨m, 0, none⟩), .agg #[.int .i64 x.kd, .int .i64 x.pg, .int .u64 (x.a : Int), .int .i64 x.n, .int .u64 x.old, .int .u64 x.wd, .slice x.lo x.ll x.lc]] w (DoesE B t m n bits c w) := by
  have hB := h.size
  have h1 := h.other (actO x)
  have a1 := act_made w x
  have hb1 := (Below.refl w.heap.size w).alloc (Nat.le_refl _) (actO x)
  have hrun := run_any h1 x.a hx.a 1
  have hpg := hx.pg.2
  clear hx
  obtain ⟨kd, pg, a, nn, old, wd, lo, ll, lc, z⟩ := x
  simp only at hk hrun hpg
  subst hk
  simp only [actO] at *
  have HA := hide a1
  have HB1 := hide hb1
  obtain ⟨c0, cc1, c2, -, -, -, -⟩ := a1
  simp only [Nat.zero_add] at c0 cc1 c2
  obtain ⟨S, M, vl, hh, l⟩ := h1
  obtain ⟨fb, g, o, hp⟩ := hh.pb
  have HH := hide hh
  have HL := hide l
  have hsb := sizeN_bounds bits
  clear h hb1
  unfold DoesE
  rcases in_or (n := n) F pg with ⟨P, v, rfl, hF⟩ | hno
  · obtain ⟨i, hi, e1, e2, hv⟩ := l.here hF
    have hpage := pb_page_yes hp P v hF
    have hat := fun W (b : Below _ _ W) => rb_at_yes (HH.out.below b).rb i hi P e1 e2
    clear hh hp l e1 e2 hF
    go_enter Try.func9, Try.ntmps9
    go_wp2_with fail
    refine hrun.mono ?_
    rintro e y ⟨i', at', er0, rfl, rfl⟩
    go_wp2_with fail
    refine hpage.mono ?_
    rintro e y1 ⟨b1, rfl, sl1, bl1⟩
    have HA1 := hide (HA.out.below bl1)
    have q1 := HA1.out.c1
    simp only [Nat.zero_add] at q1
    have hat1 := hat _ bl1
    have HH1 := hide (HH.out.below bl1)
    have HB2 := hide ((HB1.out.mono hB).trans (bl1.mono HH.out.size))
    clear hat hpage hrun c0 cc1 c2 HA HA1 bl1 HH
    go_wp2_with fail
    refine hat1.mono ?_
    rintro e y2 ⟨rfl, rfl⟩
    obtain ⟨ao, cap, hvl, hcap1, hcap2, hcells⟩ := HH1.out.rb.form
    have d2 := HH1.out.rb.c2
    rw [hvl] at d2
    obtain ⟨gg, rfl, -, -, r1⟩ := hcells i hi
    have sl2 := HH1.out.rb.wsl i hi 0 (sizeN bits) (by omega)
    have hsame := same_ints _ _ _ _ (sizeN bits) (sizeN bits) _ _ rfl _ (by omega) sl1 sl2 (fun j hj => by rw [hv j hj]; simp)
    have hil : (i : Int) < (K.length : Int) := by omega
    clear hat1 hcells sl1 sl2 hv q1 hvl
    go_wp2_with fail
    refine hsame.mono ?_
    rintro e y3 ⟨rfl, k3, rfl⟩
    have b3 := below_drewN (Below.refl y2.heap.size y2) k3
    have HO : Hid (Bo B _ t m n bits (c + 1) F K V (y2.drewN k3)) := Bo.more ⟨S, M, vl, HH1.out.below b3, HL.out⟩ (Nat.le_succ c)
    have HB3 := hide (HB2.out.trans (b3.mono HH1.out.size))
    clear HB2 hsame d2 r1
    go_wp2
    go_ret
    exact ⟨rfl, ⟨_, _, _, _, HO.out⟩, HB3.out⟩
  · have hpage := pb_page_no hp pg hpg hno
    have hat := fun W (b : Below _ _ W) => rb_at_no (HH.out.below b).rb pg (l.gone hno)
    clear hh hp l hno
    go_enter Try.func9, Try.ntmps9
    go_wp2_with fail
    refine hrun.mono ?_
    rintro e y ⟨i', at', er0, rfl, rfl⟩
    go_wp2_with fail
    refine hpage.mono ?_
    rintro e y1 ⟨rfl, bl1⟩
    have HA1 := hide (HA.out.below bl1)
    have q1 := HA1.out.c1
    simp only [Nat.zero_add] at q1
    have hat1 := hat _ bl1
    have HO : Hid (Bo B _ t m n bits (c + 1) F K V y1) := Bo.more ⟨S, M, vl, HH.out.below bl1, HL.out⟩ (Nat.le_succ c)
    have HB2 := hide ((HB1.out.mono hB).trans (bl1.mono HH.out.size))
    clear hat hpage hrun c0 cc1 c2 HA HA1 bl1
    go_wp2_with fail
    refine hat1.mono ?_
    rintro e y2 ⟨rfl, rfl⟩
    go_wp2
    go_ret
    exact ⟨rfl, ⟨_, _, _, _, HO.out⟩, HB2.out⟩
theorem fits_one (bits : Int) (a : Nat) (hb : 5 ≤ bits ∧ bits ≤ 9) (ha : a ≤ 281474976710655) : fitsB bits a 1 = true := by
  have h1 := off_room bits a hb ha
  have h2 := off_lt bits a hb
  unfold fitsB
  simp
  omega
set_option maxRecDepth 10000 in
set_option maxHeartbeats 2000000 in
theorem does_3 (h : Bo B D t m n bits c F K V w) (x : AcP) (hx : AcPOk w x) (hk : x.kd = 3) :
    Calls Try.prog 9 #[.pointer (some ⟨t, 0, none⟩), .pointer (some ⟨m, 0, none⟩), .agg #[.int .i64 x.kd, .int .i64 x.pg, .int .u64 (x.a : Int), .int .i64 x.n, .int .u64 x.old, .int .u64 x.wd, .slice x.lo x.ll x.lc]] w (DoesE B t m n bits c w) := by
  have hB := h.size
  have h1 := h.other (actO x)
  have a1 := act_made w x
  have hb1 := (Below.refl w.heap.size w).alloc (Nat.le_refl _) (actO x)
  have ha := hx.a
  clear hx
  obtain ⟨kd, pg, a, nn, old, wd, lo, ll, lc, z⟩ := x
  simp only at hk ha
  subst hk
  simp only [actO] at *
  have HA := hide a1
  have HB1 := hide hb1
  obtain ⟨c0, cc1, c2, -, -, -, -⟩ := a1
  simp only [Nat.zero_add] at c0 cc1 c2
  obtain ⟨S, M, vl, hh, l⟩ := h1
  obtain ⟨fb, g, o, hp⟩ := hh.pb
  have HH := hide hh
  have HL := hide l
  have hsb := sizeN_bounds bits
  clear h hb1
  unfold DoesE
  rcases ad_or n bits F a with ⟨v, hM, hF⟩ | hno
  · obtain ⟨i, hi, e1, e2, hv⟩ := l.here hF
    have hoff := off_lt bits a hp.hb
    have hrun := rb_run_yes hh.rb a hM i hi e1 e2 1 (fits_one bits a hp.hb hM)
    have hload := pb_load_yes hp a hM v hF (V (getK K i).2 (offN bits a)) (hv _ hoff)
    clear hh hp l e1 e2 hF hv
    obtain ⟨q, hq⟩ : ∃ q, q = offN bits a := ⟨_, rfl⟩
    rw [← hq] at hrun hload hoff
    clear hq
    have hX : (V (getK K i).2 q == V (getK K i).2 q) = true := by simp
    generalize hvv : V (getK K i).2 q = vv at *
    go_enter Try.func9, Try.ntmps9
    go_wp2_with fail
    refine hrun.mono ?_
    rintro e y ⟨rfl, rfl⟩
    go_wp2_with fail
    refine hload.mono ?_
    rintro e y1 ⟨rfl, bl1⟩
    have HH1 := hide (HH.out.below bl1)
    have HB2 := hide ((HB1.out.mono hB).trans (bl1.mono HH.out.size))
    obtain ⟨ao, cap, hvl, hcap1, hcap2, hcells⟩ := HH1.out.rb.form
    have d2 := HH1.out.rb.c2
    rw [hvl] at d2
    obtain ⟨gg, rfl, -, -, r1⟩ := hcells i hi
    have r2 := (HH1.out.rb.ws _ (getK_mem hi) q hoff).1
    rw [hvv] at r2
    have HO : Hid (Bo B _ t m n bits (c + 1) F K V y1) := Bo.more ⟨S, M, vl, HH1.out, HL.out⟩ (Nat.le_succ c)
    clear hload hrun c0 cc1 c2 HA bl1 HH hcells hvl HH1
    generalize (getK K i).2 = lb at *
    go_wp2
    go_ret
    exact ⟨rfl, ⟨_, _, _, _, HO.out⟩, HB2.out⟩
  · have hrun := rb_run_no hh.rb a ha (fun hM j hj e => l.goneN (hno hM) j hj e) 1
    have hload := pb_load_no hp a ha hno
    clear hh hp l hno
    go_enter Try.func9, Try.ntmps9
    go_wp2_with fail
    refine hrun.mono ?_
    rintro e y ⟨rfl, rfl⟩
    go_wp2_with fail
    refine hload.mono ?_
    rintro e y1 ⟨rfl, bl1⟩
    have HO : Hid (Bo B _ t m n bits (c + 1) F K V y1) := Bo.more ⟨S, M, vl, HH.out.below bl1, HL.out⟩ (Nat.le_succ c)
    have HB2 := hide ((HB1.out.mono hB).trans (bl1.mono HH.out.size))
    clear hload hrun c0 cc1 c2 HA bl1 HH
    go_wp2
    go_ret
    exact ⟨rfl, ⟨_, _, _, _, HO.out⟩, HB2.out⟩
end
end Go.Proofs.Ytkikfbndcaojjaa
