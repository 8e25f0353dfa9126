/- Whatever the input, haycroftlaw11.DevicePlays returns true and changes no argument. Conditions: none. -/
import Derived.Test.YtjhndhibojndfaaEp
import Derived.Deep.RegionWith
import Derived.Test.YtjhndhibojndfaaRows
import Derived.WalkKit
import Derived.ProofKit
import Derived.OpenShut
import Derived.ShutString
import Derived.ChangeOld
import Derived.Below
import Derived.ChangeSame
namespace Go.Proofs.Ytjhndhibojndfaa.devicePlays
open Go.ChangeShapes Go.WideShapes Go.ChangeAt Go.RowKit
open Go.ChangeMaps (open_string shut_string)
set_option linter.unusedVariables false
theorem own : ownKnob Try.prog.godebug = none := by kernel_rfl
theorem laidOut : laidOutB Try.prog = true := by kernel_rfl

theorem both0 {w : World} {B t : Nat} {T : TypeId} (hd : DvIs w t dv0) (hs : w.heap.size = t + 4) (hB : B ≤ t) : Both B t (t + 4) dv0 (w.alloc (.cells #[.bool false, .slice none 0 0, .slice none 0 0] T)) := by
  have hb := (Below.refl w.heap.size w).alloc (Nat.le_refl _) (.cells #[.bool false, .slice none 0 0, .slice none 0 0] T)
  rw [← hs]
  refine ⟨hd.below hb, ⟨.slice none 0 0, .slice none 0 0, by simp [dv0], by simp, by simp, by simp, by simp, by simp, World.ownsRow_nil _ _ _ _, World.ownsRow_nil _ _ _ _, fun g e => by simp [Value.ownBlock] at e, good0⟩, by omega, hB⟩
set_option maxHeartbeats 8000000 in
set_option maxRecDepth 10000 in
theorem walk (w : World) (v : Value) (o : IsActs w v) :
    Calls Try.prog 3 #[v] w fun e w' => e = .returned (.bool true) ∧ Below w.heap.size w w' := by
  obtain ⟨ao, len, cap, z, rfl, hlen, hs⟩ := o
  have HS := hide hs
  clear hs
  go_enter Try.func3, Try.ntmps3
  go_wp2_with fail
  refine (awake11 _).mono ?_
  rintro e x1 ⟨rfl, b1⟩
  go_wp2_with fail
  refine (device_new _).mono ?_
  rintro e x2 ⟨rfl, hz2, hd2, b2⟩
  have HR0 := hide (both0 (T := 30) hd2 hz2 b1.size)
  have HB0 := hide ((b1.trans (b2.mono b1.size)).alloc (Nat.le_trans b1.size b2.size) (.cells #[.bool false, .slice none 0 0, .slice none 0 0] 30))
  clear hd2 b1 b2
  generalize x1.heap.size = t at *
  go_wp2
  generalize x2.alloc (.cells #[.bool false, .slice none 0 0, .slice none 0 0] 30) = x3 at *
  go_loopw [5] (fun vi wr => ∃ (k : Nat) (d : Dv), k ≤ 120 ∧ vi = .int .i64 k ∧ Both w.heap.size t (t + 4) d wr ∧ Below w.heap.size w wr ∧ d.jobs.length ≤ k) (fun vi _ => 120 - (intOf vi).toNat)
  case atStart => exact ⟨0, dv0, by decide, rfl, HR0.out, HB0.out, by decide⟩
  case round =>
    clear HR0 HB0
    obtain ⟨k, d, hk, rfl, hR, hbw, hj⟩ := hrel
    by_cases hlt : k < len ∧ k < 120
    · obtain ⟨h16, h17⟩ := hlt
      obtain ⟨hx, b, off, rfl, e0, e1, e2, e3, e4, e5⟩ := (HS.out.below hbw) k h16
      have hx0 := (HS.out k h16).1
      have hjj : d.jobs.length < 1000 := by omega
      have lb : b < w.heap.size := by
        obtain ⟨-, b', off', e, q, -⟩ := HS.out k h16
        cases e
        exact World.block_lt_of_cell? w _ q
      have hlow : 0 < (z k).np → ∀ g off, (z k).po = some ⟨g, off, none⟩ → g < w.heap.size := fun h0 g off e => by
        obtain ⟨g', off', e', q⟩ := hx0.sl 0 h0
        rw [e] at e'
        cases e'
        exact World.block_lt_of_cell? w _ q
      have hdo := law_does (hR.below (below_drewN (Below.refl _ _) 1)) (z k) (hx.below (below_drewN (Below.refl _ _) 1)) hlow hjj
      generalize hcc : z k = cc at *
      obtain ⟨kd, ⟨a, n⟩, s, nn, po, np, pc, pz⟩ := cc
      simp only at e0 e1 e2 e3 e4 e5 hdo
      have i0 : (0 : Int) ≤ (k : Int) := by omega
      have i1 : (k : Int) < (len : Int) := by omega
      have HR := hide hR
      have HBW := hide hbw
      have HX := hide hx
      have HZ : Hid (∀ W, Below w.heap.size w W → W.cell? ⟨b, off + k * 6, none⟩ = some (.int .i64 kd) ∧ W.cell? ⟨b, off + k * 6 + 1, none⟩ = some (.int .i64 a) ∧ W.cell? ⟨b, off + k * 6 + 2, none⟩ = some (.int .i64 n) ∧ W.cell? ⟨b, off + k * 6 + 3, none⟩ = some (.string s) ∧ W.cell? ⟨b, off + k * 6 + 4, none⟩ = some (.int .i64 nn) ∧ W.cell? ⟨b, off + k * 6 + 5, none⟩ = some (.slice po np pc)) := fun W hW => by
        obtain ⟨-, b', off', e, q0, q1, q2, q3, q4, q5⟩ := (HS.out.below hW) k h16
        cases e
        rw [hcc] at q0 q1 q2 q3 q4 q5
        exact ⟨q0, q1, q2, q3, q4, q5⟩
      clear hR hbw hx hx0
      by_cases hsz : 2000 < s.size ∧ s.size ≤ 131072
      · obtain ⟨s1, s2⟩ := hsz
        go_wp2
        go_roundw
        case rel => exact ⟨k + 1, d, by omega, by go_num, HR.out, HBW.out, by omega⟩
        case measure => simp [intOf]; omega
      have hsz' : ¬ 2000 < s.size ∨ (2000 < s.size ∧ ¬ s.size ≤ 131072) := by omega
      clear hsz
      rcases hsz' with s1 | ⟨s1, s2⟩
      · go_wp2
        have HBd := hide (below_drewN HBW.out 1)
        have p1 := HZ.out _ HBd.out
        go_region_with (first | (go_at_call 8; refine hdo.mono ?_; rintro e y1 ⟨rfl, ⟨d1, hB1, hj1⟩, bl1⟩; have hw1 := HBd.out.trans bl1; have q1 := HZ.out _ hw1) | (go_at_call 9; refine (law_alike hB1).mono ?_; rintro e y2 ⟨rfl, bl2⟩; have hB2 := hB1.below bl2; have hw2 := hw1.trans (bl2.mono hw1.size); have q2 := HZ.out _ hw2; have hf2 := device_flight hB2.dv _ rfl) | (go_at_call 11; refine hf2.mono ?_; rintro e y3 ⟨ao3, cap3, rfl, sl3, -, bl3⟩; have hB3 := hB2.below bl3; have hw3 := hw2.trans (bl3.mono hw2.size); have q3 := HZ.out _ hw3; obtain ⟨vi3, vj3, hr3⟩ := hB3.rf) | (go_at_call 12; refine (ref_flight hr3 _ rfl).mono ?_; rintro e y4 ⟨ao4, cap4, rfl, sl4, bl4⟩; have hB4 := hB3.below bl4; have hw4 := hw3.trans (bl4.mono hw3.size); have q4 := HZ.out _ hw4; have sl5 := sl3.below bl4) | (go_at_call 10; refine (ints_same sl5 sl4 (by have := hB4.dv.good.fly; omega)).mono ?_; rintro e y5 ⟨rfl, bl5⟩; have hB5 := hB4.below bl5; have hw5 := hw4.trans (bl5.mono hw4.size); have q5 := HZ.out _ hw5; obtain ⟨vi5, vj5, hr5⟩ := hB5.rf; have c5 := hr5.c0) | (go_at_call 13; refine (device_on hB5.dv).mono ?_; rintro e y6 ⟨rfl, rfl⟩))
        all_goals
          have HF := hide hB5
          have HG := hide hw5
          have hjf : d1.jobs.length ≤ k + 1 := by omega
          clear hB1 hB2 hB3 hB4 hB5 hw1 hw2 hw3 hw4 hw5 q1 q2 q3 q4 q5 c5 hr5 hr3 sl3 sl4 sl5 bl1 bl2 bl3 bl4 bl5 hf2 hdo
          go_wp2
          go_roundw
          case rel => exact ⟨k + 1, d1, by omega, by go_num, HF.out, HG.out, hjf⟩
          case measure => simp [intOf]; omega
      · go_wp2
        have HBd := hide (below_drewN HBW.out 1)
        have p1 := HZ.out _ HBd.out
        go_region_with (first | (go_at_call 8; refine hdo.mono ?_; rintro e y1 ⟨rfl, ⟨d1, hB1, hj1⟩, bl1⟩; have hw1 := HBd.out.trans bl1; have q1 := HZ.out _ hw1) | (go_at_call 9; refine (law_alike hB1).mono ?_; rintro e y2 ⟨rfl, bl2⟩; have hB2 := hB1.below bl2; have hw2 := hw1.trans (bl2.mono hw1.size); have q2 := HZ.out _ hw2; have hf2 := device_flight hB2.dv _ rfl) | (go_at_call 11; refine hf2.mono ?_; rintro e y3 ⟨ao3, cap3, rfl, sl3, -, bl3⟩; have hB3 := hB2.below bl3; have hw3 := hw2.trans (bl3.mono hw2.size); have q3 := HZ.out _ hw3; obtain ⟨vi3, vj3, hr3⟩ := hB3.rf) | (go_at_call 12; refine (ref_flight hr3 _ rfl).mono ?_; rintro e y4 ⟨ao4, cap4, rfl, sl4, bl4⟩; have hB4 := hB3.below bl4; have hw4 := hw3.trans (bl4.mono hw3.size); have q4 := HZ.out _ hw4; have sl5 := sl3.below bl4) | (go_at_call 10; refine (ints_same sl5 sl4 (by have := hB4.dv.good.fly; omega)).mono ?_; rintro e y5 ⟨rfl, bl5⟩; have hB5 := hB4.below bl5; have hw5 := hw4.trans (bl5.mono hw4.size); have q5 := HZ.out _ hw5; obtain ⟨vi5, vj5, hr5⟩ := hB5.rf; have c5 := hr5.c0) | (go_at_call 13; refine (device_on hB5.dv).mono ?_; rintro e y6 ⟨rfl, rfl⟩))
        all_goals
          have HF := hide hB5
          have HG := hide hw5
          have hjf : d1.jobs.length ≤ k + 1 := by omega
          clear hB1 hB2 hB3 hB4 hB5 hw1 hw2 hw3 hw4 hw5 q1 q2 q3 q4 q5 c5 hr5 hr3 sl3 sl4 sl5 bl1 bl2 bl3 bl4 bl5 hf2 hdo
          go_wp2
          go_roundw
          case rel => exact ⟨k + 1, d1, by omega, by go_num, HF.out, HG.out, hjf⟩
          case measure => simp [intOf]; omega
    · have hx : ¬ k < len ∨ (k < len ∧ ¬ k < 120) := by omega
      have HB := hide hbw
      clear hlt hR
      rcases hx with h3 | ⟨h3, h4⟩
      all_goals
        go_wp2
        go_ret
        exact ⟨rfl, HB.out⟩

set_option maxRecDepth 100000 in
theorem lifted (os : Os) (started : os.Started) (H : Type) (enc : TypeId × Value → H) :
    ReturnsInHanded {} Try.checked os 3 .any (Rows.devicePlaysSpec.pre6 enc Try.prog Try.f3 Rows.devicePlaysRow.domain false) (Rows.devicePlaysSpec.post enc Try.prog Try.f3 false true false false) := by
  refine returnsInHanded_of_change (C := Try.checked) own started (by kernel_rfl) Try.func3
    (ChangeSpec.witness6 (enc := enc) (C := Try.checked) false ⟨#[], #[.slice none 0 0], []⟩ 8 (by kernel_rfl) (by kernel_rfl) (by kernel_rfl) (by kernel_rfl)) ?_
  intro W base args ds gs before hval0 hW hcnd _
  have hval : ∀ (j : Nat) t v, Try.f3.params[j]? = some t → args[j]? = some v → Value.okWide Try.prog W .any base t v := hval0
  have hW' := hW
  obtain ⟨p, q, hA0, hV, rfl, hfz, hnd⟩ := hW
  have hA : DataW.TrodAll enc Try.prog W 0 (fun _ => true) true Try.f3.params.toList args.toList ds p := hA0
  rw [Try.params3] at hA hval
  obtain ⟨v0, vs0, d0, ds0, p0, q0, hargs, rfl, rfl, h0, r0⟩ := trodAll_cons hA
  obtain ⟨rfl, rfl, rfl⟩ := trodAll_nil r0
  obtain rfl : args = #[v0] := by cases args; simp_all
  obtain ⟨rfl, rfl⟩ := trodVars_none hV
  have k0 := h0
  have lt0 : ∀ x ∈ p0, x.block < W.heap.size := by obtain ⟨m, hm⟩ := k0; exact DataW.trod_lt m _ _ _ hm
  have o0 := open_acts11 (hval 0 22 v0 rfl rfl) h0
  clear hA0 hval0
  refine (walk W v0 o0).mono fun e W' ⟨he, bel⟩ => ?_
  subst he
  exact ⟨_, rfl, _, _, _, [], _, [], hW', trodAll_mk1 (shut_bool Try.underlying4 _), (trodAll_cons_mk (Below.trod laidOut (by kernel_rfl) (of_decide_eq_true (by kernel_rfl)) k0 bel lt0) trodAll_mk0), rfl, bel.frame _, fun h => by cases h⟩

theorem over : Rows.devicePlaysRow.holds Try.pinned (OpenSpec.ofChange Rows.devicePlaysSpec) :=
  OpenClaim.holds_of_wide 3 Try.f3 rfl rfl rfl rfl rfl rfl rfl ⟨rfl, rfl, rfl, rfl, rfl⟩ rfl rfl rfl rfl rfl (by kernel_rfl) Try.func3 (by kernel_rfl)
    (of_decide_eq_true (by kernel_rfl)) (by unfold Func.isWrapper; first | (rw [if_pos (by decide +kernel)]; kernel_rfl) | (rw [if_neg (by decide +kernel)]; exact ⟨rfl, rfl⟩))
    (fun os started H enc _ => lifted os started H enc)

theorem proved : Rows.DevicePlaysSaid := over
#print axioms proved

end Go.Proofs.Ytjhndhibojndfaa.devicePlays
