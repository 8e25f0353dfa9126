/- Whatever the input, haycroftlaw12.PagesPlay returns true and changes no argument. Conditions: none. -/
import Derived.Test.YtkikfbndcaojjaaQl
import Derived.Test.YtkikfbndcaojjaaRows
import Derived.WalkKit
import Derived.ProofKit
import Derived.OpenShut
import Derived.ShutString
import Derived.ChangeOld
import Derived.Below
import Derived.ChangeSame
namespace Go.Proofs.Ytkikfbndcaojjaa.pagesPlay
open Go.ChangeShapes Go.WideShapes Go.ChangeAt Go.RowKit
open Go.ChangeMaps (open_string shut_string)
set_option linter.unusedVariables false
theorem own : ownKnob Try.prog.godebug = none := by kernel_rfl
theorem laidOut : laidOutB Try.prog = true := by kernel_rfl

theorem walk_no (bits frames : Int) (ao : Option Addr) (len cap : Nat) (w : World) (h : mayB bits = false ∨ frames < 2 ∨ 8 < frames) :
    Calls Try.prog 3 #[.int .i64 bits, .int .i64 frames, .slice ao len cap] w fun e w' => e = .returned (.bool true) ∧ Below w.heap.size w w' := by
  have h' : ¬ (5 ≤ bits ∧ bits ≤ 9) ∨ frames < 2 ∨ 8 < frames := by
    rcases h with h | h
    · left; simpa [mayB] using h
    · exact .inr h
  go_enter Try.func3, Try.ntmps3
  go_wp2_with fail
  refine (awake12 _).mono ?_
  rintro e x1 ⟨rfl, b1⟩
  go_wp2_with fail
  refine (pb_new_no bits frames h _).mono ?_
  rintro e x2 ⟨rfl, rfl⟩
  go_wp2_with fail
  refine (rb_new_no bits frames h' _).mono ?_
  rintro e x3 ⟨rfl, rfl⟩
  clear h h'
  go_wp2
  go_ret
  exact ⟨rfl, b1⟩
set_option maxHeartbeats 8000000 in
set_option maxRecDepth 10000 in
theorem walk_yes (bits : Int) (n : Nat) (hb : 5 ≤ bits ∧ bits ≤ 9) (hn : 2 ≤ n ∧ n ≤ 8) (ao : Option Addr) (len cap : Nat) (z : Nat → AcP) (w : World) (hlen : len ≤ 9223372036854775807) (hs : ActsP w ao len z) :
    Calls Try.prog 3 #[.int .i64 bits, .int .i64 (n : Int), .slice ao len cap] w fun e w' => e = .returned (.bool true) ∧ Below w.heap.size w w' := by
  have HS := hide hs
  clear hs
  go_enter Try.func3, Try.ntmps3
  go_wp2_with fail
  refine (awake12s _).mono ?_
  rintro e x1 ⟨rfl, b1, l1⟩
  go_wp2_with fail
  refine (pb_new_yes bits n hb hn _).mono ?_
  rintro e x2 ⟨t, rfl, hp, b2⟩
  go_wp2_with fail
  refine (rb_new_yes bits n hb hn (fun _ _ => 0) _).mono ?_
  rintro e x3 ⟨rfl, hr, hs3, b3⟩
  have HR0 := hide (bo_made b1.size l1 hp hr b3 hs3 b2.size)
  have HB0 := hide ((b1.trans (b2.mono b1.size)).trans (b3.mono (Nat.le_trans b1.size b2.size)))
  clear hp hr hs3 b1 b2 b3 l1
  generalize x2.heap.size = m at *
  go_wp2
  go_loopw [11] (fun vi wr => ∃ (k D : Nat) (F : Nat → Option Pg) (K : List (Nat × Nat)) (V : Nat → Nat → Int), k ≤ 100 ∧ vi = .int .i64 k ∧ Bo w.heap.size D t m n bits k F K V wr ∧ Below w.heap.size w wr) (fun vi _ => 100 - (intOf vi).toNat)
  case atStart => exact ⟨0, _, _, _, _, by decide, rfl, HR0.out, HB0.out⟩
  case round =>
    clear HR0 HB0
    obtain ⟨k, D, F, K, V, hk, rfl, hR, hbw⟩ := hrel
    by_cases hlt : k < len ∧ k < 100
    · obtain ⟨h16, h17⟩ := hlt
      obtain ⟨hx0, b, off, rfl, hA0⟩ := HS.out k h16
      have lb := hA0.lt
      have hA := hA0.keep (Below.keeps (S := fun j => w.heap.size ≤ j) (hbw.mono (Nat.le_refl _))) (by omega)
      have hx : AcPOk wr (z k) := hx0.below hbw
      have hlow : 0 < (z k).ll → ∀ g off, (z k).lo = some ⟨g, off, none⟩ → g < w.heap.size := fun h0 g off e => by
        obtain ⟨g', off', e', q⟩ := hx0.sl 0 h0
        rw [e] at e'
        cases e'
        exact World.block_lt_of_cell? w _ q
      have hdo := law_does12 hR (z k) hx (by omega) hlow
      unfold DoesE at hdo
      have hpg := hx0.pg
      have HA := hide hA0
      have HBW := hide hbw
      generalize z k = cc at *
      obtain ⟨kd, pg, a, nn, old, wd, lo, ll, lc, zz⟩ := cc
      obtain ⟨e0, e1, e2, e3, e4, e5, e6⟩ := hA
      simp only at e0 e1 e2 e3 e4 e5 e6 hdo hpg
      have i0 : (0 : Int) ≤ (k : Int) := by omega
      have i1 : (k : Int) < (len : Int) := by omega
      clear hR hbw hx hx0 hA0 hlow
      go_wp2_with fail
      refine hdo.mono ?_
      rintro e y1 ⟨rfl, ⟨D1, F1, K1, V1, hB1⟩, bl1⟩
      clear e0 e1 e2 e3 e4 e5 e6 hdo
      go_wp2_with fail
      refine (in_is hB1).mono ?_
      rintro e y2 ⟨ai, ci, rfl, sl, bl2⟩
      have hB2 := hB1.below bl2
      have hw2 : Below w.heap.size w y2 := (HBW.out.trans bl1).trans (bl2.mono hB1.size)
      have HW : Hid (∀ q, Below w.heap.size w (y2.drewN q)) := fun q => below_drewN hw2 q
      have HF : Hid (∀ q, Bo w.heap.size D1 t m n bits (k + 1) F1 K1 V1 (y2.drewN q)) := fun q => hB2.below (below_drewN (Below.refl _ _) q)
      obtain ⟨bq, iq, hbi, hhas, hat⟩ := has_quiet hB2 pg hpg.2
      have e1 := (HA.out.keep (Below.keeps (S := fun j => w.heap.size ≤ j) hw2) (by omega)).c1
      obtain ⟨S, M, vl, hh, l⟩ := hB2
      obtain ⟨av, cv, rfl, hc1, hc2, hcells⟩ := hh.rb.form
      have d2 := hh.rb.c2
      have hfew : K1.length ≤ 8 := by have := l.few; omega
      have HC : Hid (∀ j, j < K1.length → ∃ g bi oi, av = some ⟨g, 0, none⟩ ∧ ai = some ⟨bi, oi, none⟩ ∧ y2.cell? ⟨g, j * 2, none⟩ = some (.int .i64 ((getK K1 j).1 : Int)) ∧ y2.cell? ⟨bi, oi + j, none⟩ = some (.int .i64 ((getK K1 j).1 : Int))) := fun j hj => by
        obtain ⟨g, eg, -, q1, -⟩ := hcells j hj
        obtain ⟨bi, oi, eb, q2⟩ := sl j hj
        exact ⟨g, bi, oi, eg, eb, q1, q2⟩
      clear hB1 hcells hh sl l bl1 bl2 HA HBW hw2
      generalize hL : K1.length = L at *
      have hLL : ((L : Int) != (L : Int)) = false := by simp
      simp only at e1
      rcases hbi with ⟨rfl, hi0⟩ | ⟨rfl, rfl⟩
      all_goals
        go_wp2
        go_quiet ((first | (go_at_call 11; exact Calls.quiet_of (hhas _)) | (go_at_call 12; exact Calls.quiet_of_same (hat _))))
        go_wp2
        clear hhas hat
        go_loopw [13] (fun vi wr => ∃ (j q : Nat), j ≤ L ∧ vi = .int .i64 j ∧ wr = y2.drewN q) (fun vi _ => L - (intOf vi).toNat)
        case atStart => exact ⟨0, _, Nat.zero_le _, rfl, rfl⟩
        case round =>
          obtain ⟨j, q, hj, rfl, rfl⟩ := hrel
          by_cases hjl : j < L
          · obtain ⟨g, bi, oi, rfl, rfl, q1, q2⟩ := HC.out j hjl
            generalize ((getK K1 j).1 : Int) = P at *
            have hPP : (P != P) = false := by simp
            have j0 : (0 : Int) ≤ (j : Int) := by omega
            have j1 : (j : Int) < (L : Int) := by omega
            go_wp2
            go_quiet (fail)
            go_wp2
            go_roundw
            case rel => exact ⟨j + 1, _, by omega, by go_num, rfl⟩
            case measure => simp [intOf]; omega
          · go_wp2
            go_roundw
            case rel => exact ⟨k + 1, _, _, _, _, by omega, by go_num, HF.out _, HW.out _⟩
            case measure => simp [intOf]; omega
    · have hx : ¬ k < len ∨ (k < len ∧ ¬ k < 100) := by omega
      have HB := hide hbw
      obtain ⟨S, M, vl, hh, l⟩ := hR
      obtain ⟨fb, g, o, hp⟩ := hh.pb
      have h1 := pb_bits hp
      have h2 := pb_frames hp
      clear hlt hh hp l
      rcases hx with h3 | ⟨h3, h4⟩
      all_goals
        go_wp2_with fail
        refine h1.mono ?_
        rintro e y ⟨rfl, rfl⟩
        go_wp2_with fail
        refine h2.mono ?_
        rintro e y ⟨rfl, rfl⟩
        go_wp2
        go_ret
        exact ⟨rfl, HB.out⟩
theorem walk (w : World) (bits : Int) (_ : (Lit.int .i64 bits).wf = true) (frames : Int) (_ : (Lit.int .i64 frames).wf = true) (v : Value) (o : IsActsP w v) :
    Calls Try.prog 3 #[.int .i64 bits, .int .i64 frames, v] w fun e w' => e = .returned (.bool true) ∧ Below w.heap.size w w' := by
  obtain ⟨ao, len, cap, z, rfl, hlen, hs⟩ := o
  cases hm : mayB bits
  · exact walk_no bits frames ao len cap w (.inl hm)
  by_cases h2 : 2 ≤ frames ∧ frames ≤ 8
  · obtain ⟨n, rfl⟩ := Int.eq_ofNat_of_zero_le (show 0 ≤ frames by omega)
    exact walk_yes bits n (by simpa [mayB] using hm) (by omega) ao len cap z w hlen hs
  · exact walk_no bits frames ao len cap w (.inr (by omega))

set_option maxRecDepth 100000 in
theorem lifted (os : Os) (started : os.Started) (H : Type) (enc : TypeId × Value → H) :
    ReturnsInHanded {} Try.checked os 3 .any (Rows.pagesPlaySpec.pre6 enc Try.prog Try.f3 Rows.pagesPlayRow.domain false) (Rows.pagesPlaySpec.post enc Try.prog Try.f3 false true false false) := by
  refine returnsInHanded_of_change (C := Try.checked) own started (by kernel_rfl) Try.func3
    (ChangeSpec.witness6 (enc := enc) (C := Try.checked) false ⟨#[], #[.int .i64 0, .int .i64 0, .slice none 0 0], []⟩ 8 (by kernel_rfl) (by kernel_rfl) (by kernel_rfl) (by kernel_rfl)) ?_
  intro W base args ds gs before hval0 hW hcnd _
  have hval : ∀ (j : Nat) t v, Try.f3.params[j]? = some t → args[j]? = some v → Value.okWide Try.prog W .any base t v := hval0
  have hW' := hW
  obtain ⟨p, q, hA0, hV, rfl, hfz, hnd⟩ := hW
  have hA : DataW.TrodAll enc Try.prog W 0 (fun _ => true) true Try.f3.params.toList args.toList ds p := hA0
  rw [Try.params3] at hA hval
  obtain ⟨v0, vs0, d0, ds0, p0, q0, hargs, rfl, rfl, h0, r0⟩ := trodAll_cons hA
  obtain ⟨v1, vs1, d1, ds1, p1, q1, rfl, rfl, rfl, h1, r1⟩ := trodAll_cons r0
  obtain ⟨v2, vs2, d2, ds2, p2, q2, rfl, rfl, rfl, h2, r2⟩ := trodAll_cons r1
  obtain ⟨rfl, rfl, rfl⟩ := trodAll_nil r2
  obtain rfl : args = #[v0, v1, v2] := by cases args; simp_all
  obtain ⟨rfl, rfl⟩ := trodVars_none hV
  obtain ⟨a0, rfl, rfl, rfl, w0⟩ := open_int Try.underlying3 (hval 0 3 v0 rfl rfl) h0
  obtain ⟨a1, rfl, rfl, rfl, w1⟩ := open_int Try.underlying3 (hval 1 3 v1 rfl rfl) h1
  have k2 := h2
  have lt2 : ∀ x ∈ p2, x.block < W.heap.size := by obtain ⟨m, hm⟩ := k2; exact DataW.trod_lt m _ _ _ hm
  have o2 := open_acts12 (hval 2 22 v2 rfl rfl) h2
  clear hA0 hval0
  refine (walk W a0 w0 a1 w1 v2 o2).mono fun e W' ⟨he, bel⟩ => ?_
  subst he
  exact ⟨_, rfl, _, _, _, [], _, [], hW', trodAll_mk1 (shut_bool Try.underlying4 _), (trodAll_cons_mk (shut_int Try.underlying3 w0) (trodAll_cons_mk (shut_int Try.underlying3 w1) (trodAll_cons_mk (Below.trod laidOut (by kernel_rfl) (of_decide_eq_true (by kernel_rfl)) k2 bel lt2) trodAll_mk0))), rfl, bel.frame _, fun h => by cases h⟩

theorem over : Rows.pagesPlayRow.holds Try.pinned (OpenSpec.ofChange Rows.pagesPlaySpec) :=
  OpenClaim.holds_of_wide 3 Try.f3 rfl rfl rfl rfl rfl rfl rfl ⟨rfl, rfl, rfl, rfl, rfl⟩ rfl rfl rfl rfl rfl (by kernel_rfl) Try.func3 (by kernel_rfl)
    (of_decide_eq_true (by kernel_rfl)) (by unfold Func.isWrapper; first | (rw [if_pos (by decide +kernel)]; kernel_rfl) | (rw [if_neg (by decide +kernel)]; exact ⟨rfl, rfl⟩))
    (fun os started H enc _ => lifted os started H enc)

theorem proved : Rows.PagesPlaySaid := over
#print axioms proved

end Go.Proofs.Ytkikfbndcaojjaa.pagesPlay
