/- Whatever the input, haycroftlaw02.PlaceOf returns true and changes no argument. Conditions: none. -/
import Derived.Test.YtgecekfcglelhaaWq
import Derived.Test.YtgecekfcglelhaaRows
import Derived.WalkKit
import Derived.ProofKit
import Derived.OpenShut
import Derived.ShutString
import Derived.ChangeOld
import Derived.Below
namespace Go.Proofs.Ytgecekfcglelhaa.placeOf
open Go.ChangeShapes Go.WideShapes Go.ChangeAt Go.RowKit
open Go.ChangeMaps (open_string shut_string)
set_option linter.unusedVariables false      -- a walk need not use every 'w<i>' (that an integer argument fits its kind)

theorem own : ownKnob Try.prog.godebug = none := by kernel_rfl


set_option maxHeartbeats 1000000 in
theorem walk (a0 : Int) (a1 : Int) (a2 : Int) (a3 : Int) (w0 : (Lit.int .i64 a0).wf = true) (w1 : (Lit.int .i64 a1).wf = true) (w2 : (Lit.int .i64 a2).wf = true) (w3 : (Lit.int .u64 a3).wf = true) (w : World) :
    Calls Try.prog 4 #[.int .i64 a0, .int .i64 a1, .int .i64 a2, .int .u64 a3] w fun e w' => e = .returned (.bool true) ∧ Below w.heap.size w w' := by
  obtain ⟨n, rfl, hn⟩ := nat_of_wf w3
  have hp := (bounds_i64 w1).2
  have hx0 : ((ofV a0 a1 a2 : Int) != (ofV a0 a1 a2 : Int)) = false := by simp
  have hx1 : (ofE a0 a1 a2 != ofE a0 a1 a2) = false := by simp
  have hx2 : ((ofV a0 a1 0 : Int) != (ofV a0 a1 0 : Int)) = false := by simp
  by_cases hb : 5 ≤ a0 ∧ a0 ≤ 9
  · have hm : mayB a0 = true := by simp only [mayB, decide_eq_true_eq]; exact hb
    by_cases ha : n ≤ 281474976710655
    · have H := hide (of_parts a0 n hb ha)
      have hpl := pageN_le a0 n
      go_enter Try.func4, Try.ntmps4
      go_wp2_with fail
      refine (awake2_any _).mono ?_
      rintro e x1 ⟨rfl, b1⟩
      go_wp2_with fail
      refine (of_any _ _ _ _ hp).mono ?_
      rintro e x2 ⟨rfl, b2⟩
      replace b2 := b1.trans (b2.mono b1.size)
      go_wp2_with fail
      refine (rof_any _ _ _ _ hp).mono ?_
      rintro e x3 ⟨rfl, rfl⟩
      go_wp2_with fail
      refine (rof_any _ _ _ _ hp).mono ?_
      rintro e x4 ⟨rfl, rfl⟩
      go_wp2_with fail
      refine (first_any _ _ _ hp).mono ?_
      rintro e x5 ⟨rfl, b5⟩
      replace b5 := b2.trans (b5.mono b2.size)
      go_wp2_with fail
      refine (may_any _ _).mono ?_
      rintro e x6 ⟨rfl, rfl⟩
      go_wp2_with fail
      refine (page_any _ _ _ hn).mono ?_
      rintro e x7 ⟨rfl, b7⟩
      replace b7 := b5.trans (b7.mono b5.size)
      go_wp2_with fail
      refine (offset_any _ _ _ hn).mono ?_
      rintro e x8 ⟨rfl, b8⟩
      replace b8 := b7.trans (b8.mono b7.size)
      go_wp2_with fail
      refine (of_any _ _ _ _ (by omega)).mono ?_
      rintro e x9 ⟨rfl, b9⟩
      replace b9 := b8.trans (b9.mono b8.size)
      rw [H.out.1, H.out.2]
      go_wp2
      go_ret
      exact ⟨ret_bool (by simp), b9⟩
    · go_enter Try.func4, Try.ntmps4
      go_wp2_with fail
      refine (awake2_any _).mono ?_
      rintro e x1 ⟨rfl, b1⟩
      go_wp2_with fail
      refine (of_any _ _ _ _ hp).mono ?_
      rintro e x2 ⟨rfl, b2⟩
      replace b2 := b1.trans (b2.mono b1.size)
      go_wp2_with fail
      refine (rof_any _ _ _ _ hp).mono ?_
      rintro e x3 ⟨rfl, rfl⟩
      go_wp2_with fail
      refine (rof_any _ _ _ _ hp).mono ?_
      rintro e x4 ⟨rfl, rfl⟩
      go_wp2_with fail
      refine (first_any _ _ _ hp).mono ?_
      rintro e x5 ⟨rfl, b5⟩
      replace b5 := b2.trans (b5.mono b2.size)
      go_wp2_with fail
      refine (may_any _ _).mono ?_
      rintro e x6 ⟨rfl, rfl⟩
      go_wp2
      go_ret
      exact ⟨rfl, b5⟩
  · have hm : mayB a0 = false := by simp only [mayB, decide_eq_false_iff_not]; exact hb
    go_enter Try.func4, Try.ntmps4
    go_wp2_with fail
    refine (awake2_any _).mono ?_
    rintro e x1 ⟨rfl, b1⟩
    go_wp2_with fail
    refine (of_any _ _ _ _ hp).mono ?_
    rintro e x2 ⟨rfl, b2⟩
    replace b2 := b1.trans (b2.mono b1.size)
    go_wp2_with fail
    refine (rof_any _ _ _ _ hp).mono ?_
    rintro e x3 ⟨rfl, rfl⟩
    go_wp2_with fail
    refine (rof_any _ _ _ _ hp).mono ?_
    rintro e x4 ⟨rfl, rfl⟩
    go_wp2_with fail
    refine (first_any _ _ _ hp).mono ?_
    rintro e x5 ⟨rfl, b5⟩
    replace b5 := b2.trans (b5.mono b2.size)
    go_wp2_with fail
    refine (may_any _ _).mono ?_
    rintro e x6 ⟨rfl, rfl⟩
    go_wp2
    go_ret
    exact ⟨rfl, b5⟩
/-! ### THE ROW's STEP: WRITTEN OUT: LEAVE IT -/
set_option maxRecDepth 100000 in
theorem lifted (os : Os) (started : os.Started) (H : Type) (enc : TypeId × Value → H) :
    ReturnsInHanded {} Try.checked os 4 .any (Rows.placeOfSpec.pre6 enc Try.prog Try.f4 Rows.placeOfRow.domain false) (Rows.placeOfSpec.post enc Try.prog Try.f4 false true false false) := by
  refine returnsInHanded_of_change (C := Try.checked) own started (by kernel_rfl) Try.func4
    (ChangeSpec.witness6 (enc := enc) (C := Try.checked) false ⟨#[], #[.int .i64 0, .int .i64 0, .int .i64 0, .int .u64 0], []⟩ 8 (by kernel_rfl) (by kernel_rfl) (by kernel_rfl) (by kernel_rfl)) ?_
  intro W base args ds gs before hval0 hW hcnd _
  have hval : ∀ (j : Nat) t v, Try.f4.params[j]? = some t → args[j]? = some v → Value.okWide Try.prog W .any base t v := hval0
  have hW' := hW
  obtain ⟨p, q, hA0, hV, rfl, hfz, hnd⟩ := hW
  have hA : DataW.TrodAll enc Try.prog W 0 (fun _ => true) true Try.f4.params.toList args.toList ds p := hA0
  rw [Try.params4] at hA hval
  obtain ⟨v0, vs0, d0, ds0, p0, q0, hargs, rfl, rfl, h0, r0⟩ := trodAll_cons hA
  obtain ⟨v1, vs1, d1, ds1, p1, q1, rfl, rfl, rfl, h1, r1⟩ := trodAll_cons r0
  obtain ⟨v2, vs2, d2, ds2, p2, q2, rfl, rfl, rfl, h2, r2⟩ := trodAll_cons r1
  obtain ⟨v3, vs3, d3, ds3, p3, q3, rfl, rfl, rfl, h3, r3⟩ := trodAll_cons r2
  obtain ⟨rfl, rfl, rfl⟩ := trodAll_nil r3
  obtain rfl : args = #[v0, v1, v2, v3] := by cases args; simp_all
  obtain ⟨rfl, rfl⟩ := trodVars_none hV
  obtain ⟨a0, rfl, rfl, rfl, w0⟩ := open_int Try.underlying3 (hval 0 3 v0 rfl rfl) h0
  obtain ⟨a1, rfl, rfl, rfl, w1⟩ := open_int Try.underlying3 (hval 1 3 v1 rfl rfl) h1
  obtain ⟨a2, rfl, rfl, rfl, w2⟩ := open_int Try.underlying3 (hval 2 3 v2 rfl rfl) h2
  obtain ⟨a3, rfl, rfl, rfl, w3⟩ := open_int Try.underlying22 (hval 3 22 v3 rfl rfl) h3
  clear hA0 hval0
  simp only [List.append_nil] at hW'
  refine (walk a0 a1 a2 a3 w0 w1 w2 w3 W).mono fun e W' ⟨he, bel⟩ => ?_
  subst he
  exact ⟨_, rfl, _, _, _, [], _, [], hW', (trodAll_cons_mk (shut_bool Try.underlying4 _) trodAll_mk0), (trodAll_cons_mk (shut_int Try.underlying3 w0) (trodAll_cons_mk (shut_int Try.underlying3 w1) (trodAll_cons_mk (shut_int Try.underlying3 w2) (trodAll_cons_mk (shut_int Try.underlying22 w3) trodAll_mk0)))), rfl, bel.frame _, fun h => by cases h⟩

theorem over : Rows.placeOfRow.holds Try.pinned (OpenSpec.ofChange Rows.placeOfSpec) :=
  OpenClaim.holds_of_wide 4 Try.f4 rfl rfl rfl rfl rfl rfl rfl ⟨rfl, rfl, rfl, rfl, rfl⟩ rfl rfl rfl rfl rfl (by kernel_rfl) Try.func4 (by kernel_rfl)
    (of_decide_eq_true (by kernel_rfl)) (by unfold Func.isWrapper; first | (rw [if_pos (by decide +kernel)]; kernel_rfl) | (rw [if_neg (by decide +kernel)]; exact ⟨rfl, rfl⟩))
    (fun os started H enc _ => lifted os started H enc)

/-- ████ THE STATEMENT ████ -/
theorem proved : Rows.PlaceOfSaid :=
  over
#print axioms proved

end Go.Proofs.Ytgecekfcglelhaa.placeOf
