/- Whatever the input, haycroftlaw02.PlaceParts returns true and changes no argument. Conditions: none. -/
import Derived.Test.YtgecekfcglelhaaWq
import Derived.Test.YtgecekfcglelhaaRows
import Derived.WalkKit
import Derived.ProofKit
import Derived.OpenShut
import Derived.ShutString
import Derived.ChangeOld
import Derived.Below
namespace Go.Proofs.Ytgecekfcglelhaa.placeParts
open Go.ChangeShapes Go.WideShapes Go.ChangeAt Go.RowKit
open Go.ChangeMaps (open_string shut_string)
set_option linter.unusedVariables false      -- a walk need not use every 'w<i>' (that an integer argument fits its kind)

theorem own : ownKnob Try.prog.godebug = none := by kernel_rfl


theorem may_size (b : Int) : mayB b = decide ((0 : Int) < (sizeN b : Int)) := by
  unfold mayB
  rw [decide_eq_decide]
  constructor
  · intro h
    have := sizeN_pos h
    omega
  · intro h
    by_cases hb : 5 ≤ b ∧ b ≤ 9
    · exact hb
    · rw [sizeN_no hb] at h; exact absurd h (by decide)
theorem right_eq (v : Nat) : decide (1 ≤ v ∧ v ≤ 281474976710655) = (decide ((1 : Int) ≤ (v : Int)) && decide ((v : Int) ≤ 281474976710655)) := by
  rw [← Bool.decide_and, decide_eq_decide]; omega
set_option maxHeartbeats 1000000 in
theorem walk (a0 : Int) (a1 : Int) (w0 : (Lit.int .i64 a0).wf = true) (w1 : (Lit.int .u64 a1).wf = true) (w : World) :
    Calls Try.prog 3 #[.int .i64 a0, .int .u64 a1] w fun e w' => e = .returned (.bool true) ∧ Below w.heap.size w w' := by
  obtain ⟨n, rfl, hn⟩ := nat_of_wf w1
  have HS := hide (may_size a0)
  have HR := hide (right_eq n)
  have hsz := sizeN_bounds a0
  go_enter Try.func3, Try.ntmps3
  go_wp2_with fail
  refine (awake2_any _).mono ?_
  rintro e x1 ⟨rfl, b1⟩
  go_wp2_with fail
  refine (may_any _ _).mono ?_
  rintro e x2 ⟨rfl, rfl⟩
  go_wp2_with fail
  refine (rsize_any _ _).mono ?_
  rintro e x3 ⟨rfl, rfl⟩
  rw [HS.out]
  go_wp2_with fail
  refine (psize_any _ _).mono ?_
  rintro e x4 ⟨rfl, rfl⟩
  go_wp2_with fail
  refine (rsize_any _ _).mono ?_
  rintro e x5 ⟨rfl, rfl⟩
  go_wp2_with fail
  refine (page_any _ _ _ hn).mono ?_
  rintro e x6 ⟨rfl, b6⟩
  replace b6 := b1.trans (b6.mono b1.size)
  go_wp2_with fail
  refine (rpage_any _ _ _ hn).mono ?_
  rintro e x7 ⟨rfl, rfl⟩
  go_wp2_with fail
  refine (offset_any _ _ _ hn).mono ?_
  rintro e x8 ⟨rfl, b8⟩
  replace b8 := b6.trans (b8.mono b6.size)
  go_wp2_with fail
  refine (roff_any _ _ _ hn).mono ?_
  rintro e x9 ⟨rfl, rfl⟩
  go_wp2_with fail
  refine (room_any _ _ _ hn).mono ?_
  rintro e y1 ⟨rfl, c1⟩
  replace c1 := b8.trans (c1.mono b8.size)
  go_wp2_with fail
  refine (rroom_any _ _ _ hn).mono ?_
  rintro e y2 ⟨rfl, rfl⟩
  go_wp2_with fail
  refine (pright_any _ _).mono ?_
  rintro e y3 ⟨rfl, rfl⟩
  rw [HR.out]
  go_wp2
  all_goals
    go_ret
    exact ⟨ret_bool (by simp), c1⟩
/-! ### THE ROW's STEP: WRITTEN OUT: LEAVE IT -/
set_option maxRecDepth 100000 in
theorem lifted (os : Os) (started : os.Started) (H : Type) (enc : TypeId × Value → H) :
    ReturnsInHanded {} Try.checked os 3 .any (Rows.placePartsSpec.pre6 enc Try.prog Try.f3 Rows.placePartsRow.domain false) (Rows.placePartsSpec.post enc Try.prog Try.f3 false true false false) := by
  refine returnsInHanded_of_change (C := Try.checked) own started (by kernel_rfl) Try.func3
    (ChangeSpec.witness6 (enc := enc) (C := Try.checked) false ⟨#[], #[.int .i64 0, .int .u64 0], []⟩ 8 (by kernel_rfl) (by kernel_rfl) (by kernel_rfl) (by kernel_rfl)) ?_
  intro W base args ds gs before hval0 hW hcnd _
  have hval : ∀ (j : Nat) t v, Try.f3.params[j]? = some t → args[j]? = some v → Value.okWide Try.prog W .any base t v := hval0
  have hW' := hW
  obtain ⟨p, q, hA0, hV, rfl, hfz, hnd⟩ := hW
  have hA : DataW.TrodAll enc Try.prog W 0 (fun _ => true) true Try.f3.params.toList args.toList ds p := hA0
  rw [Try.params3] at hA hval
  obtain ⟨v0, vs0, d0, ds0, p0, q0, hargs, rfl, rfl, h0, r0⟩ := trodAll_cons hA
  obtain ⟨v1, vs1, d1, ds1, p1, q1, rfl, rfl, rfl, h1, r1⟩ := trodAll_cons r0
  obtain ⟨rfl, rfl, rfl⟩ := trodAll_nil r1
  obtain rfl : args = #[v0, v1] := by cases args; simp_all
  obtain ⟨rfl, rfl⟩ := trodVars_none hV
  obtain ⟨a0, rfl, rfl, rfl, w0⟩ := open_int Try.underlying3 (hval 0 3 v0 rfl rfl) h0
  obtain ⟨a1, rfl, rfl, rfl, w1⟩ := open_int Try.underlying22 (hval 1 22 v1 rfl rfl) h1
  clear hA0 hval0
  simp only [List.append_nil] at hW'
  refine (walk a0 a1 w0 w1 W).mono fun e W' ⟨he, bel⟩ => ?_
  subst he
  exact ⟨_, rfl, _, _, _, [], _, [], hW', (trodAll_cons_mk (shut_bool Try.underlying4 _) trodAll_mk0), (trodAll_cons_mk (shut_int Try.underlying3 w0) (trodAll_cons_mk (shut_int Try.underlying22 w1) trodAll_mk0)), rfl, bel.frame _, fun h => by cases h⟩

theorem over : Rows.placePartsRow.holds Try.pinned (OpenSpec.ofChange Rows.placePartsSpec) :=
  OpenClaim.holds_of_wide 3 Try.f3 rfl rfl rfl rfl rfl rfl rfl ⟨rfl, rfl, rfl, rfl, rfl⟩ rfl rfl rfl rfl rfl (by kernel_rfl) Try.func3 (by kernel_rfl)
    (of_decide_eq_true (by kernel_rfl)) (by unfold Func.isWrapper; first | (rw [if_pos (by decide +kernel)]; kernel_rfl) | (rw [if_neg (by decide +kernel)]; exact ⟨rfl, rfl⟩))
    (fun os started H enc _ => lifted os started H enc)

/-- ████ THE STATEMENT ████ -/
theorem proved : Rows.PlacePartsSaid :=
  over
#print axioms proved

end Go.Proofs.Ytgecekfcglelhaa.placeParts
