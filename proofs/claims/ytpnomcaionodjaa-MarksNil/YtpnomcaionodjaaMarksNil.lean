/- Whatever the input, haycroftlaw13.MarksNil returns true and changes no argument. Conditions: none. -/
import Derived.Test.YtpnomcaionodjaaKd
import Derived.Test.YtpnomcaionodjaaRows
import Derived.WalkKit
import Derived.ProofKit
import Derived.OpenShut
import Derived.ShutString
import Derived.ChangeOld
import Derived.Below
import Derived.ChangeSame
namespace Go.Proofs.Ytpnomcaionodjaa.marksNil
open Go.ChangeShapes Go.WideShapes Go.ChangeAt Go.RowKit
open Go.ChangeMaps (open_string shut_string)
set_option linter.unusedVariables false
theorem own : ownKnob Try.prog.godebug = none := by kernel_rfl
theorem laidOut : laidOutB Try.prog = true := by kernel_rfl

set_option maxHeartbeats 1000000 in
theorem walk (w : World) (v : Value) (o : IsAm w v) :
    Calls Try.prog 5 #[v] w fun e w' => e = .returned (.bool true) ∧ Below w.heap.size w w' := by
  obtain ⟨⟨bg, mk, to, tl⟩, -, rfl⟩ := o
  simp only
  go_enter Try.func5, Try.ntmps5
  go_wp2_with fail
  refine (awake13 _).mono ?_
  rintro e x1 ⟨rfl, b1⟩
  have hb : Below w.heap.size w x1 := ((Below.refl _ w).alloc (Nat.le_refl _) _).trans (b1.mono (by simp))
  have hc : ∀ j, x1.cell? ⟨w.heap.size, j, none⟩ = (#[.bool bg, .int .i64 mk, .int .i64 to, .int .u8 tl] : Array Value)[j]? := fun j => by
    rw [b1.cell (by simp)]; simp
  have c1 := hc 1
  have c2 := hc 2
  simp at c1 c2
  have HB := hide hb
  clear hc hb b1
  go_wp2_with fail
  refine (mn_at mk _).mono ?_
  rintro e x ⟨rfl, rfl⟩
  go_wp2_with fail
  refine (mn_most mk to _).mono ?_
  rintro e x ⟨rfl, rfl⟩
  go_wp2_with fail
  refine (mn_raise mk to to _).mono ?_
  rintro e x ⟨rfl, rfl⟩
  go_wp2_with fail
  refine (mn_region to to _).mono ?_
  rintro e x ⟨rfl, rfl⟩
  go_wp2_with fail
  refine (mn_all _).mono ?_
  rintro e x ⟨rfl, rfl⟩
  go_wp2_with fail
  refine (mn_begin to _).mono ?_
  rintro e x ⟨rfl, rfl⟩
  go_wp2
  go_ret
  exact ⟨rfl, HB.out⟩

set_option maxRecDepth 100000 in
theorem lifted (os : Os) (started : os.Started) (H : Type) (enc : TypeId × Value → H) :
    ReturnsInHanded {} Try.checked os 5 .any (Rows.marksNilSpec.pre6 enc Try.prog Try.f5 Rows.marksNilRow.domain false) (Rows.marksNilSpec.post enc Try.prog Try.f5 false true false false) := by
  refine returnsInHanded_of_change (C := Try.checked) own started (by kernel_rfl) Try.func5
    (ChangeSpec.witness6 (enc := enc) (C := Try.checked) false ⟨#[], #[.agg #[.bool false, .int .i64 0, .int .i64 0, .int .u8 0]], []⟩ 8 (by kernel_rfl) (by kernel_rfl) (by kernel_rfl) (by kernel_rfl)) ?_
  intro W base args ds gs before hval0 hW hcnd _
  have hval : ∀ (j : Nat) t v, Try.f5.params[j]? = some t → args[j]? = some v → Value.okWide Try.prog W .any base t v := hval0
  have hW' := hW
  obtain ⟨p, q, hA0, hV, rfl, hfz, hnd⟩ := hW
  have hA : DataW.TrodAll enc Try.prog W 0 (fun _ => true) true Try.f5.params.toList args.toList ds p := hA0
  rw [Try.params5] at hA hval
  obtain ⟨v0, vs0, d0, ds0, p0, q0, hargs, rfl, rfl, h0, r0⟩ := trodAll_cons hA
  obtain ⟨rfl, rfl, rfl⟩ := trodAll_nil r0
  obtain rfl : args = #[v0] := by cases args; simp_all
  obtain ⟨rfl, rfl⟩ := trodVars_none hV
  have k0 := h0
  have lt0 : ∀ x ∈ p0, x.block < W.heap.size := by obtain ⟨m, hm⟩ := k0; exact DataW.trod_lt m _ _ _ hm
  have o0 := open_Am (hval 0 31 v0 rfl rfl) h0
  clear hA0 hval0
  refine (walk W v0 o0).mono fun e W' ⟨he, bel⟩ => ?_
  subst he
  exact ⟨_, rfl, _, _, _, [], _, [], hW', trodAll_mk1 (shut_bool Try.underlying4 _), (trodAll_cons_mk (Below.trod laidOut (by kernel_rfl) (of_decide_eq_true (by kernel_rfl)) k0 bel lt0) trodAll_mk0), rfl, bel.frame _, fun h => by cases h⟩

theorem over : Rows.marksNilRow.holds Try.pinned (OpenSpec.ofChange Rows.marksNilSpec) :=
  OpenClaim.holds_of_wide 5 Try.f5 rfl rfl rfl rfl rfl rfl rfl ⟨rfl, rfl, rfl, rfl, rfl⟩ rfl rfl rfl rfl rfl (by kernel_rfl) Try.func5 (by kernel_rfl)
    (of_decide_eq_true (by kernel_rfl)) (by unfold Func.isWrapper; first | (rw [if_pos (by decide +kernel)]; kernel_rfl) | (rw [if_neg (by decide +kernel)]; exact ⟨rfl, rfl⟩))
    (fun os started H enc _ => lifted os started H enc)

theorem proved : Rows.MarksNilSaid := over
#print axioms proved

end Go.Proofs.Ytpnomcaionodjaa.marksNil
