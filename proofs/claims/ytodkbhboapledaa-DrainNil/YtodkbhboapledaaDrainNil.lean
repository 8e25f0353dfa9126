/- Whatever the input, haycroftlaw07.DrainNil returns true and changes no argument. Conditions: none. -/
import Derived.Test.YtodkbhboapledaaZf
import Derived.Test.YtodkbhboapledaaRows
import Derived.WalkKit
import Derived.ProofKit
import Derived.OpenShut
import Derived.ShutString
import Derived.ChangeOld
import Derived.Below
import Derived.ChangeSame
namespace Go.Proofs.Ytodkbhboapledaa.drainNil
open Go.ChangeShapes Go.WideShapes Go.ChangeAt Go.RowKit
open Go.ChangeMaps (open_string shut_string)
set_option linter.unusedVariables false
theorem own : ownKnob Try.prog.godebug = none := by kernel_rfl
theorem laidOut : laidOutB Try.prog = true := by kernel_rfl

set_option maxHeartbeats 1000000 in
theorem walk (w : World) (v : Value) (o : IsAct v) :
    Calls Try.prog 5 #[v] w fun e w' => e = .returned (.bool true) ∧ Below w.heap.size w w' := by
  obtain ⟨⟨ae, ak, ap⟩, rfl⟩ := o
  simp only [A3.val]
  go_enter Try.func5, Try.ntmps5
  go_wp2_with fail
  refine (awake7_any _).mono ?_
  rintro e x1 ⟨rfl, b1⟩
  have hb : Below w.heap.size w x1 := ((Below.refl _ w).alloc (Nat.le_refl _) _).trans (b1.mono (by simp))
  have hc : ∀ j, x1.cell? ⟨w.heap.size, j, none⟩ = (#[.int .u64 ae, .int .i64 ak, .int .i64 ap] : Array Value)[j]? := fun j => by
    rw [b1.cell (by simp)]; simp
  have c0 := hc 0
  have c1 := hc 1
  have c2 := hc 2
  simp at c0 c1 c2
  clear hc b1
  have hsz : w.heap.size < x1.heap.size := World.block_lt_of_cell? x1 _ c0
  go_wp2_with fail
  refine (nil_put ae ak ap _).mono ?_
  rintro e x2 ⟨rfl, b2⟩
  have c0' : x2.cell? ⟨w.heap.size, 0, none⟩ = some (.int .u64 ae) := by rw [b2.cell hsz]; exact c0
  have hb2 := hb.trans (b2.mono (by omega))
  clear b2
  go_wp2_with fail
  refine (nil_ready ae _).mono ?_
  rintro e x ⟨rfl, rfl⟩
  go_wp2_with fail
  refine (nil_waiting _).mono ?_
  rintro e x ⟨rfl, rfl⟩
  go_wp2_with fail
  refine (nil_len _).mono ?_
  rintro e x ⟨rfl, rfl⟩
  go_wp2_with fail
  refine (nil_least _).mono ?_
  rintro e x ⟨rfl, rfl⟩
  go_wp2
  go_ret
  exact ⟨rfl, hb2⟩

set_option maxRecDepth 100000 in
theorem lifted (os : Os) (started : os.Started) (H : Type) (enc : TypeId × Value → H) :
    ReturnsInHanded {} Try.checked os 5 .any (Rows.drainNilSpec.pre6 enc Try.prog Try.f5 Rows.drainNilRow.domain false) (Rows.drainNilSpec.post enc Try.prog Try.f5 false true false false) := by
  refine returnsInHanded_of_change (C := Try.checked) own started (by kernel_rfl) Try.func5
    (ChangeSpec.witness6 (enc := enc) (C := Try.checked) false ⟨#[], #[.agg #[.int .u64 0, .int .i64 0, .int .i64 0]], []⟩ 8 (by kernel_rfl) (by kernel_rfl) (by kernel_rfl) (by kernel_rfl)) ?_
  intro W base args ds gs before hval0 hW hcnd _
  have hval : ∀ (j : Nat) t v, Try.f5.params[j]? = some t → args[j]? = some v → Value.okWide Try.prog W .any base t v := hval0
  have hW' := hW
  obtain ⟨p, q, hA0, hV, rfl, hfz, hnd⟩ := hW
  have hA : DataW.TrodAll enc Try.prog W 0 (fun _ => true) true Try.f5.params.toList args.toList ds p := hA0
  rw [Try.params5] at hA hval
  obtain ⟨v0, vs0, d0, ds0, p0, q0, hargs, rfl, rfl, h0, r0⟩ := trodAll_cons hA
  obtain ⟨rfl, rfl, rfl⟩ := trodAll_nil r0
  obtain rfl : args = #[v0] := by cases args; simp_all
  obtain ⟨rfl, rfl⟩ := trodVars_none hV
  have k0 := h0
  have lt0 : ∀ x ∈ p0, x.block < W.heap.size := by obtain ⟨m, hm⟩ := k0; exact DataW.trod_lt m _ _ _ hm
  have o0 := open_action (hval 0 33 v0 rfl rfl) h0
  clear hA0 hval0
  refine (walk W v0 o0).mono fun e W' ⟨he, bel⟩ => ?_
  subst he
  exact ⟨_, rfl, _, _, _, [], _, [], hW', trodAll_mk1 (shut_bool Try.underlying4 _), (trodAll_cons_mk (Below.trod laidOut (by kernel_rfl) (of_decide_eq_true (by kernel_rfl)) k0 bel lt0) trodAll_mk0), rfl, bel.frame _, fun h => by cases h⟩

theorem over : Rows.drainNilRow.holds Try.pinned (OpenSpec.ofChange Rows.drainNilSpec) :=
  OpenClaim.holds_of_wide 5 Try.f5 rfl rfl rfl rfl rfl rfl rfl ⟨rfl, rfl, rfl, rfl, rfl⟩ rfl rfl rfl rfl rfl (by kernel_rfl) Try.func5 (by kernel_rfl)
    (of_decide_eq_true (by kernel_rfl)) (by unfold Func.isWrapper; first | (rw [if_pos (by decide +kernel)]; kernel_rfl) | (rw [if_neg (by decide +kernel)]; exact ⟨rfl, rfl⟩))
    (fun os started H enc _ => lifted os started H enc)

theorem proved : Rows.DrainNilSaid := over
#print axioms proved

end Go.Proofs.Ytodkbhboapledaa.drainNil
