/- Whatever the input, haycroftlaw08.HeaderTurns returns true and changes no argument. Conditions: none. -/
import Derived.Test.YtjfifnfdpkaijaaHa
import Derived.Test.YtjfifnfdpkaijaaHb
import Derived.Test.YtjfifnfdpkaijaaRows
import Derived.WalkKit
import Derived.ProofKit
import Derived.OpenShut
import Derived.ShutString
import Derived.ChangeOld
import Derived.Below
namespace Go.Proofs.Ytjfifnfdpkaijaa.headerTurns
open Go.ChangeShapes Go.WideShapes Go.ChangeAt Go.RowKit
open Go.ChangeMaps (open_string shut_string)
set_option linter.unusedVariables false      -- a walk need not use every 'w<i>' (that an integer argument fits its kind)

theorem own : ownKnob Try.prog.godebug = none := by kernel_rfl


set_option maxHeartbeats 1000000 in
theorem walk (a0 : Int) (w0 : (Lit.int .u32 a0).wf = true) (w : World) :
    Calls Try.prog 5 #[.int .u32 a0] w fun e w' => e = .returned (.bool true) ∧ Below w.heap.size w w' := by
  obtain ⟨N, rfl, hN⟩ : ∃ n : Nat, a0 = (n : Int) ∧ n < 4294967296 := by
    have := bounds_u32 w0
    exact ⟨a0.toNat, by omega, by omega⟩
  have i1 : isLockB N = true := by simp only [isLockB, decide_eq_true_eq]; omega
  have i2 : writesB N = false := by simp only [writesB, decide_eq_false_iff_not]; omega
  have j1 : isLockB (N + 9223372036854775808) = true := by simp only [isLockB, decide_eq_true_eq]; omega
  have j2 : writesB (N + 9223372036854775808) = true := by simp only [writesB, decide_eq_true_eq]; omega
  have hA : N + 9223372036854775808 < 18446744073709551616 := by omega
  have hB : ((N + 9223372036854775808) % 4294967296 + 1) % 4294967296 < 4294967296 := Nat.mod_lt _ (by decide)
  have HB : Hid ((((N + 9223372036854775808) % 4294967296 + 1) % 4294967296 : Nat) = ((N : Int) + 1) % 4294967296) := by
    simp only [Hid]; omega
  have k2 : writesB (((N + 9223372036854775808) % 4294967296 + 1) % 4294967296) = false := by simp only [writesB, decide_eq_false_iff_not]; omega
  generalize hAA : N + 9223372036854775808 = A at *
  generalize hBB : (A % 4294967296 + 1) % 4294967296 = B at *
  have HA := hide hAA
  have HBB := hide hBB
  clear hAA hBB
  go_enter Try.func5, Try.ntmps5
  go_wp2_with fail
  refine (awake_any _).mono ?_
  rintro e x1 ⟨rfl, b1⟩
  go_wp2_with fail
  refine (lock_yes N _ (by omega) i1 i2).mono ?_
  rintro e x2 ⟨rfl, b2⟩
  replace b2 := b1.trans (b2.mono b1.size)
  rw [HA.out]
  go_wp2_with fail
  refine (lock_busy A _ hA j1 j2).mono ?_
  rintro e x3 ⟨rfl, b3⟩
  replace b3 := b2.trans (b3.mono b2.size)
  go_wp2_with fail
  refine (unlock_yes A _ hA j1 j2).mono ?_
  rintro e x4 ⟨rfl, b4⟩
  replace b4 := b3.trans (b4.mono b3.size)
  rw [HBB.out]
  go_wp2_with fail
  refine (locked_any B _ (by omega)).mono ?_
  rintro e x5 ⟨rfl, b5⟩
  replace b5 := b4.trans (b5.mono b4.size)
  go_wp2
  go_ret
  exact ⟨ret_bool (by rw [HB.out]; simp), b5⟩
/-! ### THE ROW's STEP: WRITTEN OUT: LEAVE IT -/
set_option maxRecDepth 100000 in
theorem lifted (os : Os) (started : os.Started) (H : Type) (enc : TypeId × Value → H) :
    ReturnsInHanded {} Try.checked os 5 .any (Rows.headerTurnsSpec.pre6 enc Try.prog Try.f5 Rows.headerTurnsRow.domain false) (Rows.headerTurnsSpec.post enc Try.prog Try.f5 false true false false) := by
  refine returnsInHanded_of_change (C := Try.checked) own started (by kernel_rfl) Try.func5
    (ChangeSpec.witness6 (enc := enc) (C := Try.checked) false ⟨#[], #[.int .u32 0], []⟩ 8 (by kernel_rfl) (by kernel_rfl) (by kernel_rfl) (by kernel_rfl)) ?_
  intro W base args ds gs before hval0 hW hcnd _
  have hval : ∀ (j : Nat) t v, Try.f5.params[j]? = some t → args[j]? = some v → Value.okWide Try.prog W .any base t v := hval0
  have hW' := hW
  obtain ⟨p, q, hA0, hV, rfl, hfz, hnd⟩ := hW
  have hA : DataW.TrodAll enc Try.prog W 0 (fun _ => true) true Try.f5.params.toList args.toList ds p := hA0
  rw [Try.params5] at hA hval
  obtain ⟨v0, vs0, d0, ds0, p0, q0, hargs, rfl, rfl, h0, r0⟩ := trodAll_cons hA
  obtain ⟨rfl, rfl, rfl⟩ := trodAll_nil r0
  obtain rfl : args = #[v0] := by cases args; simp_all
  obtain ⟨rfl, rfl⟩ := trodVars_none hV
  obtain ⟨a0, rfl, rfl, rfl, w0⟩ := open_int Try.underlying37 (hval 0 37 v0 rfl rfl) h0
  clear hA0 hval0
  simp only [List.append_nil] at hW'
  refine (walk a0 w0 W).mono fun e W' ⟨he, bel⟩ => ?_
  subst he
  exact ⟨_, rfl, _, _, _, [], _, [], hW', (trodAll_cons_mk (shut_bool Try.underlying4 _) trodAll_mk0), (trodAll_cons_mk (shut_int Try.underlying37 w0) trodAll_mk0), rfl, bel.frame _, fun h => by cases h⟩

theorem over : Rows.headerTurnsRow.holds Try.pinned (OpenSpec.ofChange Rows.headerTurnsSpec) :=
  OpenClaim.holds_of_wide 5 Try.f5 rfl rfl rfl rfl rfl rfl rfl ⟨rfl, rfl, rfl, rfl, rfl⟩ rfl rfl rfl rfl rfl (by kernel_rfl) Try.func5 (by kernel_rfl)
    (of_decide_eq_true (by kernel_rfl)) (by unfold Func.isWrapper; first | (rw [if_pos (by decide +kernel)]; kernel_rfl) | (rw [if_neg (by decide +kernel)]; exact ⟨rfl, rfl⟩))
    (fun os started H enc _ => lifted os started H enc)

/-- ████ THE STATEMENT ████ -/
theorem proved : Rows.HeaderTurnsSaid :=
  over
#print axioms proved

end Go.Proofs.Ytjfifnfdpkaijaa.headerTurns
