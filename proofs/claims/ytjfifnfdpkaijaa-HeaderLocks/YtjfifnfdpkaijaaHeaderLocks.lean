/- Whatever the input, haycroftlaw08.HeaderLocks returns true and changes no argument. Conditions: none. -/
import Derived.Test.YtjfifnfdpkaijaaHa
import Derived.Test.YtjfifnfdpkaijaaHb
import Derived.Test.YtjfifnfdpkaijaaRows
import Derived.WalkKit
import Derived.ProofKit
import Derived.OpenShut
import Derived.ShutString
import Derived.ChangeOld
import Derived.Below
namespace Go.Proofs.Ytjfifnfdpkaijaa.headerLocks
open Go.ChangeShapes Go.WideShapes Go.ChangeAt Go.RowKit
open Go.ChangeMaps (open_string shut_string)
set_option linter.unusedVariables false      -- a walk need not use every 'w<i>' (that an integer argument fits its kind)

theorem own : ownKnob Try.prog.godebug = none := by kernel_rfl


set_option maxHeartbeats 1000000 in
theorem walk (a0 : Int) (w0 : (Lit.int .u64 a0).wf = true) (w : World) :
    Calls Try.prog 4 #[.int .u64 a0] w fun e w' => e = .returned (.bool true) ∧ Below w.heap.size w w' := by
  obtain ⟨n, rfl, hn⟩ := nat_of_wf w0
  have hc : n % 4294967296 < 4294967296 := Nat.mod_lt _ (by decide)
  have e0 : (((n % 4294967296 : Nat) : Int) != ((n % 4294967296 : Nat) : Int)) = false := by simp
  generalize hN : n % 4294967296 = N at *
  have HC := hide hN
  clear hN
  cases h1 : isLockB n
  · cases h2 : writesB n
    · go_enter Try.func4, Try.ntmps4
      go_wp2_with fail
      refine (awake_any _).mono ?_
      rintro e x1 ⟨rfl, b1⟩
      go_wp2_with fail
      refine (rlock_any n _ hn).mono ?_
      rintro e x ⟨rfl, rfl⟩
      rw [h1, HC.out, h2]
      go_wp2_with fail
      refine (lock_form n _ hn h1).mono ?_
      rintro e x2 ⟨rfl, b2⟩
      replace b2 := b1.trans (b2.mono b1.size)
      go_wp2_with fail
      refine (unlock_form n _ hn h1).mono ?_
      rintro e x3 ⟨rfl, b3⟩
      replace b3 := b2.trans (b3.mono b2.size)
      go_wp2_with fail
      refine (locked_any n _ hn).mono ?_
      rintro e x4 ⟨rfl, b4⟩
      replace b4 := b3.trans (b4.mono b3.size)
      rw [h2]
      go_wp2_with fail
      refine (count_any n _ hn).mono ?_
      rintro e x5 ⟨rfl, b5⟩
      replace b5 := b4.trans (b5.mono b4.size)
      rw [HC.out]
      go_wp2
      go_ret
      exact ⟨rfl, b5⟩
    · go_enter Try.func4, Try.ntmps4
      go_wp2_with fail
      refine (awake_any _).mono ?_
      rintro e x1 ⟨rfl, b1⟩
      go_wp2_with fail
      refine (rlock_any n _ hn).mono ?_
      rintro e x ⟨rfl, rfl⟩
      rw [h1, HC.out, h2]
      go_wp2_with fail
      refine (lock_form n _ hn h1).mono ?_
      rintro e x2 ⟨rfl, b2⟩
      replace b2 := b1.trans (b2.mono b1.size)
      go_wp2_with fail
      refine (unlock_form n _ hn h1).mono ?_
      rintro e x3 ⟨rfl, b3⟩
      replace b3 := b2.trans (b3.mono b2.size)
      go_wp2_with fail
      refine (locked_any n _ hn).mono ?_
      rintro e x4 ⟨rfl, b4⟩
      replace b4 := b3.trans (b4.mono b3.size)
      rw [h2]
      go_wp2_with fail
      refine (count_any n _ hn).mono ?_
      rintro e x5 ⟨rfl, b5⟩
      replace b5 := b4.trans (b5.mono b4.size)
      rw [HC.out]
      go_wp2
      go_ret
      exact ⟨rfl, b5⟩
  · cases h2 : writesB n
    · have hs : n < 9223372036854775808 := by simpa [writesB] using h2
      obtain ⟨A, hA⟩ : ∃ A : Nat, n + 9223372036854775808 = A := ⟨_, rfl⟩
      have hA' : (n : Int) + 9223372036854775808 = (A : Int) := by omega
      have HA := hide hA
      clear hA
      go_enter Try.func4, Try.ntmps4
      go_wp2_with fail
      refine (awake_any _).mono ?_
      rintro e x1 ⟨rfl, b1⟩
      go_wp2_with fail
      refine (rlock_any n _ hn).mono ?_
      rintro e x ⟨rfl, rfl⟩
      rw [h1, HC.out, h2]
      go_wp2_with fail
      refine (lock_yes n _ hn h1 h2).mono ?_
      rintro e x2 ⟨rfl, b2⟩
      rw [HA.out]
      replace b2 := b1.trans (b2.mono b1.size)
      go_wp2_with fail
      refine (unlock_none n _ hn h1 h2).mono ?_
      rintro e x3 ⟨rfl, b3⟩
      replace b3 := b2.trans (b3.mono b2.size)
      go_wp2_with fail
      refine (locked_any n _ hn).mono ?_
      rintro e x4 ⟨rfl, b4⟩
      replace b4 := b3.trans (b4.mono b3.size)
      rw [h2]
      go_wp2_with fail
      refine (count_any n _ hn).mono ?_
      rintro e x5 ⟨rfl, b5⟩
      replace b5 := b4.trans (b5.mono b4.size)
      rw [HC.out]
      go_wp2
      go_ret
      exact ⟨ret_bool (by simp), b5⟩
    · obtain ⟨M, hM⟩ : ∃ M : Nat, (N + 1) % 4294967296 = M := ⟨_, rfl⟩
      have hM' : ((N : Int) + 1) % 4294967296 = (M : Int) := by omega
      have HM := hide hM
      clear hM
      go_enter Try.func4, Try.ntmps4
      go_wp2_with fail
      refine (awake_any _).mono ?_
      rintro e x1 ⟨rfl, b1⟩
      go_wp2_with fail
      refine (rlock_any n _ hn).mono ?_
      rintro e x ⟨rfl, rfl⟩
      rw [h1, HC.out, h2]
      go_wp2_with fail
      refine (lock_busy n _ hn h1 h2).mono ?_
      rintro e x2 ⟨rfl, b2⟩
      replace b2 := b1.trans (b2.mono b1.size)
      go_wp2_with fail
      refine (unlock_yes n _ hn h1 h2).mono ?_
      rintro e x3 ⟨rfl, b3⟩
      rw [HC.out, HM.out]
      replace b3 := b2.trans (b3.mono b2.size)
      go_wp2_with fail
      refine (locked_any n _ hn).mono ?_
      rintro e x4 ⟨rfl, b4⟩
      replace b4 := b3.trans (b4.mono b3.size)
      rw [h2]
      go_wp2_with fail
      refine (count_any n _ hn).mono ?_
      rintro e x5 ⟨rfl, b5⟩
      replace b5 := b4.trans (b5.mono b4.size)
      rw [HC.out]
      go_wp2
      go_ret
      exact ⟨ret_bool (by simp), b5⟩
/-! ### THE ROW's STEP: WRITTEN OUT: LEAVE IT -/
set_option maxRecDepth 100000 in
theorem lifted (os : Os) (started : os.Started) (H : Type) (enc : TypeId × Value → H) :
    ReturnsInHanded {} Try.checked os 4 .any (Rows.headerLocksSpec.pre6 enc Try.prog Try.f4 Rows.headerLocksRow.domain false) (Rows.headerLocksSpec.post enc Try.prog Try.f4 false true false false) := by
  refine returnsInHanded_of_change (C := Try.checked) own started (by kernel_rfl) Try.func4
    (ChangeSpec.witness6 (enc := enc) (C := Try.checked) false ⟨#[], #[.int .u64 0], []⟩ 8 (by kernel_rfl) (by kernel_rfl) (by kernel_rfl) (by kernel_rfl)) ?_
  intro W base args ds gs before hval0 hW hcnd _
  have hval : ∀ (j : Nat) t v, Try.f4.params[j]? = some t → args[j]? = some v → Value.okWide Try.prog W .any base t v := hval0
  have hW' := hW
  obtain ⟨p, q, hA0, hV, rfl, hfz, hnd⟩ := hW
  have hA : DataW.TrodAll enc Try.prog W 0 (fun _ => true) true Try.f4.params.toList args.toList ds p := hA0
  rw [Try.params4] at hA hval
  obtain ⟨v0, vs0, d0, ds0, p0, q0, hargs, rfl, rfl, h0, r0⟩ := trodAll_cons hA
  obtain ⟨rfl, rfl, rfl⟩ := trodAll_nil r0
  obtain rfl : args = #[v0] := by cases args; simp_all
  obtain ⟨rfl, rfl⟩ := trodVars_none hV
  obtain ⟨a0, rfl, rfl, rfl, w0⟩ := open_int Try.underlying22 (hval 0 22 v0 rfl rfl) h0
  clear hA0 hval0
  simp only [List.append_nil] at hW'
  refine (walk a0 w0 W).mono fun e W' ⟨he, bel⟩ => ?_
  subst he
  exact ⟨_, rfl, _, _, _, [], _, [], hW', (trodAll_cons_mk (shut_bool Try.underlying4 _) trodAll_mk0), (trodAll_cons_mk (shut_int Try.underlying22 w0) trodAll_mk0), rfl, bel.frame _, fun h => by cases h⟩

theorem over : Rows.headerLocksRow.holds Try.pinned (OpenSpec.ofChange Rows.headerLocksSpec) :=
  OpenClaim.holds_of_wide 4 Try.f4 rfl rfl rfl rfl rfl rfl rfl ⟨rfl, rfl, rfl, rfl, rfl⟩ rfl rfl rfl rfl rfl (by kernel_rfl) Try.func4 (by kernel_rfl)
    (of_decide_eq_true (by kernel_rfl)) (by unfold Func.isWrapper; first | (rw [if_pos (by decide +kernel)]; kernel_rfl) | (rw [if_neg (by decide +kernel)]; exact ⟨rfl, rfl⟩))
    (fun os started H enc _ => lifted os started H enc)

/-- ████ THE STATEMENT ████ -/
theorem proved : Rows.HeaderLocksSaid :=
  over
#print axioms proved

end Go.Proofs.Ytjfifnfdpkaijaa.headerLocks
