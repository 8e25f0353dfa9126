/- Whatever the input, haycroftlaw09.RecordNumbers returns true and changes no argument. Conditions: none. -/
import Derived.Test.YtmjolhmlhdhkfaaRd
import Derived.Test.YtmjolhmlhdhkfaaRows
import Derived.WalkKit
import Derived.ProofKit
import Derived.OpenShut
import Derived.ShutString
import Derived.ChangeOld
import Derived.Below
namespace Go.Proofs.Ytmjolhmlhdhkfaa.recordNumbers
open Go.ChangeShapes Go.WideShapes Go.ChangeAt Go.RowKit
open Go.ChangeMaps (open_string shut_string)
set_option linter.unusedVariables false      -- a walk need not use every 'w<i>' (that an integer argument fits its kind)

theorem own : ownKnob Try.prog.godebug = none := by kernel_rfl


theorem str_refl (s : ByteArray) : (s.toList == s.toList) = true := by simp
set_option maxHeartbeats 1000000 in
theorem walk_long (n : Nat) (s : ByteArray) (h : 1000 < s.size) (w : World) :
    Calls Try.prog 6 #[.int .u64 (n : Int), .string s] w fun e w' => e = .returned (.bool true) ∧ Below w.heap.size w w' := by
  go_enter Try.func6, Try.ntmps6
  go_wp2_with fail
  refine (awake_any _).mono ?_
  rintro e x1 ⟨rfl, b1⟩
  go_wp2
  go_ret
  exact ⟨rfl, b1⟩
set_option maxHeartbeats 1000000 in
theorem walk_yes (n : Nat) (s : ByteArray) (hn : n < 18446744073709551616) (h : s.size ≤ 1000) (w : World) :
    Calls Try.prog 6 #[.int .u64 (n : Int), .string s] w fun e w' => e = .returned (.bool true) ∧ Below w.heap.size w w' := by
  have HN := hide (numN_val n hn)
  have HW := hide (sum_wrap (numN s) n)
  have ev := str_refl (valS n)
  have es := str_refl (valS (sumN (numN s) n))
  have en : ((n : Int) == (n : Int)) = true := by simp
  have em : ((numN s : Int) == (numN s : Int)) = true := by simp
  have hz := valS_size n
  go_enter Try.func6, Try.ntmps6
  go_wp2_with fail
  refine (awake_any _).mono ?_
  rintro e x1 ⟨rfl, b1⟩
  go_wp2_with fail
  refine (value_any n _).mono ?_
  rintro e x2 ⟨rfl, b2⟩
  replace b2 := b1.trans (b2.mono b1.size)
  clear b1
  go_wp2_with fail
  refine (rvalue_any n _ hn).mono ?_
  rintro e x3 ⟨rfl, b3⟩
  replace b3 := b2.trans (b3.mono b2.size)
  clear b2
  go_wp2_with fail
  refine (number_any (valS n) _ (by omega)).mono ?_
  rintro e x4 ⟨rfl, b4⟩
  rw [HN.out]
  replace b4 := b3.trans (b4.mono b3.size)
  clear b3
  go_wp2_with fail
  refine (number_any s _ (by omega)).mono ?_
  rintro e x5 ⟨rfl, b5⟩
  replace b5 := b4.trans (b5.mono b4.size)
  clear b4
  go_wp2_with fail
  refine (rnumber_any s _).mono ?_
  rintro e x6 ⟨rfl, rfl⟩
  go_wp2_with fail
  refine (adds_any s n _ (by omega)).mono ?_
  rintro e x7 ⟨rfl, b7⟩
  replace b7 := b5.trans (b7.mono b5.size)
  clear b5
  go_wp2_with fail
  refine (rnumber_any s _).mono ?_
  rintro e x8 ⟨rfl, rfl⟩
  go_wp2_with fail
  rw [HW.out]
  refine (rvalue_any _ _ (sumN_lt _ _)).mono ?_
  rintro e x9 ⟨rfl, b9⟩
  replace b9 := b7.trans (b9.mono b7.size)
  clear b7
  go_wp2
  go_ret
  exact ⟨ret_bool (by simp), b9⟩
theorem walk (a0 : Int) (s1 : ByteArray) (w0 : (Lit.int .u64 a0).wf = true) (w1 : s1.size ≤ maxLen) (w : World) :
    Calls Try.prog 6 #[.int .u64 a0, .string s1] w fun e w' => e = .returned (.bool true) ∧ Below w.heap.size w w' := by
  obtain ⟨n, rfl, hn⟩ := nat_of_wf w0
  by_cases h : 1000 < s1.size
  · exact walk_long n s1 h w
  · exact walk_yes n s1 hn (by omega) w
/-! ### THE ROW's STEP: WRITTEN OUT: LEAVE IT -/
set_option maxRecDepth 100000 in
theorem lifted (os : Os) (started : os.Started) (H : Type) (enc : TypeId × Value → H) :
    ReturnsInHanded {} Try.checked os 6 .any (Rows.recordNumbersSpec.pre6 enc Try.prog Try.f6 Rows.recordNumbersRow.domain false) (Rows.recordNumbersSpec.post enc Try.prog Try.f6 false true false false) := by
  refine returnsInHanded_of_change (C := Try.checked) own started (by kernel_rfl) Try.func6
    (ChangeSpec.witness6 (enc := enc) (C := Try.checked) false ⟨#[], #[.int .u64 0, .string ByteArray.empty], []⟩ 8 (by kernel_rfl) (by kernel_rfl) (by kernel_rfl) (by kernel_rfl)) ?_
  intro W base args ds gs before hval0 hW hcnd _
  have hval : ∀ (j : Nat) t v, Try.f6.params[j]? = some t → args[j]? = some v → Value.okWide Try.prog W .any base t v := hval0
  have hW' := hW
  obtain ⟨p, q, hA0, hV, rfl, hfz, hnd⟩ := hW
  have hA : DataW.TrodAll enc Try.prog W 0 (fun _ => true) true Try.f6.params.toList args.toList ds p := hA0
  rw [Try.params6] at hA hval
  obtain ⟨v0, vs0, d0, ds0, p0, q0, hargs, rfl, rfl, h0, r0⟩ := trodAll_cons hA
  obtain ⟨v1, vs1, d1, ds1, p1, q1, rfl, rfl, rfl, h1, r1⟩ := trodAll_cons r0
  obtain ⟨rfl, rfl, rfl⟩ := trodAll_nil r1
  obtain rfl : args = #[v0, v1] := by cases args; simp_all
  obtain ⟨rfl, rfl⟩ := trodVars_none hV
  obtain ⟨a0, rfl, rfl, rfl, w0⟩ := open_int Try.underlying22 (hval 0 22 v0 rfl rfl) h0
  obtain ⟨a1, rfl, rfl, rfl, w1⟩ := open_string Try.underlying9 (hval 1 9 v1 rfl rfl) h1
  clear hA0 hval0
  simp only [List.append_nil] at hW'
  refine (walk a0 a1 w0 w1 W).mono fun e W' ⟨he, bel⟩ => ?_
  subst he
  exact ⟨_, rfl, _, _, _, [], _, [], hW', (trodAll_cons_mk (shut_bool Try.underlying4 _) trodAll_mk0), (trodAll_cons_mk (shut_int Try.underlying22 w0) (trodAll_cons_mk (shut_string Try.underlying9 w1) trodAll_mk0)), rfl, bel.frame _, fun h => by cases h⟩

theorem over : Rows.recordNumbersRow.holds Try.pinned (OpenSpec.ofChange Rows.recordNumbersSpec) :=
  OpenClaim.holds_of_wide 6 Try.f6 rfl rfl rfl rfl rfl rfl rfl ⟨rfl, rfl, rfl, rfl, rfl⟩ rfl rfl rfl rfl rfl (by kernel_rfl) Try.func6 (by kernel_rfl)
    (of_decide_eq_true (by kernel_rfl)) (by unfold Func.isWrapper; first | (rw [if_pos (by decide +kernel)]; kernel_rfl) | (rw [if_neg (by decide +kernel)]; exact ⟨rfl, rfl⟩))
    (fun os started H enc _ => lifted os started H enc)

/-- ████ THE STATEMENT ████ -/
theorem proved : Rows.RecordNumbersSaid :=
  over
#print axioms proved

end Go.Proofs.Ytmjolhmlhdhkfaa.recordNumbers
