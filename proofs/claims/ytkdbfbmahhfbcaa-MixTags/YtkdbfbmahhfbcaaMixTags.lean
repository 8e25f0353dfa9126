/- Whatever the input, haycroftlaw03.MixTags returns true and changes no argument. Conditions: none. -/
import Derived.Test.YtkdbfbmahhfbcaaWn
import Derived.Test.YtkdbfbmahhfbcaaRows
import Derived.WalkKit
import Derived.ProofKit
import Derived.OpenShut
import Derived.ShutString
import Derived.ChangeOld
import Derived.Below
namespace Go.Proofs.Ytkdbfbmahhfbcaa.mixTags
open Go.ChangeShapes Go.WideShapes Go.ChangeAt Go.RowKit
open Go.ChangeMaps (open_string shut_string)
set_option linter.unusedVariables false      -- a walk need not use every 'w<i>' (that an integer argument fits its kind)

theorem own : ownKnob Try.prog.godebug = none := by kernel_rfl


/-- Buckets of half as many are the rest of the bucket by that half. -/
theorem half (a m N : Nat) (hm : 0 < m) (hN : N = 2 * m) (hp : powB (N : Int) = true) (hq : powB (m : Int) = true) : buckN a m = buckN a N % m := by
  simp only [buckN, hp, hq, if_true, Int.toNat_natCast]
  subst hN
  exact (Nat.mod_mul_left_mod a 2 m).symm
theorem half_pow (n : Int) (hp : powB n = true) (h1 : n ≠ 1) : ∃ m N : Nat, n = (N : Int) ∧ N = 2 * m ∧ 0 < m ∧ m ≤ 512 ∧ powB (m : Int) = true := by
  obtain ⟨j, hj, rfl⟩ := powB_true.1 hp
  cases j with
  | zero => exact absurd rfl h1
  | succ j =>
    have h0 := pow_pos2 j
    have h2 : 2 ^ j ≤ 2 ^ 9 := Nat.pow_le_pow_right (by decide) (by omega)
    have h3 : (2 : Nat) ^ 9 = 512 := by decide
    exact ⟨2 ^ j, 2 ^ (j + 1), rfl, by rw [Nat.pow_succ]; omega, h0, by omega, powB_true.2 ⟨j, by omega, rfl⟩⟩
set_option maxHeartbeats 1000000 in
theorem walk (a0 : Int) (a1 : Int) (a2 : Int) (w0 : (Lit.int .u64 a0).wf = true) (w1 : (Lit.int .u64 a1).wf = true) (w2 : (Lit.int .i64 a2).wf = true) (w : World) :
    Calls Try.prog 4 #[.int .u64 a0, .int .u64 a1, .int .i64 a2] w fun e w' => e = .returned (.bool true) ∧ Below w.heap.size w w' := by
  obtain ⟨a, rfl, ha⟩ := nat_of_wf w0
  obtain ⟨b, rfl, hb⟩ := nat_of_wf w1
  have h2 := bounds_i64 w2
  clear w0 w1 w2
  cases hq : ((buckN a a2 : Int) == (buckN b a2 : Int))
  · have H : Hid (sameB a b a2 = false) := by unfold Hid sameB; rw [hq]; rfl
    go_enter Try.func4, Try.ntmps4
    go_wp2_with fail
    refine (awake3_any _).mono ?_
    rintro e x1 ⟨rfl, b1⟩
    go_wp2_with fail
    refine (same_mix _ _ _ _ ha hb).mono ?_
    rintro e x2 ⟨rfl, b2⟩
    replace b2 := b1.trans (b2.mono b1.size)
    rw [H.out]
    go_wp2_with fail
    refine (rbucket_any _ _ _ ha).mono ?_
    rintro e x3 ⟨rfl, rfl⟩
    go_wp2_with fail
    refine (rbucket_any _ _ _ hb).mono ?_
    rintro e x3 ⟨rfl, rfl⟩
    go_wp2_with fail
    refine (mmay_any _ _).mono ?_
    rintro e x4 ⟨rfl, rfl⟩
    cases hp : powB a2
    · go_wp2
      go_ret
      exact ⟨rfl, b2⟩
    · by_cases h1 : a2 = 1
      · subst h1
        go_wp2
        go_ret
        exact ⟨rfl, b2⟩
      · obtain ⟨m, N, rfl, hN, hm, hm2, hpm⟩ := half_pow a2 hp h1
        have HE : Hid ((buckN a m : Int) = (buckN a (2 * (m : Int)) : Int) % (m : Int)) := by
          unfold Hid; rw [half a m N hm hN hp hpm, hN]; rfl
        have hz : ((m : Int) == 0) = false := by simp; omega
        have hbk : buckN a N < 1024 := by
          unfold buckN; rw [if_pos hp, Int.toNat_natCast]
          have := Nat.mod_lt a (show 0 < N by omega); omega
        have h1' : ((N : Int) == 1) = false := by simpa using h1
        go_wp2_with fail
        refine (bucket_any _ _ _ ha).mono ?_
        rintro e x4 ⟨rfl, rfl⟩
        go_wp2_with fail
        refine (bucket_any _ _ _ ha).mono ?_
        rintro e x4 ⟨rfl, rfl⟩
        go_wp2
        go_ret
        exact ⟨ret_bool (by rw [HE.out]; simp), b2⟩
  · have H : Hid (sameB a b a2 = (((a / 1125899906842624 : Nat) : Int) == ((b / 1125899906842624 : Nat) : Int))) := by unfold Hid sameB; rw [hq]; rfl
    go_enter Try.func4, Try.ntmps4
    go_wp2_with fail
    refine (awake3_any _).mono ?_
    rintro e x1 ⟨rfl, b1⟩
    go_wp2_with fail
    refine (same_mix _ _ _ _ ha hb).mono ?_
    rintro e x2 ⟨rfl, b2⟩
    replace b2 := b1.trans (b2.mono b1.size)
    rw [H.out]
    go_wp2_with fail
    refine (rbucket_any _ _ _ ha).mono ?_
    rintro e x3 ⟨rfl, rfl⟩
    go_wp2_with fail
    refine (rbucket_any _ _ _ hb).mono ?_
    rintro e x3 ⟨rfl, rfl⟩
    go_wp2_with fail
    refine (rtag_any _ _ ha).mono ?_
    rintro e x3 ⟨rfl, rfl⟩
    go_wp2_with fail
    refine (rtag_any _ _ hb).mono ?_
    rintro e x3 ⟨rfl, rfl⟩
    go_wp2_with fail
    refine (mmay_any _ _).mono ?_
    rintro e x4 ⟨rfl, rfl⟩
    cases hp : powB a2
    · go_wp2
      go_ret
      exact ⟨rfl, b2⟩
    · by_cases h1 : a2 = 1
      · subst h1
        go_wp2
        go_ret
        exact ⟨rfl, b2⟩
      · obtain ⟨m, N, rfl, hN, hm, hm2, hpm⟩ := half_pow a2 hp h1
        have HE : Hid ((buckN a m : Int) = (buckN a (2 * (m : Int)) : Int) % (m : Int)) := by
          unfold Hid; rw [half a m N hm hN hp hpm, hN]; rfl
        have hz : ((m : Int) == 0) = false := by simp; omega
        have hbk : buckN a N < 1024 := by
          unfold buckN; rw [if_pos hp, Int.toNat_natCast]
          have := Nat.mod_lt a (show 0 < N by omega); omega
        have h1' : ((N : Int) == 1) = false := by simpa using h1
        go_wp2_with fail
        refine (bucket_any _ _ _ ha).mono ?_
        rintro e x4 ⟨rfl, rfl⟩
        go_wp2_with fail
        refine (bucket_any _ _ _ ha).mono ?_
        rintro e x4 ⟨rfl, rfl⟩
        go_wp2
        go_ret
        exact ⟨ret_bool (by rw [HE.out]; simp), b2⟩
/-! ### THE ROW's STEP: WRITTEN OUT: LEAVE IT -/
set_option maxRecDepth 100000 in
theorem lifted (os : Os) (started : os.Started) (H : Type) (enc : TypeId × Value → H) :
    ReturnsInHanded {} Try.checked os 4 .any (Rows.mixTagsSpec.pre6 enc Try.prog Try.f4 Rows.mixTagsRow.domain false) (Rows.mixTagsSpec.post enc Try.prog Try.f4 false true false false) := by
  refine returnsInHanded_of_change (C := Try.checked) own started (by kernel_rfl) Try.func4
    (ChangeSpec.witness6 (enc := enc) (C := Try.checked) false ⟨#[], #[.int .u64 0, .int .u64 0, .int .i64 0], []⟩ 8 (by kernel_rfl) (by kernel_rfl) (by kernel_rfl) (by kernel_rfl)) ?_
  intro W base args ds gs before hval0 hW hcnd _
  have hval : ∀ (j : Nat) t v, Try.f4.params[j]? = some t → args[j]? = some v → Value.okWide Try.prog W .any base t v := hval0
  have hW' := hW
  obtain ⟨p, q, hA0, hV, rfl, hfz, hnd⟩ := hW
  have hA : DataW.TrodAll enc Try.prog W 0 (fun _ => true) true Try.f4.params.toList args.toList ds p := hA0
  rw [Try.params4] at hA hval
  obtain ⟨v0, vs0, d0, ds0, p0, q0, hargs, rfl, rfl, h0, r0⟩ := trodAll_cons hA
  obtain ⟨v1, vs1, d1, ds1, p1, q1, rfl, rfl, rfl, h1, r1⟩ := trodAll_cons r0
  obtain ⟨v2, vs2, d2, ds2, p2, q2, rfl, rfl, rfl, h2, r2⟩ := trodAll_cons r1
  obtain ⟨rfl, rfl, rfl⟩ := trodAll_nil r2
  obtain rfl : args = #[v0, v1, v2] := by cases args; simp_all
  obtain ⟨rfl, rfl⟩ := trodVars_none hV
  obtain ⟨a0, rfl, rfl, rfl, w0⟩ := open_int Try.underlying23 (hval 0 23 v0 rfl rfl) h0
  obtain ⟨a1, rfl, rfl, rfl, w1⟩ := open_int Try.underlying23 (hval 1 23 v1 rfl rfl) h1
  obtain ⟨a2, rfl, rfl, rfl, w2⟩ := open_int Try.underlying3 (hval 2 3 v2 rfl rfl) h2
  clear hA0 hval0
  simp only [List.append_nil] at hW'
  refine (walk a0 a1 a2 w0 w1 w2 W).mono fun e W' ⟨he, bel⟩ => ?_
  subst he
  exact ⟨_, rfl, _, _, _, [], _, [], hW', (trodAll_cons_mk (shut_bool Try.underlying4 _) trodAll_mk0), (trodAll_cons_mk (shut_int Try.underlying23 w0) (trodAll_cons_mk (shut_int Try.underlying23 w1) (trodAll_cons_mk (shut_int Try.underlying3 w2) trodAll_mk0))), rfl, bel.frame _, fun h => by cases h⟩

theorem over : Rows.mixTagsRow.holds Try.pinned (OpenSpec.ofChange Rows.mixTagsSpec) :=
  OpenClaim.holds_of_wide 4 Try.f4 rfl rfl rfl rfl rfl rfl rfl ⟨rfl, rfl, rfl, rfl, rfl⟩ rfl rfl rfl rfl rfl (by kernel_rfl) Try.func4 (by kernel_rfl)
    (of_decide_eq_true (by kernel_rfl)) (by unfold Func.isWrapper; first | (rw [if_pos (by decide +kernel)]; kernel_rfl) | (rw [if_neg (by decide +kernel)]; exact ⟨rfl, rfl⟩))
    (fun os started H enc _ => lifted os started H enc)

/-- ████ THE STATEMENT ████ -/
theorem proved : Rows.MixTagsSaid :=
  over
#print axioms proved

end Go.Proofs.Ytkdbfbmahhfbcaa.mixTags
