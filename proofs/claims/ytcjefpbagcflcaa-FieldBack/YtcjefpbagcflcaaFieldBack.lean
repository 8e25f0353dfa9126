/- Whatever the input, haycroftlaw01.FieldBack returns true and changes no argument. Conditions: none. -/
import Derived.Test.YtcjefpbagcflcaaWd
import Derived.Test.YtcjefpbagcflcaaMd
import Derived.Test.YtcjefpbagcflcaaRows
import Derived.WalkKit
import Derived.ProofKit
import Derived.OpenShut
import Derived.ShutString
import Derived.ChangeOld
import Derived.Below
namespace Go.Proofs.Ytcjefpbagcflcaa.fieldBack
open Go.ChangeShapes Go.WideShapes Go.ChangeAt Go.RowKit
open Go.ChangeMaps (open_string shut_string)
set_option linter.unusedVariables false      -- a walk need not use every 'w<i>' (that an integer argument fits its kind)

theorem own : ownKnob Try.prog.godebug = none := by kernel_rfl


theorem le_most (b : Int) (v : Nat) (h1 : 1 ≤ b) (h2 : b ≤ 64) : v ≤ mostN b ↔ v < 2 ^ b.toNat := by
  have := most_mid b h1 h2
  have := pow_pos2 b.toNat
  omega
set_option maxHeartbeats 1000000 in
theorem walk_no (n v : Nat) (a b o m : Int) (w : World) (hn : n < 18446744073709551616) (h : putE a b v ≠ 0) :
    Calls Try.prog 5 #[.int .u64 (n : Int), .int .i64 a, .int .i64 b, .int .u64 (v : Int), .int .i64 o, .int .i64 m] w fun e w' => e = .returned (.bool true) ∧ Below w.heap.size w w' := by
  have HV : Hid (putV n a b v = 0) := by
    unfold putE at h
    unfold Hid putV
    split
    · rename_i hr
      rw [if_pos hr] at h
      split
      · rename_i hv; rw [if_pos hv] at h; exact absurd rfl h
      · rfl
    · rfl
  have hE : (putE a b v != 0) = true := by simpa using h
  clear h
  go_enter Try.func5, Try.ntmps5
  go_wp2_with fail
  refine (awake_any _).mono ?_
  rintro e x1 ⟨rfl, b1⟩
  go_wp2_with fail
  refine (put_any _ _ _ _ _ hn).mono ?_
  rintro e x2 ⟨rfl, b2⟩
  rw [HV.out]
  replace b2 := b1.trans ((below_drewN' b2).mono b1.size)
  go_wp2
  go_ret
  exact ⟨rfl, b2⟩
set_option maxHeartbeats 2000000 in
theorem walk_yes (n v : Nat) (a b o m : Int) (w : World) (hn : n < 18446744073709551616) (hr : rightB a b = true) (hv : v ≤ mostN b) :
    Calls Try.prog 5 #[.int .u64 (n : Int), .int .i64 a, .int .i64 b, .int .u64 (v : Int), .int .i64 o, .int .i64 m] w fun e w' => e = .returned (.bool true) ∧ Below w.heap.size w w' := by
  have hr' := (rightB_iff a b).1 hr
  obtain ⟨ha0, ha1, hb0, hb1⟩ := hr'
  have hvb := (le_most b v (by omega) (by omega)).1 hv
  have hx := putN_lt64 n a b v hn hr hv
  have HX := hide (get_put n a.toNat b.toNat v hvb)
  have hg : getN n a.toNat b.toNat ≤ mostN b := (le_most b _ (by omega) (by omega)).2 (getN_lt _ _ _)
  have HY := hide (put_get n a.toNat b.toNat v hvb)
  have HO : Hid (rightB o m = true → a + b ≤ o ∨ o + m ≤ a → getI (putN n a.toNat b.toNat v) o m = getI n o m) := by
    intro h h'
    have := (rightB_iff o m).1 h
    simp only [getI, h, if_true]
    exact get_beside n a.toNat b.toNat v o.toNat m.toNat hvb (by omega)
  have hom : rightB o m = true → 0 ≤ o ∧ o < 64 ∧ 1 ≤ m ∧ m ≤ 64 := fun h => by have := (rightB_iff o m).1 h; omega
  clear hvb
  go_enter Try.func5, Try.ntmps5
  go_wp2_with fail
  refine (awake_any _).mono ?_
  rintro e x1 ⟨rfl, b1⟩
  go_wp2_with fail
  refine (put_yes _ _ _ _ _ hn hr hv).mono ?_
  rintro e x2 ⟨rfl, b2⟩
  replace b2 := b1.trans ((below_drewN' b2).mono b1.size)
  generalize putN n a.toNat b.toNat v = X at *
  go_wp2_with fail
  refine (get_yes _ _ _ _ hn hr).mono ?_
  rintro e x3 ⟨rfl, b3⟩
  replace b3 := b2.trans ((below_drewN' b3).mono b2.size)
  generalize getN n a.toNat b.toNat = G at *
  go_wp2_with fail
  refine (put_yes _ _ _ _ _ hx hr hg).mono ?_
  rintro e x4 ⟨rfl, b4⟩
  replace b4 := b3.trans ((below_drewN' b4).mono b3.size)
  rw [HY.out]
  go_wp2_with fail
  refine (get_yes _ _ _ _ hx hr).mono ?_
  rintro e x5 ⟨rfl, b5⟩
  replace b5 := b4.trans ((below_drewN' b5).mono b4.size)
  rw [HX.out]
  go_wp2_with fail
  refine (rright_any _ _ _).mono ?_
  rintro e x6 ⟨rfl, rfl⟩
  cases hro : rightB o m
  · clear hom HO
    go_wp2
    go_ret
    exact ⟨rfl, b5⟩
  · obtain ⟨ho0, ho1, hm0, hm1⟩ := hom hro
    clear hom
    by_cases h1 : o < a + b
    · by_cases h2 : a < o + m
      · clear HO
        go_wp2
        go_ret
        exact ⟨rfl, b5⟩
      · have HO' := hide (HO.out hro (.inr (by omega)))
        clear HO
        go_wp2_with fail
        refine (get_any _ _ _ _ hx).mono ?_
        rintro e x7 ⟨rfl, b7⟩
        replace b7 := b5.trans ((below_drewN' b7).mono b5.size)
        rw [HO'.out]
        go_wp2_with fail
        refine (get_any _ _ _ _ hn).mono ?_
        rintro e x8 ⟨rfl, b8⟩
        replace b8 := b7.trans ((below_drewN' b8).mono b7.size)
        go_wp2
        go_ret
        exact ⟨rfl, b8⟩
    · have HO' := hide (HO.out hro (.inl (by omega)))
      clear HO
      go_wp2_with fail
      refine (get_any _ _ _ _ hx).mono ?_
      rintro e x7 ⟨rfl, b7⟩
      replace b7 := b5.trans ((below_drewN' b7).mono b5.size)
      rw [HO'.out]
      go_wp2_with fail
      refine (get_any _ _ _ _ hn).mono ?_
      rintro e x8 ⟨rfl, b8⟩
      replace b8 := b7.trans ((below_drewN' b8).mono b7.size)
      go_wp2
      go_ret
      exact ⟨rfl, b8⟩
theorem walk (a0 : Int) (a1 : Int) (a2 : Int) (a3 : Int) (a4 : Int) (a5 : Int) (w0 : (Lit.int .u64 a0).wf = true) (w1 : (Lit.int .i64 a1).wf = true) (w2 : (Lit.int .i64 a2).wf = true) (w3 : (Lit.int .u64 a3).wf = true) (w4 : (Lit.int .i64 a4).wf = true) (w5 : (Lit.int .i64 a5).wf = true) (w : World) :
    Calls Try.prog 5 #[.int .u64 a0, .int .i64 a1, .int .i64 a2, .int .u64 a3, .int .i64 a4, .int .i64 a5] w fun e w' => e = .returned (.bool true) ∧ Below w.heap.size w w' := by
  obtain ⟨n, rfl, hn⟩ := nat_of_wf w0
  obtain ⟨v, rfl, hv64⟩ := nat_of_wf w3
  cases hr : rightB a1 a2
  · exact walk_no n v a1 a2 a4 a5 w hn (by simp [putE, hr])
  · by_cases hv : v ≤ mostN a2
    · exact walk_yes n v a1 a2 a4 a5 w hn hr hv
    · exact walk_no n v a1 a2 a4 a5 w hn (by simp [putE, hr, hv])
/-! ### THE ROW's STEP: WRITTEN OUT: LEAVE IT -/
set_option maxRecDepth 100000 in
theorem lifted (os : Os) (started : os.Started) (H : Type) (enc : TypeId × Value → H) :
    ReturnsInHanded {} Try.checked os 5 .any (Rows.fieldBackSpec.pre6 enc Try.prog Try.f5 Rows.fieldBackRow.domain false) (Rows.fieldBackSpec.post enc Try.prog Try.f5 false true false false) := by
  refine returnsInHanded_of_change (C := Try.checked) own started (by kernel_rfl) Try.func5
    (ChangeSpec.witness6 (enc := enc) (C := Try.checked) false ⟨#[], #[.int .u64 0, .int .i64 0, .int .i64 0, .int .u64 0, .int .i64 0, .int .i64 0], []⟩ 8 (by kernel_rfl) (by kernel_rfl) (by kernel_rfl) (by kernel_rfl)) ?_
  intro W base args ds gs before hval0 hW hcnd _
  have hval : ∀ (j : Nat) t v, Try.f5.params[j]? = some t → args[j]? = some v → Value.okWide Try.prog W .any base t v := hval0
  have hW' := hW
  obtain ⟨p, q, hA0, hV, rfl, hfz, hnd⟩ := hW
  have hA : DataW.TrodAll enc Try.prog W 0 (fun _ => true) true Try.f5.params.toList args.toList ds p := hA0
  rw [Try.params5] at hA hval
  obtain ⟨v0, vs0, d0, ds0, p0, q0, hargs, rfl, rfl, h0, r0⟩ := trodAll_cons hA
  obtain ⟨v1, vs1, d1, ds1, p1, q1, rfl, rfl, rfl, h1, r1⟩ := trodAll_cons r0
  obtain ⟨v2, vs2, d2, ds2, p2, q2, rfl, rfl, rfl, h2, r2⟩ := trodAll_cons r1
  obtain ⟨v3, vs3, d3, ds3, p3, q3, rfl, rfl, rfl, h3, r3⟩ := trodAll_cons r2
  obtain ⟨v4, vs4, d4, ds4, p4, q4, rfl, rfl, rfl, h4, r4⟩ := trodAll_cons r3
  obtain ⟨v5, vs5, d5, ds5, p5, q5, rfl, rfl, rfl, h5, r5⟩ := trodAll_cons r4
  obtain ⟨rfl, rfl, rfl⟩ := trodAll_nil r5
  obtain rfl : args = #[v0, v1, v2, v3, v4, v5] := by cases args; simp_all
  obtain ⟨rfl, rfl⟩ := trodVars_none hV
  obtain ⟨a0, rfl, rfl, rfl, w0⟩ := open_int Try.underlying22 (hval 0 22 v0 rfl rfl) h0
  obtain ⟨a1, rfl, rfl, rfl, w1⟩ := open_int Try.underlying3 (hval 1 3 v1 rfl rfl) h1
  obtain ⟨a2, rfl, rfl, rfl, w2⟩ := open_int Try.underlying3 (hval 2 3 v2 rfl rfl) h2
  obtain ⟨a3, rfl, rfl, rfl, w3⟩ := open_int Try.underlying22 (hval 3 22 v3 rfl rfl) h3
  obtain ⟨a4, rfl, rfl, rfl, w4⟩ := open_int Try.underlying3 (hval 4 3 v4 rfl rfl) h4
  obtain ⟨a5, rfl, rfl, rfl, w5⟩ := open_int Try.underlying3 (hval 5 3 v5 rfl rfl) h5
  clear hA0 hval0
  simp only [List.append_nil] at hW'
  refine (walk a0 a1 a2 a3 a4 a5 w0 w1 w2 w3 w4 w5 W).mono fun e W' ⟨he, bel⟩ => ?_
  subst he
  exact ⟨_, rfl, _, _, _, [], _, [], hW', (trodAll_cons_mk (shut_bool Try.underlying4 _) trodAll_mk0), (trodAll_cons_mk (shut_int Try.underlying22 w0) (trodAll_cons_mk (shut_int Try.underlying3 w1) (trodAll_cons_mk (shut_int Try.underlying3 w2) (trodAll_cons_mk (shut_int Try.underlying22 w3) (trodAll_cons_mk (shut_int Try.underlying3 w4) (trodAll_cons_mk (shut_int Try.underlying3 w5) trodAll_mk0)))))), rfl, bel.frame _, fun h => by cases h⟩

theorem over : Rows.fieldBackRow.holds Try.pinned (OpenSpec.ofChange Rows.fieldBackSpec) :=
  OpenClaim.holds_of_wide 5 Try.f5 rfl rfl rfl rfl rfl rfl rfl ⟨rfl, rfl, rfl, rfl, rfl⟩ rfl rfl rfl rfl rfl (by kernel_rfl) Try.func5 (by kernel_rfl)
    (of_decide_eq_true (by kernel_rfl)) (by unfold Func.isWrapper; first | (rw [if_pos (by decide +kernel)]; kernel_rfl) | (rw [if_neg (by decide +kernel)]; exact ⟨rfl, rfl⟩))
    (fun os started H enc _ => lifted os started H enc)

/-- ████ THE STATEMENT ████ -/
theorem proved : Rows.FieldBackSaid :=
  over
#print axioms proved

end Go.Proofs.Ytcjefpbagcflcaa.fieldBack
