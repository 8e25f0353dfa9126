/- Whatever the input, haycroftlaw02.PlaceAdds returns true and changes no argument. Conditions: none. -/
import Derived.Test.YtgecekfcglelhaaWq
import Derived.Test.YtgecekfcglelhaaRows
import Derived.WalkKit
import Derived.ProofKit
import Derived.OpenShut
import Derived.ShutString
import Derived.ChangeOld
import Derived.Below
namespace Go.Proofs.Ytgecekfcglelhaa.placeAdds
open Go.ChangeShapes Go.WideShapes Go.ChangeAt Go.RowKit
open Go.ChangeMaps (open_string shut_string)
set_option linter.unusedVariables false      -- a walk need not use every 'w<i>' (that an integer argument fits its kind)

theorem own : ownKnob Try.prog.godebug = none := by kernel_rfl


theorem addV_le (a : Nat) (n : Int) : addV a n ≤ 281474976710655 := by
  unfold addV
  split
  · split
    · assumption
    · decide
  · decide
/-- The law's last line, plainly. -/
theorem last_line (b : Int) (a : Nat) (n : Int) (hb : 5 ≤ b ∧ b ≤ 9) (ha : a ≤ 281474976710655) (hn : 1 ≤ n) :
    fitsB b a n = (addE a (n - 1) == 0 && ((pageN b (addV a (n - 1)) : Int) == (pageN b a : Int))) := by
  unfold fitsB
  obtain ⟨N, rfl⟩ := Int.eq_ofNat_of_zero_le (show 0 ≤ n by omega)
  have e1 : ((N : Int) - 1).toNat = N - 1 := by omega
  have hf := fits_last (2 ^ b.toNat) a N (pow_pos2 _) (by omega)
  have hsz : (2 ^ b.toNat) ∣ 281474976710656 := by
    rcases five hb with rfl | rfl | rfl | rfl | rfl <;> decide
  have hr : roomN b a = 2 ^ b.toNat - a % 2 ^ b.toNat := by simp only [roomN, if_pos (And.intro hb ha)]
  have hp : pageN b a = a / 2 ^ b.toNat := by simp only [pageN, if_pos (And.intro hb ha)]
  have hc : a ≤ 281474976710655 ∧ 0 ≤ (N : Int) - 1 := ⟨ha, by omega⟩
  by_cases hs : a + (N - 1) ≤ 281474976710655
  · have hE : addE a ((N : Int) - 1) = 0 := by simp only [addE, if_pos hc, e1, if_pos hs]
    have hV : addV a ((N : Int) - 1) = a + (N - 1) := by simp only [addV, if_pos hc, e1, if_pos hs]
    have hp2 : pageN b (a + (N - 1)) = (a + (N - 1)) / 2 ^ b.toNat := by simp only [pageN, if_pos (And.intro hb hs)]
    rw [hE, hV, hp, hp2, hr, Bool.eq_iff_iff]
    simp only [decide_eq_true_eq, Bool.and_eq_true, beq_iff_eq, true_and]
    constructor
    · intro h
      have := hf.1 (by omega)
      exact_mod_cast this
    · intro h
      have := hf.2 (by exact_mod_cast h)
      omega
  · have hE : addE a ((N : Int) - 1) = 13 := by simp only [addE, if_pos hc, e1, if_neg hs]
    rw [hE, hr]
    obtain ⟨k, hk⟩ := hsz
    have h1 := Nat.div_add_mod a (2 ^ b.toNat)
    have h2 := Nat.mod_lt a (pow_pos2 b.toNat)
    have h3 : a / 2 ^ b.toNat < k := by
      rw [Nat.div_lt_iff_lt_mul (pow_pos2 _), Nat.mul_comm, ← hk]; omega
    have h4 : 2 ^ b.toNat * (a / 2 ^ b.toNat + 1) ≤ 2 ^ b.toNat * k := Nat.mul_le_mul_left _ h3
    rw [← hk, Nat.mul_add, Nat.mul_one] at h4
    have h5 : ¬ (1 ≤ (N : Int) ∧ (N : Int) ≤ ((2 ^ b.toNat - a % 2 ^ b.toNat : Nat) : Int)) := by omega
    simp only [h5, decide_false]
    rfl
set_option maxHeartbeats 1000000 in
theorem walk (a0 : Int) (a1 : Int) (a2 : Int) (w0 : (Lit.int .i64 a0).wf = true) (w1 : (Lit.int .u64 a1).wf = true) (w2 : (Lit.int .i64 a2).wf = true) (w : World) :
    Calls Try.prog 5 #[.int .i64 a0, .int .u64 a1, .int .i64 a2] w fun e w' => e = .returned (.bool true) ∧ Below w.heap.size w w' := by
  obtain ⟨n, rfl, hn⟩ := nat_of_wf w1
  have hp := (bounds_i64 w2).2
  have hx0 : ((addV n a2 : Int) != (addV n a2 : Int)) = false := by simp
  have hx1 : (addE n a2 != addE n a2) = false := by simp
  by_cases hb : (5 ≤ a0 ∧ a0 ≤ 9) ∧ n ≤ 281474976710655 ∧ 1 ≤ a2
  · have hm : mayB a0 = true := by simp only [mayB, decide_eq_true_eq]; exact hb.1
    obtain ⟨hb, ha, h2⟩ := hb
    have H := hide (last_line a0 n a2 hb ha h2)
    have hv := addV_le n (a2 - 1)
    go_enter Try.func5, Try.ntmps5
    go_wp2_with fail
    refine (awake2_any _).mono ?_
    rintro e x1 ⟨rfl, b1⟩
    go_wp2_with fail
    refine (add_any _ _ _ hp).mono ?_
    rintro e x2 ⟨rfl, b2⟩
    replace b2 := b1.trans (b2.mono b1.size)
    go_wp2_with fail
    refine (radd_any _ _ _ hp).mono ?_
    rintro e x3 ⟨rfl, rfl⟩
    go_wp2_with fail
    refine (fits_any _ _ _ _ hn).mono ?_
    rintro e x4 ⟨rfl, b4⟩
    replace b4 := b2.trans (b4.mono b2.size)
    go_wp2_with fail
    refine (may_any _ _).mono ?_
    rintro e x5 ⟨rfl, rfl⟩
    go_wp2_with fail
    refine (add_any _ _ _ (by omega)).mono ?_
    rintro e x6 ⟨rfl, b6⟩
    replace b6 := b4.trans (b6.mono b4.size)
    rw [H.out]
    by_cases hE : addE n (a2 - 1) = 0
    · rw [hE]
      go_wp2_with fail
      refine (page_any _ _ _ (by omega)).mono ?_
      rintro e x7 ⟨rfl, b7⟩
      replace b7 := b6.trans (b7.mono b6.size)
      go_wp2_with fail
      refine (page_any _ _ _ hn).mono ?_
      rintro e x8 ⟨rfl, b8⟩
      replace b8 := b7.trans (b8.mono b7.size)
      go_wp2
      go_ret
      exact ⟨ret_bool (by simp), b8⟩
    · have hE' : (addE n (a2 - 1) == 0) = false := by simpa using hE
      rw [hE']
      go_wp2
      go_ret
      exact ⟨ret_bool (by simp), b6⟩
  · have hf : fitsB a0 n a2 = false := by
      unfold fitsB
      rw [decide_eq_false_iff_not]
      intro h
      apply hb
      by_cases hp : (5 ≤ a0 ∧ a0 ≤ 9) ∧ n ≤ 281474976710655
      · exact ⟨hp.1, hp.2, h.1⟩
      · simp only [roomN, if_neg hp] at h
        omega
    go_enter Try.func5, Try.ntmps5
    go_wp2_with fail
    refine (awake2_any _).mono ?_
    rintro e x1 ⟨rfl, b1⟩
    go_wp2_with fail
    refine (add_any _ _ _ hp).mono ?_
    rintro e x2 ⟨rfl, b2⟩
    replace b2 := b1.trans (b2.mono b1.size)
    go_wp2_with fail
    refine (radd_any _ _ _ hp).mono ?_
    rintro e x3 ⟨rfl, rfl⟩
    go_wp2_with fail
    refine (fits_any _ _ _ _ hn).mono ?_
    rintro e x4 ⟨rfl, b4⟩
    replace b4 := b2.trans (b4.mono b2.size)
    rw [hf]
    go_wp2_with fail
    refine (may_any _ _).mono ?_
    rintro e x5 ⟨rfl, rfl⟩
    by_cases hm : 5 ≤ a0 ∧ a0 ≤ 9
    · have hm' : mayB a0 = true := by simp only [mayB, decide_eq_true_eq]; exact hm
      by_cases ha : n ≤ 281474976710655
      · have h2 : a2 < 1 := by by_cases h2 : 1 ≤ a2; exact absurd ⟨hm, ha, h2⟩ hb; omega
        clear hb
        go_wp2
        go_ret
        exact ⟨rfl, b4⟩
      · clear hb
        go_wp2
        go_ret
        exact ⟨rfl, b4⟩
    · have hm' : mayB a0 = false := by simp only [mayB, decide_eq_false_iff_not]; exact hm
      clear hb
      go_wp2
      go_ret
      exact ⟨rfl, b4⟩
/-! ### THE ROW's STEP: WRITTEN OUT: LEAVE IT -/
set_option maxRecDepth 100000 in
theorem lifted (os : Os) (started : os.Started) (H : Type) (enc : TypeId × Value → H) :
    ReturnsInHanded {} Try.checked os 5 .any (Rows.placeAddsSpec.pre6 enc Try.prog Try.f5 Rows.placeAddsRow.domain false) (Rows.placeAddsSpec.post enc Try.prog Try.f5 false true false false) := by
  refine returnsInHanded_of_change (C := Try.checked) own started (by kernel_rfl) Try.func5
    (ChangeSpec.witness6 (enc := enc) (C := Try.checked) false ⟨#[], #[.int .i64 0, .int .u64 0, .int .i64 0], []⟩ 8 (by kernel_rfl) (by kernel_rfl) (by kernel_rfl) (by kernel_rfl)) ?_
  intro W base args ds gs before hval0 hW hcnd _
  have hval : ∀ (j : Nat) t v, Try.f5.params[j]? = some t → args[j]? = some v → Value.okWide Try.prog W .any base t v := hval0
  have hW' := hW
  obtain ⟨p, q, hA0, hV, rfl, hfz, hnd⟩ := hW
  have hA : DataW.TrodAll enc Try.prog W 0 (fun _ => true) true Try.f5.params.toList args.toList ds p := hA0
  rw [Try.params5] at hA hval
  obtain ⟨v0, vs0, d0, ds0, p0, q0, hargs, rfl, rfl, h0, r0⟩ := trodAll_cons hA
  obtain ⟨v1, vs1, d1, ds1, p1, q1, rfl, rfl, rfl, h1, r1⟩ := trodAll_cons r0
  obtain ⟨v2, vs2, d2, ds2, p2, q2, rfl, rfl, rfl, h2, r2⟩ := trodAll_cons r1
  obtain ⟨rfl, rfl, rfl⟩ := trodAll_nil r2
  obtain rfl : args = #[v0, v1, v2] := by cases args; simp_all
  obtain ⟨rfl, rfl⟩ := trodVars_none hV
  obtain ⟨a0, rfl, rfl, rfl, w0⟩ := open_int Try.underlying3 (hval 0 3 v0 rfl rfl) h0
  obtain ⟨a1, rfl, rfl, rfl, w1⟩ := open_int Try.underlying22 (hval 1 22 v1 rfl rfl) h1
  obtain ⟨a2, rfl, rfl, rfl, w2⟩ := open_int Try.underlying3 (hval 2 3 v2 rfl rfl) h2
  clear hA0 hval0
  simp only [List.append_nil] at hW'
  refine (walk a0 a1 a2 w0 w1 w2 W).mono fun e W' ⟨he, bel⟩ => ?_
  subst he
  exact ⟨_, rfl, _, _, _, [], _, [], hW', (trodAll_cons_mk (shut_bool Try.underlying4 _) trodAll_mk0), (trodAll_cons_mk (shut_int Try.underlying3 w0) (trodAll_cons_mk (shut_int Try.underlying22 w1) (trodAll_cons_mk (shut_int Try.underlying3 w2) trodAll_mk0))), rfl, bel.frame _, fun h => by cases h⟩

theorem over : Rows.placeAddsRow.holds Try.pinned (OpenSpec.ofChange Rows.placeAddsSpec) :=
  OpenClaim.holds_of_wide 5 Try.f5 rfl rfl rfl rfl rfl rfl rfl ⟨rfl, rfl, rfl, rfl, rfl⟩ rfl rfl rfl rfl rfl (by kernel_rfl) Try.func5 (by kernel_rfl)
    (of_decide_eq_true (by kernel_rfl)) (by unfold Func.isWrapper; first | (rw [if_pos (by decide +kernel)]; kernel_rfl) | (rw [if_neg (by decide +kernel)]; exact ⟨rfl, rfl⟩))
    (fun os started H enc _ => lifted os started H enc)

/-- ████ THE STATEMENT ████ -/
theorem proved : Rows.PlaceAddsSaid :=
  over
#print axioms proved

end Go.Proofs.Ytgecekfcglelhaa.placeAdds
