/- Whatever the input, haycroftlaw06.EpochRises returns true and changes no argument. Conditions: none. -/
import Derived.Test.YtlmkknlcdcajoaaMh
import Derived.Test.YtlmkknlcdcajoaaRows
import Derived.WalkKit
import Derived.ProofKit
import Derived.OpenShut
import Derived.ShutString
import Derived.ChangeOld
import Derived.Below
import Derived.ChangeSame
namespace Go.Proofs.Ytlmkknlcdcajoaa.epochRises
open Go.ChangeShapes Go.WideShapes Go.ChangeAt Go.RowKit
open Go.ChangeMaps (open_string shut_string)
set_option linter.unusedVariables false
theorem own : ownKnob Try.prog.godebug = none := by kernel_rfl
theorem laidOut : laidOutB Try.prog = true := by kernel_rfl

set_option maxHeartbeats 1000000 in
theorem walk_no (a0 : Int) (ao : Option Addr) (len cap : Nat) (w : World) (h : a0 < 1 ∨ 8 < a0) :
    Calls Try.prog 4 #[.int .i64 a0, .slice ao len cap] w fun e w' => e = .returned (.bool true) ∧ Below w.heap.size w w' := by
  go_enter Try.func4, Try.ntmps4
  go_wp2_with fail
  refine (awake6_any _).mono ?_
  rintro e x1 ⟨rfl, b1⟩
  go_wp2_with fail
  refine (new_no a0 h _).mono ?_
  rintro e x2 ⟨rfl, rfl⟩
  go_wp2
  go_ret
  exact ⟨rfl, b1⟩
set_option maxHeartbeats 1000000 in
set_option maxRecDepth 10000 in
theorem walk_yes (n : Nat) (h1 : 1 ≤ n) (h2 : n ≤ 8) (ao : Option Addr) (len cap : Nat) (kd sv : Nat → Int) (w : World) (hl : len ≤ 9223372036854775807) (hs : Acts w ao len kd sv) :
    Calls Try.prog 4 #[.int .i64 (n : Int), .slice ao len cap] w fun e w' => e = .returned (.bool true) ∧ Below w.heap.size w w' := by
  have HS := hide hs
  clear hs
  go_enter Try.func4, Try.ntmps4
  go_wp2_with fail
  refine (awake6_any _).mono ?_
  rintro e x1 ⟨rfl, b1⟩
  go_wp2_with fail
  refine (table_yes n h1 h2 _).mono ?_
  rintro e x2 ⟨t, rfl, T, b2⟩
  replace T := T.mono b1.size (Nat.le_refl _)
  replace b2 := b1.trans (b2.mono b1.size)
  generalize x2.heap.size = C at T
  clear b1
  go_wp2_with fail
  refine (safe_at T (by decide)).mono ?_
  rintro e x3 ⟨rfl, b3⟩
  replace T := T.below b3
  replace b3 := b2.trans (b3.mono b2.size)
  clear b2
  have hI : Inv n 1 (fun _ => 0) := fun i _ => by simp
  go_wp2
  go_loopw [7, 8] (fun f i wr => ∃ (k now : Nat) (v : Nat → Nat), k ≤ 200 ∧ k ≤ len ∧ i = .int .i64 k ∧ f = .int .u64 ((leastN now v n - 1 : Nat) : Int) ∧ TabIs wr w.heap.size C t n now v k ∧ Inv n now v ∧ Below w.heap.size w wr)
    (fun _ i _ => len - (intOf i).toNat)
  case atStart => exact ⟨0, 1, _, by omega, Nat.zero_le _, rfl, rfl, T, hI, b3⟩
  case round =>
    clear T hI b3
    obtain ⟨k, now, v, hk1, hk2, rfl, rfl, T, hI, hb⟩ := hrel
    by_cases hlt : k < len ∧ k < 200
    · obtain ⟨hl1, hl2⟩ := hlt
      obtain ⟨g, off, rfl, hc0, hc1⟩ := HS.out.below hb k hl1
      have hle := least_step n now v (kd k) (sv k)
      have HI := hide (hI.step (kd k) (sv k))
      have HLE := hide hle
      obtain ⟨f, hf⟩ : ∃ f, f = leastN now v n := ⟨_, rfl⟩
      rw [← hf]
      have HF := hide hf
      clear hI hle hf
      go_wp2_with fail
      refine (does_any T (by omega) (kd k) (sv k)).mono ?_
      rintro e y1 ⟨⟨c, rfl⟩, T1, a1⟩
      replace hb := hb.trans (a1.below hb.size)
      clear T a1 hc0 hc1
      generalize stepNow now (kd k) = now1 at *
      generalize stepV n now v (kd k) (sv k) = v1 at *
      go_wp2_with fail
      refine (safe_at T1 (by omega)).mono ?_
      rintro e y2 ⟨rfl, b2⟩
      replace T1 := T1.below b2
      replace hb := hb.trans (b2.mono hb.size)
      clear b2
      have hp : 1 ≤ now1 ∧ now1 ≤ k + 2 := by
        obtain ⟨_, _, _, _, _, _, _, _, _, _, _, h4⟩ := T1
        exact h4
      have hq : 1 ≤ leastN now1 v1 n ∧ leastN now1 v1 n ≤ now1 ∧ f ≤ leastN now1 v1 n := ⟨leastN_pos _ _ _ hp.1, leastN_le_now _ _ _, by rw [HF.out]; exact HLE.out⟩
      have HV : Hid (∀ j, j < (inL v1 n).length → leastN now1 v1 n ≤ v1 ((inL v1 n).getD j 0) ∧ (inL v1 n).getD j 0 < n) := fun j hj => ⟨leastN_le _ _ _ _ (inL_get v1 n j hj).1 (inL_get v1 n j hj).2, (inL_get v1 n j hj).1⟩
      have HQ : Hid (leastN now1 v1 n = leastN now1 v1 n) := rfl
      generalize hqe : leastN now1 v1 n = q at hq HV HQ ⊢
      have HQE := hide hqe
      clear hqe HQ
      obtain ⟨q1, q2, q3⟩ := hq
      have d1 : decide (((q - 1 : Nat) : Int) < ((f - 1 : Nat) : Int)) = false := by simp; omega
      have d2 : decide (((q - 1 : Nat) : Int) ≥ (now1 : Int)) = false := by simp; omega
      go_wp2_with fail
      refine (now_any T1).mono ?_
      rintro e y3 ⟨rfl, rfl⟩
      go_wp2_with fail
      refine (in_any T1).mono ?_
      rintro e y4 ⟨ai, ci, rfl, hin, b4⟩
      replace T1 := T1.below b4
      replace hb := hb.trans (b4.mono hb.size)
      have hm8 : (inL v1 n).length ≤ 8 := Nat.le_trans (inL_length v1 n) h2
      have HIN := hide hin
      clear b4 hin d1 d2
      generalize inL v1 n = L at *
      generalize hm : L.length = m at *
      have HM := hide hm
      clear hm
      go_wp2
      go_loop [11] (fun i => ∃ j : Nat, j ≤ m ∧ i = .int .i64 j) (fun i => m - (intOf i).toNat)
      case atStart => exact ⟨0, Nat.zero_le _, rfl⟩
      case round =>
        obtain ⟨j, hj, rfl⟩ := hrel
        by_cases hjm : j < m
        · obtain ⟨gi, oi, rfl, hci⟩ := HIN.out j hjm
          replace hci : y4.cell? ⟨gi, oi + j, none⟩ = some (.int .i64 ((L.getD j 0 : Nat) : Int)) := hci
          obtain ⟨hv1, hv2⟩ := HV.out j hjm
          have hseen := seen_any T1 (L.getD j 0) hv2
          generalize L.getD j 0 = p at *
          generalize v1 p = z at *
          have d3 : decide ((z : Int) ≤ ((q - 1 : Nat) : Int)) = false := by simp; omega
          go_wp2_with fail
          refine hseen.mono ?_
          rintro e y5 ⟨rfl, rfl⟩
          go_wp2
          go_round
          case rel => exact ⟨j + 1, by omega, by go_num⟩
          case measure => simp [intOf]; omega
        · go_wp2
          go_roundw
          case rel => exact ⟨k + 1, now1, v1, by omega, by omega, by go_num, by rw [HQE.out], T1, HI.out, hb⟩
          case measure => simp [intOf]; omega
    · go_wp2
      all_goals
        go_ret
        exact ⟨rfl, hb⟩
theorem walk (w : World) (a0 : Int) (w0 : (Lit.int .i64 a0).wf = true) (v1 : Value) (o1 : IsActs w v1) :
    Calls Try.prog 4 #[.int .i64 a0, v1] w fun e w' => e = .returned (.bool true) ∧ Below w.heap.size w w' := by
  obtain ⟨ao, len, cap, kd, sv, rfl, hl, hs⟩ := o1
  by_cases h : a0 < 1 ∨ 8 < a0
  · exact walk_no a0 ao len cap w h
  · obtain ⟨n, rfl⟩ := Int.eq_ofNat_of_zero_le (show 0 ≤ a0 by omega)
    exact walk_yes n (by omega) (by omega) ao len cap kd sv w hl hs

set_option maxRecDepth 100000 in
theorem lifted (os : Os) (started : os.Started) (H : Type) (enc : TypeId × Value → H) :
    ReturnsInHanded {} Try.checked os 4 .any (Rows.epochRisesSpec.pre6 enc Try.prog Try.f4 Rows.epochRisesRow.domain false) (Rows.epochRisesSpec.post enc Try.prog Try.f4 false true false false) := by
  refine returnsInHanded_of_change (C := Try.checked) own started (by kernel_rfl) Try.func4
    (ChangeSpec.witness6 (enc := enc) (C := Try.checked) false ⟨#[], #[.int .i64 0, .slice none 0 0], []⟩ 8 (by kernel_rfl) (by kernel_rfl) (by kernel_rfl) (by kernel_rfl)) ?_
  intro W base args ds gs before hval0 hW hcnd _
  have hval : ∀ (j : Nat) t v, Try.f4.params[j]? = some t → args[j]? = some v → Value.okWide Try.prog W .any base t v := hval0
  have hW' := hW
  obtain ⟨p, q, hA0, hV, rfl, hfz, hnd⟩ := hW
  have hA : DataW.TrodAll enc Try.prog W 0 (fun _ => true) true Try.f4.params.toList args.toList ds p := hA0
  rw [Try.params4] at hA hval
  obtain ⟨v0, vs0, d0, ds0, p0, q0, hargs, rfl, rfl, h0, r0⟩ := trodAll_cons hA
  obtain ⟨v1, vs1, d1, ds1, p1, q1, rfl, rfl, rfl, h1, r1⟩ := trodAll_cons r0
  obtain ⟨rfl, rfl, rfl⟩ := trodAll_nil r1
  obtain rfl : args = #[v0, v1] := by cases args; simp_all
  obtain ⟨rfl, rfl⟩ := trodVars_none hV
  obtain ⟨a0, rfl, rfl, rfl, w0⟩ := open_int Try.underlying3 (hval 0 3 v0 rfl rfl) h0
  have k1 := h1
  have lt1 : ∀ x ∈ p1, x.block < W.heap.size := by obtain ⟨m, hm⟩ := k1; exact DataW.trod_lt m _ _ _ hm
  have o1 := open_acts (hval 1 22 v1 rfl rfl) h1
  clear hA0 hval0
  refine (walk W a0 w0 v1 o1).mono fun e W' ⟨he, bel⟩ => ?_
  subst he
  exact ⟨_, rfl, _, _, _, [], _, [], hW', trodAll_mk1 (shut_bool Try.underlying4 _), (trodAll_cons_mk (shut_int Try.underlying3 w0) (trodAll_cons_mk (Below.trod laidOut (by kernel_rfl) (of_decide_eq_true (by kernel_rfl)) k1 bel lt1) trodAll_mk0)), rfl, bel.frame _, fun h => by cases h⟩

theorem over : Rows.epochRisesRow.holds Try.pinned (OpenSpec.ofChange Rows.epochRisesSpec) :=
  OpenClaim.holds_of_wide 4 Try.f4 rfl rfl rfl rfl rfl rfl rfl ⟨rfl, rfl, rfl, rfl, rfl⟩ rfl rfl rfl rfl rfl (by kernel_rfl) Try.func4 (by kernel_rfl)
    (of_decide_eq_true (by kernel_rfl)) (by unfold Func.isWrapper; first | (rw [if_pos (by decide +kernel)]; kernel_rfl) | (rw [if_neg (by decide +kernel)]; exact ⟨rfl, rfl⟩))
    (fun os started H enc _ => lifted os started H enc)

theorem proved : Rows.EpochRisesSaid := over
#print axioms proved

end Go.Proofs.Ytlmkknlcdcajoaa.epochRises
