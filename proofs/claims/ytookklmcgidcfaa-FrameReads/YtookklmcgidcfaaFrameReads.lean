/- Whatever the input, haycroftlaw10.FrameReads returns true and changes no argument. Conditions: none. -/
import Derived.Test.YtookklmcgidcfaaFf
import Derived.Test.YtookklmcgidcfaaWh
import Derived.Test.YtookklmcgidcfaaRows
import Derived.WalkKit
import Derived.ProofKit
import Derived.OpenShut
import Derived.ShutString
import Derived.ChangeOld
import Derived.Below
namespace Go.Proofs.Ytookklmcgidcfaa.frameReads
open Go.ChangeShapes Go.WideShapes Go.ChangeAt Go.RowKit
open Go.ChangeMaps (open_string shut_string)
set_option linter.unusedVariables false      -- a walk need not use every 'w<i>' (that an integer argument fits its kind)

theorem own : ownKnob Try.prog.godebug = none := by kernel_rfl


set_option maxHeartbeats 1000000 in
theorem walk_far (s : ByteArray) (n : Int) (w : World) (hm : s.size ≤ 9223372036854775807) (h : 5000 < s.size) :
    Calls Try.prog 4 #[.string s, .int .i64 n] w fun e w' => e = .returned (.bool true) ∧ Below w.heap.size w w' := by
  go_enter Try.func4, Try.ntmps4
  go_wp2_with fail
  refine (awake10_any _).mono ?_
  rintro e x1 ⟨rfl, b1⟩
  go_wp2
  go_ret
  exact ⟨rfl, b1⟩
/-- Both tell the same of any bytes. -/
theorem both_unpack (t : List UInt8) (hl : t.length ≤ 1000000) : ∃ (p n : Nat) (v : Nat → Nat) (E : Int), n ≤ 512 ∧
    (∀ w, Calls Try.prog 9 #[.string (strL t)] w fun e w' => ∃ ao cap, e = .returned (.tuple #[.int .i64 (p : Int), .slice ao n cap, .int .i64 E]) ∧ Sl .u64 w' ao n (fun j => (v j : Int)) ∧ Below w.heap.size w w') ∧
    (∀ w, Calls Try.prog 13 #[.string (strL t)] w fun e w' => ∃ ao cap, e = .returned (.tuple #[.int .i64 (p : Int), .slice ao n cap, .int .i64 E]) ∧ Sl .u64 w' ao n (fun j => (v j : Int)) ∧ Below w.heap.size w w') := by
  by_cases h : FrOK t
  · have h1 := h.long
    have h2 := h.whole
    have h3 := h.most
    refine ⟨wordAt t 0, t.length / 8 - 3, fun j => wordAt t (j + 2), 0, h3, fun w => ?_, fun w => ?_⟩
    · refine (unpack_yes t (t.length / 8 - 3) _ w h (by omega) rfl).mono ?_
      rintro e x ⟨ao, rfl, s, b⟩
      exact ⟨ao, _, rfl, s, b⟩
    · exact runpack_yes t (t.length / 8 - 3) _ w h (by omega) rfl
  · refine ⟨0, 0, fun _ => 0, 4, by omega, fun w => ?_, fun w => ?_⟩
    · refine (unpack_no t w hl h).mono ?_
      rintro e x ⟨rfl, b⟩
      exact ⟨_, _, rfl, fun j hj => absurd hj (by omega), b⟩
    · refine (runpack_no t w hl h).mono ?_
      rintro e x ⟨rfl, b⟩
      exact ⟨_, _, rfl, fun j hj => absurd hj (by omega), b⟩
set_option maxHeartbeats 2000000 in
theorem walk_near (s : ByteArray) (n : Int) (w : World) (hm : s.size ≤ 5000) (w1 : (Lit.int .i64 n).wf = true) :
    Calls Try.prog 4 #[.string s, .int .i64 n] w fun e w' => e = .returned (.bool true) ∧ Below w.heap.size w w' := by
  have hnb := bounds_i64 w1
  go_enter Try.func4, Try.ntmps4
  go_wp2_with fail
  refine (awake10_any _).mono ?_
  rintro e x1 ⟨rfl, b1⟩
  go_wp2
  go_loopw [0, 5] (fun u i wr => ∃ (k : Nat) (T : ByteArray), k ≤ 2 ∧ i = .int .i64 (k : Int) ∧ u = .string T ∧ T.size ≤ 6000 + 8 * k ∧ Below w.heap.size w wr) (fun _ i _ => 2 - (intOf i).toNat)
  case atStart => exact ⟨0, s, by omega, rfl, rfl, by omega, b1⟩
  case round =>
    clear b1
    obtain ⟨k, T, hk, rfl, rfl, hT, hb⟩ := hrel
    by_cases hlt : k < 2
    · obtain ⟨p, m, v, E, hm5, U1, U2⟩ := both_unpack T.data.toList (by rw [show T.data.toList.length = T.size by simp]; omega)
      rw [strL_data] at U1 U2
      replace U1 := hide U1
      replace U2 := hide U2
      have hpp : ((p : Int) != (p : Int)) = false := by simp
      have hEE : ((E : Int) != (E : Int)) = false := by simp
      go_wp2_with fail
      refine (U1.out _).mono ?_
      rintro e x2 ⟨ao, cap, rfl, s2, b2⟩
      replace b2 := hb.trans (b2.mono hb.size)
      clear hb
      go_wp2_with fail
      refine (U2.out _).mono ?_
      rintro e x3 ⟨a3, cap3, rfl, s3, b3⟩
      replace s2 := s2.below b3
      replace b3 := b2.trans (b3.mono b2.size)
      clear b2
      go_wp2_with fail
      refine (same_any _ _ m m _ _ v v true _ (by omega) (by omega) s2 s3 (by simp)).mono ?_
      rintro e x4 ⟨rfl, q, rfl⟩
      replace b3 := below_drewN b3 q
      clear s2 s3
      go_wp2_with fail
      refine (rseal_any T _ (by omega)).mono ?_
      rintro e x5 ⟨rfl, b5⟩
      replace b5 := b3.trans (b5.mono b3.size)
      go_wp2
      go_roundw
      case rel => exact ⟨k + 1, _, by omega, by go_num, rfl, by rw [strL_size, sealL_length, show T.data.toList.length = T.size by simp]; omega, b5⟩
      case measure => simp [intOf]; omega
    · obtain rfl : k = 2 := by omega
      by_cases hn : n < 1 ∨ 512 < n
      · have HB := hide (fun w => fbytes_no n w hn)
        by_cases h1 : n < 1
        · clear hn
          go_wp2_with fail
          refine (HB.out _).mono ?_
          rintro e x5 ⟨rfl, rfl⟩
          go_wp2
          go_ret
          exact ⟨rfl, hb⟩
        · have h2 : 512 < n := by omega
          clear hn
          go_wp2_with fail
          refine (HB.out _).mono ?_
          rintro e x5 ⟨rfl, rfl⟩
          go_wp2
          go_ret
          exact ⟨rfl, hb⟩
      · have h1 : 1 ≤ n := by omega
        have h2 : n ≤ 512 := by omega
        clear hn
        go_wp2_with fail
        refine (fbytes_yes n _ h1 h2).mono ?_
        rintro e x5 ⟨rfl, rfl⟩
        go_wp2
        go_ret
        exact ⟨ret_bool (by simp; try omega), hb⟩
theorem walk (a0 : ByteArray) (a1 : Int) (w0 : a0.size ≤ maxLen) (w1 : (Lit.int .i64 a1).wf = true) (w : World) :
    Calls Try.prog 4 #[.string a0, .int .i64 a1] w fun e w' => e = .returned (.bool true) ∧ Below w.heap.size w w' := by
  unfold maxLen at w0
  by_cases h : 5000 < a0.size
  · exact walk_far a0 a1 w (by omega) h
  · exact walk_near a0 a1 w (by omega) w1
/-! ### THE ROW's STEP: WRITTEN OUT: LEAVE IT -/
set_option maxRecDepth 100000 in
theorem lifted (os : Os) (started : os.Started) (H : Type) (enc : TypeId × Value → H) :
    ReturnsInHanded {} Try.checked os 4 .any (Rows.frameReadsSpec.pre6 enc Try.prog Try.f4 Rows.frameReadsRow.domain false) (Rows.frameReadsSpec.post enc Try.prog Try.f4 false true false false) := by
  refine returnsInHanded_of_change (C := Try.checked) own started (by kernel_rfl) Try.func4
    (ChangeSpec.witness6 (enc := enc) (C := Try.checked) false ⟨#[], #[.string ByteArray.empty, .int .i64 0], []⟩ 8 (by kernel_rfl) (by kernel_rfl) (by kernel_rfl) (by kernel_rfl)) ?_
  intro W base args ds gs before hval0 hW hcnd _
  have hval : ∀ (j : Nat) t v, Try.f4.params[j]? = some t → args[j]? = some v → Value.okWide Try.prog W .any base t v := hval0
  have hW' := hW
  obtain ⟨p, q, hA0, hV, rfl, hfz, hnd⟩ := hW
  have hA : DataW.TrodAll enc Try.prog W 0 (fun _ => true) true Try.f4.params.toList args.toList ds p := hA0
  rw [Try.params4] at hA hval
  obtain ⟨v0, vs0, d0, ds0, p0, q0, hargs, rfl, rfl, h0, r0⟩ := trodAll_cons hA
  obtain ⟨v1, vs1, d1, ds1, p1, q1, rfl, rfl, rfl, h1, r1⟩ := trodAll_cons r0
  obtain ⟨rfl, rfl, rfl⟩ := trodAll_nil r1
  obtain rfl : args = #[v0, v1] := by cases args; simp_all
  obtain ⟨rfl, rfl⟩ := trodVars_none hV
  obtain ⟨a0, rfl, rfl, rfl, w0⟩ := open_string Try.underlying9 (hval 0 9 v0 rfl rfl) h0
  obtain ⟨a1, rfl, rfl, rfl, w1⟩ := open_int Try.underlying3 (hval 1 3 v1 rfl rfl) h1
  clear hA0 hval0
  simp only [List.append_nil] at hW'
  refine (walk a0 a1 w0 w1 W).mono fun e W' ⟨he, bel⟩ => ?_
  subst he
  exact ⟨_, rfl, _, _, _, [], _, [], hW', (trodAll_cons_mk (shut_bool Try.underlying4 _) trodAll_mk0), (trodAll_cons_mk (shut_string Try.underlying9 w0) (trodAll_cons_mk (shut_int Try.underlying3 w1) trodAll_mk0)), rfl, bel.frame _, fun h => by cases h⟩

theorem over : Rows.frameReadsRow.holds Try.pinned (OpenSpec.ofChange Rows.frameReadsSpec) :=
  OpenClaim.holds_of_wide 4 Try.f4 rfl rfl rfl rfl rfl rfl rfl ⟨rfl, rfl, rfl, rfl, rfl⟩ rfl rfl rfl rfl rfl (by kernel_rfl) Try.func4 (by kernel_rfl)
    (of_decide_eq_true (by kernel_rfl)) (by unfold Func.isWrapper; first | (rw [if_pos (by decide +kernel)]; kernel_rfl) | (rw [if_neg (by decide +kernel)]; exact ⟨rfl, rfl⟩))
    (fun os started H enc _ => lifted os started H enc)

/-- ████ THE STATEMENT ████ -/
theorem proved : Rows.FrameReadsSaid :=
  over
#print axioms proved

end Go.Proofs.Ytookklmcgidcfaa.frameReads
