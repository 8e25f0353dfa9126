/- Whatever the input, haycroftlaw04.SealOpens returns true and changes no argument. Conditions: none. -/
import Derived.Test.YtnkipbncelgbnaaWu
import Derived.Test.YtnkipbncelgbnaaRows
import Derived.WalkKit
import Derived.ProofKit
import Derived.OpenShut
import Derived.ShutString
import Derived.ChangeOld
import Derived.Below
namespace Go.Proofs.Ytnkipbncelgbnaa.sealOpens
open Go.ChangeShapes Go.WideShapes Go.ChangeAt Go.RowKit
open Go.ChangeMaps (open_string shut_string)
set_option linter.unusedVariables false      -- a walk need not use every 'w<i>' (that an integer argument fits its kind)

theorem own : ownKnob Try.prog.godebug = none := by kernel_rfl


set_option maxHeartbeats 1000000 in
theorem walk_long (s o : ByteArray) (hs : s.size ≤ 9223372036854775807) (ho : o.size ≤ 9223372036854775807) (hl : 2000 < s.size ∨ 2000 < o.size) (w : World) :
    Calls Try.prog 4 #[.string s, .string o] w fun e w' => e = .returned (.bool true) ∧ Below w.heap.size w w' := by
  by_cases h1 : 2000 < s.size
  · clear hl
    go_enter Try.func4, Try.ntmps4
    go_wp2_with fail
    refine (awake4_any _).mono ?_
    rintro e x1 ⟨rfl, rfl⟩
    go_wp2
    go_ret
    exact ⟨rfl, Below.refl _ _⟩
  · have h2 : 2000 < o.size := by omega
    clear hl
    go_enter Try.func4, Try.ntmps4
    go_wp2_with fail
    refine (awake4_any _).mono ?_
    rintro e x1 ⟨rfl, rfl⟩
    go_wp2
    go_ret
    exact ⟨rfl, Below.refl _ _⟩
set_option maxHeartbeats 1000000 in
theorem walk_short (s o : ByteArray) (hl : s.size ≤ 2000) (hl2 : o.size ≤ 2000) (w : World) :
    Calls Try.prog 4 #[.string s, .string o] w fun e w' => e = .returned (.bool true) ∧ Below w.heap.size w w' := by
  have hlen : s.data.toList.length = s.size := by simp
  have h8 : 8 ≤ (sealL s.data.toList).length := by rw [sealL_length]; omega
  have hlm : (sealL s.data.toList).length ≤ 1000000 := by rw [sealL_length]; omega
  have HT : Hid (strL ((sealL s.data.toList).take ((sealL s.data.toList).length - 8)) = s) := by unfold Hid; rw [seal_take]; rfl
  have HO := hide (seal_opens s.data.toList)
  have HRS : Hid (∀ w, Calls Try.prog 12 #[.string s] w fun e w' => e = .returned (.string (strL (sealL s.data.toList))) ∧ Below w.heap.size w w') := fun w => rseal_any s w (by omega)
  have HS : Hid (∀ w, Calls Try.prog 10 #[.string s] w fun e w' => e = .returned (.string (strL (sealL s.data.toList))) ∧ Below w.heap.size w w') := fun w => seal_any s w (by omega)
  generalize sealL s.data.toList = l at *
  have HOP : Hid (∀ w, Calls Try.prog 11 #[.string (strL l)] w fun e w' => e = .returned (.tuple #[.string s, .int .i64 0]) ∧ Below w.heap.size w w') := fun w => by
    have := open_yes l w h8 hlm HO.out
    rw [HT.out] at this
    exact this
  generalize strL l = t at *
  clear HT HO h8 hlm hlen
  go_enter Try.func4, Try.ntmps4
  go_wp2_with fail
  refine (awake4_any _).mono ?_
  rintro e x1 ⟨rfl, rfl⟩
  go_wp2_with fail
  refine (HS.out _).mono ?_
  rintro e x2 ⟨rfl, b2⟩
  go_wp2_with fail
  refine (HOP.out _).mono ?_
  rintro e x3 ⟨rfl, b3⟩
  replace b3 := b2.trans (b3.mono b2.size)
  go_wp2_with fail
  refine (HRS.out _).mono ?_
  rintro e x4 ⟨rfl, b4⟩
  replace b4 := b3.trans (b4.mono b3.size)
  clear HS HOP HRS b2 b3
  by_cases ho8 : o.size < 8
  · go_wp2_with fail
    refine (open_short _ _ ho8).mono ?_
    rintro e x5 ⟨rfl, rfl⟩
    go_wp2
    go_ret
    exact ⟨rfl, b4⟩
  · have hol : o.data.toList.length = o.size := by simp
    by_cases hop : Opens o.data.toList
    · have HB := hide (opens_seal o.data.toList (by omega) hop)
      have HY : Hid (∀ w, Calls Try.prog 11 #[.string o] w fun e w' => e = .returned (.tuple #[.string (strL (o.data.toList.take (o.data.toList.length - 8))), .int .i64 0]) ∧ Below w.heap.size w w') := fun w => open_yes o.data.toList w (by omega) (by omega) hop
      have HR : Hid (∀ w, Calls Try.prog 12 #[.string (strL (o.data.toList.take (o.data.toList.length - 8)))] w fun e w' => e = .returned (.string o) ∧ Below w.heap.size w w') := fun w => by
        have := rseal_any (strL (o.data.toList.take (o.data.toList.length - 8))) w (by rw [strL_size, List.length_take]; omega)
        rw [strL_toList, HB.out] at this
        exact this
      generalize strL (o.data.toList.take (o.data.toList.length - 8)) = v at *
      clear hop HB
      go_wp2_with fail
      refine (HY.out _).mono ?_
      rintro e x5 ⟨rfl, b5⟩
      replace b5 := b4.trans (b5.mono b4.size)
      go_wp2_with fail
      refine (HR.out _).mono ?_
      rintro e x6 ⟨rfl, b6⟩
      replace b6 := b5.trans (b6.mono b5.size)
      go_wp2
      go_ret
      exact ⟨ret_bool (by simp), b6⟩
    · have HY : Hid (∀ w, Calls Try.prog 11 #[.string o] w fun e w' => e = .returned (.tuple #[.string ⟨#[]⟩, .int .i64 4]) ∧ Below w.heap.size w w') := fun w => open_no o.data.toList w (by omega) (by omega) hop
      clear hop
      go_wp2_with fail
      refine (HY.out _).mono ?_
      rintro e x5 ⟨rfl, b5⟩
      replace b5 := b4.trans (b5.mono b4.size)
      go_wp2
      go_ret
      exact ⟨ret_bool (by simp; omega), b5⟩
theorem walk (a0 a1 : ByteArray) (w0 : a0.size ≤ maxLen) (w1 : a1.size ≤ maxLen) (w : World) :
    Calls Try.prog 4 #[.string a0, .string a1] w fun e w' => e = .returned (.bool true) ∧ Below w.heap.size w w' := by
  unfold maxLen at w0 w1
  by_cases h : a0.size ≤ 2000 ∧ a1.size ≤ 2000
  · exact walk_short a0 a1 h.1 h.2 w
  · exact walk_long a0 a1 (by omega) (by omega) (by omega) w
/-! ### THE ROW's STEP: WRITTEN OUT: LEAVE IT -/
set_option maxRecDepth 100000 in
theorem lifted (os : Os) (started : os.Started) (H : Type) (enc : TypeId × Value → H) :
    ReturnsInHanded {} Try.checked os 4 .any (Rows.sealOpensSpec.pre6 enc Try.prog Try.f4 Rows.sealOpensRow.domain false) (Rows.sealOpensSpec.post enc Try.prog Try.f4 false true false false) := by
  refine returnsInHanded_of_change (C := Try.checked) own started (by kernel_rfl) Try.func4
    (ChangeSpec.witness6 (enc := enc) (C := Try.checked) false ⟨#[], #[.string ByteArray.empty, .string ByteArray.empty], []⟩ 8 (by kernel_rfl) (by kernel_rfl) (by kernel_rfl) (by kernel_rfl)) ?_
  intro W base args ds gs before hval0 hW hcnd _
  have hval : ∀ (j : Nat) t v, Try.f4.params[j]? = some t → args[j]? = some v → Value.okWide Try.prog W .any base t v := hval0
  have hW' := hW
  obtain ⟨p, q, hA0, hV, rfl, hfz, hnd⟩ := hW
  have hA : DataW.TrodAll enc Try.prog W 0 (fun _ => true) true Try.f4.params.toList args.toList ds p := hA0
  rw [Try.params4] at hA hval
  obtain ⟨v0, vs0, d0, ds0, p0, q0, hargs, rfl, rfl, h0, r0⟩ := trodAll_cons hA
  obtain ⟨v1, vs1, d1, ds1, p1, q1, rfl, rfl, rfl, h1, r1⟩ := trodAll_cons r0
  obtain ⟨rfl, rfl, rfl⟩ := trodAll_nil r1
  obtain rfl : args = #[v0, v1] := by cases args; simp_all
  obtain ⟨rfl, rfl⟩ := trodVars_none hV
  obtain ⟨a0, rfl, rfl, rfl, w0⟩ := open_string Try.underlying9 (hval 0 9 v0 rfl rfl) h0
  obtain ⟨a1, rfl, rfl, rfl, w1⟩ := open_string Try.underlying9 (hval 1 9 v1 rfl rfl) h1
  clear hA0 hval0
  simp only [List.append_nil] at hW'
  refine (walk a0 a1 w0 w1 W).mono fun e W' ⟨he, bel⟩ => ?_
  subst he
  exact ⟨_, rfl, _, _, _, [], _, [], hW', (trodAll_cons_mk (shut_bool Try.underlying4 _) trodAll_mk0), (trodAll_cons_mk (shut_string Try.underlying9 w0) (trodAll_cons_mk (shut_string Try.underlying9 w1) trodAll_mk0)), rfl, bel.frame _, fun h => by cases h⟩

theorem over : Rows.sealOpensRow.holds Try.pinned (OpenSpec.ofChange Rows.sealOpensSpec) :=
  OpenClaim.holds_of_wide 4 Try.f4 rfl rfl rfl rfl rfl rfl rfl ⟨rfl, rfl, rfl, rfl, rfl⟩ rfl rfl rfl rfl rfl (by kernel_rfl) Try.func4 (by kernel_rfl)
    (of_decide_eq_true (by kernel_rfl)) (by unfold Func.isWrapper; first | (rw [if_pos (by decide +kernel)]; kernel_rfl) | (rw [if_neg (by decide +kernel)]; exact ⟨rfl, rfl⟩))
    (fun os started H enc _ => lifted os started H enc)

/-- ████ THE STATEMENT ████ -/
theorem proved : Rows.SealOpensSaid :=
  over
#print axioms proved

end Go.Proofs.Ytnkipbncelgbnaa.sealOpens
