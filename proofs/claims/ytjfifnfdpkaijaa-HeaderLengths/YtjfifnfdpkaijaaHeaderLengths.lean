/- Whatever the input, haycroftlaw08.HeaderLengths returns true and changes no argument. Conditions: none. -/
import Derived.Test.YtjfifnfdpkaijaaHc
import Derived.Test.YtjfifnfdpkaijaaRows
import Derived.WalkKit
import Derived.ProofKit
import Derived.OpenShut
import Derived.ShutString
import Derived.ChangeOld
import Derived.Below
namespace Go.Proofs.Ytjfifnfdpkaijaa.headerLengths
open Go.ChangeShapes Go.WideShapes Go.ChangeAt Go.RowKit
open Go.ChangeMaps (open_string shut_string)
set_option linter.unusedVariables false      -- a walk need not use every 'w<i>' (that an integer argument fits its kind)

theorem own : ownKnob Try.prog.godebug = none := by kernel_rfl


theorem rtold_yes (n : Nat) (w : World) (hn : n < 18446744073709551616) (h : toldB n = true) :
    Calls Try.prog 20 #[.int .u64 (n : Int)] w fun e w' => e = .returned (.tuple #[.int .i64 ((n % 65536 : Nat) : Int), .int .i64 ((n / 65536 % 65536 : Nat) : Int), .int .i64 0]) ∧ w' = w :=
  (rtold_any n w hn).mono fun e w' ⟨a, b⟩ => ⟨by rw [a, h, if_pos rfl], b⟩
theorem rtold_no (n : Nat) (w : World) (hn : n < 18446744073709551616) (h : toldB n = false) :
    Calls Try.prog 20 #[.int .u64 (n : Int)] w fun e w' => e = .returned (.tuple #[.int .i64 0, .int .i64 0, .int .i64 4]) ∧ w' = w :=
  (rtold_any n w hn).mono fun e w' ⟨a, b⟩ => ⟨by rw [a, h, if_neg (by decide)], b⟩
set_option maxHeartbeats 1000000 in
theorem walk_arg (k v : Int) (n : Nat) (hn : n < 18446744073709551616) (h : k < 0 ∨ v < 0) (w : World) :
    Calls Try.prog 6 #[.int .i64 k, .int .i64 v, .int .u64 (n : Int)] w fun e w' => e = .returned (.bool true) ∧ Below w.heap.size w w' := by
  obtain ⟨K, hK⟩ : ∃ K, n % 65536 = K := ⟨_, rfl⟩
  obtain ⟨V, hV⟩ : ∃ V, n / 65536 % 65536 = V := ⟨_, rfl⟩
  have HK := hide hK
  have HV := hide hV
  clear hK hV
  have HH := hide h
  clear h
  cases ht : toldB n
  · go_enter Try.func6, Try.ntmps6
    go_wp2_with fail
    refine (awake_any _).mono ?_
    rintro e x1 ⟨rfl, b1⟩
    go_wp2_with fail
    refine (len_arg _ _ _ HH.out).mono ?_
    rintro e x2 ⟨rfl, b2⟩
    replace b2 := b1.trans (b2.mono b1.size)
    clear b1
    go_wp2_with fail
    refine (rlen_arg _ _ _ HH.out).mono ?_
    rintro e x3 ⟨rfl, rfl⟩
    go_wp2_with fail
    refine (told_no n _ hn ht).mono ?_
    rintro e y1 ⟨rfl, c1⟩
    replace c1 := b2.trans (c1.mono b2.size)
    go_wp2_with fail
    refine (rtold_no n _ hn ht).mono ?_
    rintro e y2 ⟨rfl, rfl⟩
    go_wp2
    go_ret
    exact ⟨rfl, c1⟩
  · go_enter Try.func6, Try.ntmps6
    go_wp2_with fail
    refine (awake_any _).mono ?_
    rintro e x1 ⟨rfl, b1⟩
    go_wp2_with fail
    refine (len_arg _ _ _ HH.out).mono ?_
    rintro e x2 ⟨rfl, b2⟩
    replace b2 := b1.trans (b2.mono b1.size)
    clear b1
    go_wp2_with fail
    refine (rlen_arg _ _ _ HH.out).mono ?_
    rintro e x3 ⟨rfl, rfl⟩
    go_wp2_with fail
    refine (told_yes n _ hn ht).mono ?_
    rintro e y1 ⟨rfl, c1⟩
    replace c1 := b2.trans (c1.mono b2.size)
    rw [HK.out, HV.out]
    go_wp2_with fail
    refine (rtold_yes n _ hn ht).mono ?_
    rintro e y2 ⟨rfl, rfl⟩
    rw [HK.out, HV.out]
    go_wp2
    go_ret
    exact ⟨rfl, c1⟩
set_option maxHeartbeats 1000000 in
theorem walk_long (k v : Int) (n : Nat) (hn : n < 18446744073709551616) (hk : 0 ≤ k) (hv : 0 ≤ v) (h : 64 < k ∨ 128 < v) (w : World) :
    Calls Try.prog 6 #[.int .i64 k, .int .i64 v, .int .u64 (n : Int)] w fun e w' => e = .returned (.bool true) ∧ Below w.heap.size w w' := by
  obtain ⟨K, hK⟩ : ∃ K, n % 65536 = K := ⟨_, rfl⟩
  obtain ⟨V, hV⟩ : ∃ V, n / 65536 % 65536 = V := ⟨_, rfl⟩
  have HK := hide hK
  have HV := hide hV
  clear hK hV
  have HH := hide h
  clear h
  cases ht : toldB n
  · go_enter Try.func6, Try.ntmps6
    go_wp2_with fail
    refine (awake_any _).mono ?_
    rintro e x1 ⟨rfl, b1⟩
    go_wp2_with fail
    refine (len_long _ _ _ hk hv HH.out).mono ?_
    rintro e x2 ⟨rfl, b2⟩
    replace b2 := b1.trans (b2.mono b1.size)
    clear b1
    go_wp2_with fail
    refine (rlen_long _ _ _ hk hv HH.out).mono ?_
    rintro e x3 ⟨rfl, rfl⟩
    go_wp2_with fail
    refine (told_no n _ hn ht).mono ?_
    rintro e y1 ⟨rfl, c1⟩
    replace c1 := b2.trans (c1.mono b2.size)
    go_wp2_with fail
    refine (rtold_no n _ hn ht).mono ?_
    rintro e y2 ⟨rfl, rfl⟩
    go_wp2
    go_ret
    exact ⟨rfl, c1⟩
  · go_enter Try.func6, Try.ntmps6
    go_wp2_with fail
    refine (awake_any _).mono ?_
    rintro e x1 ⟨rfl, b1⟩
    go_wp2_with fail
    refine (len_long _ _ _ hk hv HH.out).mono ?_
    rintro e x2 ⟨rfl, b2⟩
    replace b2 := b1.trans (b2.mono b1.size)
    clear b1
    go_wp2_with fail
    refine (rlen_long _ _ _ hk hv HH.out).mono ?_
    rintro e x3 ⟨rfl, rfl⟩
    go_wp2_with fail
    refine (told_yes n _ hn ht).mono ?_
    rintro e y1 ⟨rfl, c1⟩
    replace c1 := b2.trans (c1.mono b2.size)
    rw [HK.out, HV.out]
    go_wp2_with fail
    refine (rtold_yes n _ hn ht).mono ?_
    rintro e y2 ⟨rfl, rfl⟩
    rw [HK.out, HV.out]
    go_wp2
    go_ret
    exact ⟨rfl, c1⟩
set_option maxHeartbeats 1000000 in
theorem walk_yes (k v : Nat) (n : Nat) (hn : n < 18446744073709551616) (hk : k ≤ 64) (hv : v ≤ 128) (w : World) :
    Calls Try.prog 6 #[.int .i64 (k : Int), .int .i64 (v : Int), .int .u64 (n : Int)] w fun e w' => e = .returned (.bool true) ∧ Below w.heap.size w w' := by
  obtain ⟨K, hK⟩ : ∃ K, n % 65536 = K := ⟨_, rfl⟩
  obtain ⟨V, hV⟩ : ∃ V, n / 65536 % 65536 = V := ⟨_, rfl⟩
  have HK := hide hK
  have HV := hide hV
  clear hK hV
  obtain ⟨tL, hLk, hLv, hL⟩ := told_of k v hk hv
  generalize hLL : lenN k v = L at *
  have HL := hide hLL
  have HLk := hide hLk
  have HLv := hide hLv
  clear hLL hLk hLv
  cases ht : toldB n
  · go_enter Try.func6, Try.ntmps6
    go_wp2_with fail
    refine (awake_any _).mono ?_
    rintro e x1 ⟨rfl, b1⟩
    go_wp2_with fail
    refine (len_yes _ _ _ hk hv).mono ?_
    rintro e x2 ⟨rfl, b2⟩
    replace b2 := b1.trans (b2.mono b1.size)
    clear b1
    go_wp2_with fail
    refine (rlen_yes _ _ _ hk hv).mono ?_
    rintro e x3 ⟨rfl, rfl⟩
    rw [HL.out]
    go_wp2_with fail
    refine (told_yes L _ hL tL).mono ?_
    rintro e x4 ⟨rfl, b4⟩
    replace b2 := b2.trans (b4.mono b2.size)
    clear b4
    rw [HLk.out, HLv.out]
    go_wp2_with fail
    refine (told_no n _ hn ht).mono ?_
    rintro e y1 ⟨rfl, c1⟩
    replace c1 := b2.trans (c1.mono b2.size)
    go_wp2_with fail
    refine (rtold_no n _ hn ht).mono ?_
    rintro e y2 ⟨rfl, rfl⟩
    go_wp2
    go_ret
    exact ⟨rfl, c1⟩
  · go_enter Try.func6, Try.ntmps6
    go_wp2_with fail
    refine (awake_any _).mono ?_
    rintro e x1 ⟨rfl, b1⟩
    go_wp2_with fail
    refine (len_yes _ _ _ hk hv).mono ?_
    rintro e x2 ⟨rfl, b2⟩
    replace b2 := b1.trans (b2.mono b1.size)
    clear b1
    go_wp2_with fail
    refine (rlen_yes _ _ _ hk hv).mono ?_
    rintro e x3 ⟨rfl, rfl⟩
    rw [HL.out]
    go_wp2_with fail
    refine (told_yes L _ hL tL).mono ?_
    rintro e x4 ⟨rfl, b4⟩
    replace b2 := b2.trans (b4.mono b2.size)
    clear b4
    rw [HLk.out, HLv.out]
    go_wp2_with fail
    refine (told_yes n _ hn ht).mono ?_
    rintro e y1 ⟨rfl, c1⟩
    replace c1 := b2.trans (c1.mono b2.size)
    rw [HK.out, HV.out]
    go_wp2_with fail
    refine (rtold_yes n _ hn ht).mono ?_
    rintro e y2 ⟨rfl, rfl⟩
    rw [HK.out, HV.out]
    go_wp2
    go_ret
    exact ⟨rfl, c1⟩
theorem walk (a0 : Int) (a1 : Int) (a2 : Int) (w0 : (Lit.int .i64 a0).wf = true) (w1 : (Lit.int .i64 a1).wf = true) (w2 : (Lit.int .u64 a2).wf = true) (w : World) :
    Calls Try.prog 6 #[.int .i64 a0, .int .i64 a1, .int .u64 a2] w fun e w' => e = .returned (.bool true) ∧ Below w.heap.size w w' := by
  obtain ⟨n, rfl, hn⟩ := nat_of_wf w2
  by_cases h : a0 < 0 ∨ a1 < 0
  · exact walk_arg a0 a1 n hn h w
  · by_cases h' : 64 < a0 ∨ 128 < a1
    · exact walk_long a0 a1 n hn (by omega) (by omega) h' w
    · obtain ⟨k, rfl⟩ := Int.eq_ofNat_of_zero_le (show 0 ≤ a0 by omega)
      obtain ⟨v, rfl⟩ := Int.eq_ofNat_of_zero_le (show 0 ≤ a1 by omega)
      exact walk_yes k v n hn (by omega) (by omega) w
/-! ### THE ROW's STEP: WRITTEN OUT: LEAVE IT -/
set_option maxRecDepth 100000 in
theorem lifted (os : Os) (started : os.Started) (H : Type) (enc : TypeId × Value → H) :
    ReturnsInHanded {} Try.checked os 6 .any (Rows.headerLengthsSpec.pre6 enc Try.prog Try.f6 Rows.headerLengthsRow.domain false) (Rows.headerLengthsSpec.post enc Try.prog Try.f6 false true false false) := by
  refine returnsInHanded_of_change (C := Try.checked) own started (by kernel_rfl) Try.func6
    (ChangeSpec.witness6 (enc := enc) (C := Try.checked) false ⟨#[], #[.int .i64 0, .int .i64 0, .int .u64 0], []⟩ 8 (by kernel_rfl) (by kernel_rfl) (by kernel_rfl) (by kernel_rfl)) ?_
  intro W base args ds gs before hval0 hW hcnd _
  have hval : ∀ (j : Nat) t v, Try.f6.params[j]? = some t → args[j]? = some v → Value.okWide Try.prog W .any base t v := hval0
  have hW' := hW
  obtain ⟨p, q, hA0, hV, rfl, hfz, hnd⟩ := hW
  have hA : DataW.TrodAll enc Try.prog W 0 (fun _ => true) true Try.f6.params.toList args.toList ds p := hA0
  rw [Try.params6] at hA hval
  obtain ⟨v0, vs0, d0, ds0, p0, q0, hargs, rfl, rfl, h0, r0⟩ := trodAll_cons hA
  obtain ⟨v1, vs1, d1, ds1, p1, q1, rfl, rfl, rfl, h1, r1⟩ := trodAll_cons r0
  obtain ⟨v2, vs2, d2, ds2, p2, q2, rfl, rfl, rfl, h2, r2⟩ := trodAll_cons r1
  obtain ⟨rfl, rfl, rfl⟩ := trodAll_nil r2
  obtain rfl : args = #[v0, v1, v2] := by cases args; simp_all
  obtain ⟨rfl, rfl⟩ := trodVars_none hV
  obtain ⟨a0, rfl, rfl, rfl, w0⟩ := open_int Try.underlying3 (hval 0 3 v0 rfl rfl) h0
  obtain ⟨a1, rfl, rfl, rfl, w1⟩ := open_int Try.underlying3 (hval 1 3 v1 rfl rfl) h1
  obtain ⟨a2, rfl, rfl, rfl, w2⟩ := open_int Try.underlying22 (hval 2 22 v2 rfl rfl) h2
  clear hA0 hval0
  simp only [List.append_nil] at hW'
  refine (walk a0 a1 a2 w0 w1 w2 W).mono fun e W' ⟨he, bel⟩ => ?_
  subst he
  exact ⟨_, rfl, _, _, _, [], _, [], hW', (trodAll_cons_mk (shut_bool Try.underlying4 _) trodAll_mk0), (trodAll_cons_mk (shut_int Try.underlying3 w0) (trodAll_cons_mk (shut_int Try.underlying3 w1) (trodAll_cons_mk (shut_int Try.underlying22 w2) trodAll_mk0))), rfl, bel.frame _, fun h => by cases h⟩

theorem over : Rows.headerLengthsRow.holds Try.pinned (OpenSpec.ofChange Rows.headerLengthsSpec) :=
  OpenClaim.holds_of_wide 6 Try.f6 rfl rfl rfl rfl rfl rfl rfl ⟨rfl, rfl, rfl, rfl, rfl⟩ rfl rfl rfl rfl rfl (by kernel_rfl) Try.func6 (by kernel_rfl)
    (of_decide_eq_true (by kernel_rfl)) (by unfold Func.isWrapper; first | (rw [if_pos (by decide +kernel)]; kernel_rfl) | (rw [if_neg (by decide +kernel)]; exact ⟨rfl, rfl⟩))
    (fun os started H enc _ => lifted os started H enc)

/-- ████ THE STATEMENT ████ -/
theorem proved : Rows.HeaderLengthsSaid :=
  over
#print axioms proved

end Go.Proofs.Ytjfifnfdpkaijaa.headerLengths
