/- Whatever the input, haycroftlaw01.FieldFlags returns true and changes no argument. Conditions: none. -/
import Derived.Test.YtcjefpbagcflcaaWd
import Derived.Test.YtcjefpbagcflcaaRows
import Derived.WalkKit
import Derived.ProofKit
import Derived.OpenShut
import Derived.ShutString
import Derived.ChangeOld
import Derived.Below
namespace Go.Proofs.Ytcjefpbagcflcaa.fieldFlags
open Go.ChangeShapes Go.WideShapes Go.ChangeAt Go.RowKit
open Go.ChangeMaps (open_string shut_string)
set_option linter.unusedVariables false      -- a walk need not use every 'w<i>' (that an integer argument fits its kind)

theorem own : ownKnob Try.prog.godebug = none := by kernel_rfl


theorem getN_one (n a : Nat) : getN n a 1 = n / 2 ^ a % 2 := by simp [getN]
theorem flag_eq (n a : Nat) (h : a < 64) : ((getI n (a : Int) 1 : Int) == 1) = (((n / 2 ^ a % 2 : Nat) : Int) == 1) := by
  have hr : rightB (a : Int) 1 = true := by rw [rightB_iff]; omega
  simp only [getI, hr, if_true, Int.toNat_natCast, show (1 : Int).toNat = 1 from rfl, getN_one]
theorem flag_out (n : Nat) (a : Int) (h : ¬ (0 ≤ a ∧ a < 64)) : ((getI n a 1 : Int) == 1) = false := by
  have hr : rightB a 1 = false := by rw [rightB_not]; omega
  simp [getI, hr]
theorem set_in (n a : Nat) (on : Bool) (h : a < 64) : setN n (a : Int) on = putN n a 1 (if on then 1 else 0) := by
  unfold setN; rw [if_pos (by omega)]; rfl
theorem lay_one (n a v : Nat) (h : a < 64) (hv : v ≤ 1) : (bitsL n 64).set a v = layL n a v 1 := by
  have := layL_set n a v 0 (by omega)
  rw [layL_zero] at this
  simp only [Nat.add_zero, Nat.pow_zero, Nat.div_one] at this
  rw [← this, Nat.mod_eq_of_lt (by omega)]
theorem word_one (n a v : Nat) (hn : n < 18446744073709551616) (h : a < 64) (hv : v ≤ 1) : wordN ((bitsL n 64).set a v) = putN n a 1 v := by
  rw [lay_one n a v h hv, layL_word n a 1 v (by rw [pow64]; exact hn) (by omega) (by omega)]
theorem get_put_one (n a v : Nat) (h : a < 64) (hv : v ≤ 1) : putN n a 1 v / 2 ^ a % 2 = v := by
  unfold putN
  have h1 : n % 2 ^ a < 2 ^ a := Nat.mod_lt _ (pow_pos2 a)
  rw [show n % 2 ^ a + v * 2 ^ a + n / 2 ^ (a + 1) * 2 ^ (a + 1) = n % 2 ^ a + (v + 2 * (n / 2 ^ (a + 1))) * 2 ^ a by
    rw [Nat.add_mul, Nat.pow_succ, Nat.mul_comm (2 ^ a) 2, ← Nat.mul_assoc, Nat.mul_comm 2 (n / (2 * 2 ^ a))]; omega]
  rw [Nat.add_mul_div_right _ _ (pow_pos2 a), Nat.div_eq_of_lt h1]
  omega
theorem isBits_set (l : List Nat) (a v : Nat) (h : isBits l) (hv : v ≤ 1) : isBits (l.set a v) := by
  intro b hb
  rcases List.mem_or_eq_of_mem_set hb with h1 | h1
  · exact h b h1
  · omega
set_option maxHeartbeats 1000000 in
theorem walk_out (n : Nat) (a1 : Int) (b2 : Bool) (w : World) (hn : n < 18446744073709551616) (ho : ¬ (0 ≤ a1 ∧ a1 < 64)) :
    Calls Try.prog 4 #[.int .u64 (n : Int), .int .i64 a1, .bool b2] w fun e w' => e = .returned (.bool true) ∧ Below w.heap.size w w' := by
  have hset : setN n a1 b2 = n := by unfold setN; rw [if_neg ho]
  have hf := flag_out n a1 ho
  have HS := hide hset
  have HF := hide hf
  clear hset hf
  have ho' : a1 < 0 ∨ 63 < a1 := by omega
  rcases ho' with ho' | ho'
  all_goals
    go_enter Try.func4, Try.ntmps4
    go_wp2_with fail
    refine (awake_any _).mono ?_
    rintro e x1 ⟨rfl, b1⟩
    go_wp2_with fail
    refine (set_any _ _ _ _ hn).mono ?_
    rintro e x2 ⟨rfl, rfl⟩
    rw [HS.out]
    go_wp2_with fail
    refine (flag_any _ _ _ hn).mono ?_
    rintro e x3 ⟨rfl, b3⟩
    rw [HF.out]
    replace b3 := b1.trans ((below_drewN' b3).mono b1.size)
    go_wp2
    go_ret
    exact ⟨rfl, b3⟩
set_option maxHeartbeats 2000000 in
theorem walk_false (n a : Nat) (w : World) (hn : n < 18446744073709551616) (ha : a < 64) :
    Calls Try.prog 4 #[.int .u64 (n : Int), .int .i64 (a : Int), .bool false] w fun e w' => e = .returned (.bool true) ∧ Below w.heap.size w w' := by
  have HF := hide (flag_eq n a ha)
  have HS : Hid (setN n (a : Int) false = putN n a 1 0) := set_in n a false ha
  have hlt : putN n a 1 0 < 18446744073709551616 := by
    have := putN_lt n a 1 0 (by rw [pow64]; exact hn) (by omega) (by decide)
    rw [pow64] at this; exact this
  have HF2 : Hid (((getI (putN n a 1 0) (a : Int) 1 : Int) == 1) = false) := by
    have h1 := flag_eq (putN n a 1 0) a ha
    rw [get_put_one n a 0 ha (by decide)] at h1
    exact h1
  have HW := hide (word_one n a 0 hn ha (by decide))
  go_enter Try.func4, Try.ntmps4
  go_wp2_with fail
  refine (awake_any _).mono ?_
  rintro e x1 ⟨rfl, b1⟩
  go_wp2_with fail
  refine (set_any _ _ _ _ hn).mono ?_
  rintro e x2 ⟨rfl, rfl⟩
  rw [HS.out]
  generalize putN n a 1 0 = P at *
  go_wp2_with fail
  refine (bits_any _ _ hn).mono ?_
  rintro e x3 ⟨g, cap, rfl, hown, b3⟩
  obtain ⟨hcap, hg1, hg2, hg3⟩ := own_cap hown
  have hc := own_cellsN hown (bitsL_length _ _) a (by omega)
  rw [bitsL_get _ _ _ ha] at hc
  simp only [Option.getD_some] at hc
  have hfz := hown.frozenAt a
  obtain ⟨hs1, hs2⟩ := hown.stored a (.int .i64 0)
  have hs1' : (x3.setCell ⟨g, a, none⟩ (.int .i64 0)).ownsRow x2.heap.size 3 1 (.slice (some ⟨g, 0, none⟩) 64 cap) 64 (intsN ((bitsL n 64).set a 0)) := by
    rw [← intsN_set]; exact hs1
  replace b3 := b1.trans (b3.mono b1.size)
  have b4 := b3.setCell (p := ⟨g, a, none⟩) (by have := b1.size; show _ ≤ g; omega) (.int .i64 0)
  have hcs : ∀ j, j < 64 → (x3.setCell ⟨g, a, none⟩ (.int .i64 0)).cell? ⟨g, 0 + j, none⟩ = some (.int .i64 (((bitsL n 64).set a 0)[j]?.getD 0 : Nat)) := by
    intro j hj
    rw [Nat.zero_add]
    exact own_cellsN hs1' (by rw [List.length_set, bitsL_length]) j hj
  have HCS := hide hcs
  clear hcs hs1 hs2 hs1' hown
  generalize n / 2 ^ a % 2 = z at *
  go_wp2_with fail
  refine (flag_any _ _ _ hn).mono ?_
  rintro e x4 ⟨rfl, k, rfl⟩
  rw [HF.out]
  go_wp2_with fail
  refine (word_any ((bitsL n 64).set a 0) g 0 64 _ _ (by rw [List.length_set, bitsL_length]) (by omega) (isBits_set _ _ _ (bitsL_isBits _ _) (by decide)) (by exact fun j hj => HCS.out j hj)).mono ?_
  rintro e x5 ⟨rfl, rfl⟩
  rw [HW.out]
  go_wp2_with fail
  refine (flag_any _ _ _ hlt).mono ?_
  rintro e x6 ⟨rfl, k2, rfl⟩
  rw [HF2.out]
  go_wp2
  go_ret
  exact ⟨rfl, below_drewN b4 _⟩
set_option maxHeartbeats 2000000 in
theorem walk_true (n a : Nat) (w : World) (hn : n < 18446744073709551616) (ha : a < 64) :
    Calls Try.prog 4 #[.int .u64 (n : Int), .int .i64 (a : Int), .bool true] w fun e w' => e = .returned (.bool true) ∧ Below w.heap.size w w' := by
  have HF := hide (flag_eq n a ha)
  have HS : Hid (setN n (a : Int) true = putN n a 1 1) := set_in n a true ha
  have hlt : putN n a 1 1 < 18446744073709551616 := by
    have := putN_lt n a 1 1 (by rw [pow64]; exact hn) (by omega) (by decide)
    rw [pow64] at this; exact this
  have HF2 : Hid (((getI (putN n a 1 1) (a : Int) 1 : Int) == 1) = true) := by
    have h1 := flag_eq (putN n a 1 1) a ha
    rw [get_put_one n a 1 ha (by decide)] at h1
    exact h1
  have HW := hide (word_one n a 1 hn ha (by decide))
  go_enter Try.func4, Try.ntmps4
  go_wp2_with fail
  refine (awake_any _).mono ?_
  rintro e x1 ⟨rfl, b1⟩
  go_wp2_with fail
  refine (set_any _ _ _ _ hn).mono ?_
  rintro e x2 ⟨rfl, rfl⟩
  rw [HS.out]
  generalize putN n a 1 1 = P at *
  go_wp2_with fail
  refine (bits_any _ _ hn).mono ?_
  rintro e x3 ⟨g, cap, rfl, hown, b3⟩
  obtain ⟨hcap, hg1, hg2, hg3⟩ := own_cap hown
  have hc := own_cellsN hown (bitsL_length _ _) a (by omega)
  rw [bitsL_get _ _ _ ha] at hc
  simp only [Option.getD_some] at hc
  have hfz := hown.frozenAt a
  obtain ⟨hs1, hs2⟩ := hown.stored a (.int .i64 0)
  have hs1' : (x3.setCell ⟨g, a, none⟩ (.int .i64 0)).ownsRow x2.heap.size 3 1 (.slice (some ⟨g, 0, none⟩) 64 cap) 64 (intsN ((bitsL n 64).set a 0)) := by
    rw [← intsN_set]; exact hs1
  replace b3 := b1.trans (b3.mono b1.size)
  have b4 := b3.setCell (p := ⟨g, a, none⟩) (by have := b1.size; show _ ≤ g; omega) (.int .i64 0)
  obtain ⟨hs3, hs4⟩ := hs1'.stored a (.int .i64 1)
  have b5 := b4.setCell (p := ⟨g, a, none⟩) (by have := b1.size; show _ ≤ g; omega) (.int .i64 1)
  have hs3' : ((x3.setCell ⟨g, a, none⟩ (.int .i64 0)).setCell ⟨g, a, none⟩ (.int .i64 1)).ownsRow x2.heap.size 3 1 (.slice (some ⟨g, 0, none⟩) 64 cap) 64 (intsN ((bitsL n 64).set a 1)) := by
    have e := intsN_set ((bitsL n 64).set a 0) a 1
    rw [List.set_set] at e
    rw [← e]; exact hs3
  have hfz2 := hs1'.frozenAt a
  have hc2 := own_cellsN hs1' (by rw [List.length_set, bitsL_length]) a (by omega)
  have hcs : ∀ j, j < 64 → ((x3.setCell ⟨g, a, none⟩ (.int .i64 0)).setCell ⟨g, a, none⟩ (.int .i64 1)).cell? ⟨g, 0 + j, none⟩ = some (.int .i64 (((bitsL n 64).set a 1)[j]?.getD 0 : Nat)) := by
    intro j hj
    rw [Nat.zero_add]
    exact own_cellsN hs3' (by rw [List.length_set, bitsL_length]) j hj
  have HCS := hide hcs
  clear hcs hs1 hs2 hs1' hown
  clear hs3 hs4 hs3'
  generalize n / 2 ^ a % 2 = z at *
  go_wp2_with fail
  refine (flag_any _ _ _ hn).mono ?_
  rintro e x4 ⟨rfl, k, rfl⟩
  rw [HF.out]
  go_wp2_with fail
  refine (word_any ((bitsL n 64).set a 1) g 0 64 _ _ (by rw [List.length_set, bitsL_length]) (by omega) (isBits_set _ _ _ (bitsL_isBits _ _) (by decide)) (by exact fun j hj => HCS.out j hj)).mono ?_
  rintro e x5 ⟨rfl, rfl⟩
  rw [HW.out]
  go_wp2_with fail
  refine (flag_any _ _ _ hlt).mono ?_
  rintro e x6 ⟨rfl, k2, rfl⟩
  rw [HF2.out]
  go_wp2
  go_ret
  exact ⟨rfl, below_drewN b5 _⟩
theorem walk (a0 : Int) (a1 : Int) (b2 : Bool) (w0 : (Lit.int .u64 a0).wf = true) (w1 : (Lit.int .i64 a1).wf = true) (w : World) :
    Calls Try.prog 4 #[.int .u64 a0, .int .i64 a1, .bool b2] w fun e w' => e = .returned (.bool true) ∧ Below w.heap.size w w' := by
  obtain ⟨n, rfl, hn⟩ := nat_of_wf w0
  by_cases h : 0 ≤ a1 ∧ a1 < 64
  · obtain ⟨a, rfl⟩ := Int.eq_ofNat_of_zero_le h.1
    cases b2
    · exact walk_false n a w hn (by omega)
    · exact walk_true n a w hn (by omega)
  · exact walk_out n a1 b2 w hn h
/-! ### THE ROW's STEP: WRITTEN OUT: LEAVE IT -/
set_option maxRecDepth 100000 in
theorem lifted (os : Os) (started : os.Started) (H : Type) (enc : TypeId × Value → H) :
    ReturnsInHanded {} Try.checked os 4 .any (Rows.fieldFlagsSpec.pre6 enc Try.prog Try.f4 Rows.fieldFlagsRow.domain false) (Rows.fieldFlagsSpec.post enc Try.prog Try.f4 false true false false) := by
  refine returnsInHanded_of_change (C := Try.checked) own started (by kernel_rfl) Try.func4
    (ChangeSpec.witness6 (enc := enc) (C := Try.checked) false ⟨#[], #[.int .u64 0, .int .i64 0, .bool false], []⟩ 8 (by kernel_rfl) (by kernel_rfl) (by kernel_rfl) (by kernel_rfl)) ?_
  intro W base args ds gs before hval0 hW hcnd _
  have hval : ∀ (j : Nat) t v, Try.f4.params[j]? = some t → args[j]? = some v → Value.okWide Try.prog W .any base t v := hval0
  have hW' := hW
  obtain ⟨p, q, hA0, hV, rfl, hfz, hnd⟩ := hW
  have hA : DataW.TrodAll enc Try.prog W 0 (fun _ => true) true Try.f4.params.toList args.toList ds p := hA0
  rw [Try.params4] at hA hval
  obtain ⟨v0, vs0, d0, ds0, p0, q0, hargs, rfl, rfl, h0, r0⟩ := trodAll_cons hA
  obtain ⟨v1, vs1, d1, ds1, p1, q1, rfl, rfl, rfl, h1, r1⟩ := trodAll_cons r0
  obtain ⟨v2, vs2, d2, ds2, p2, q2, rfl, rfl, rfl, h2, r2⟩ := trodAll_cons r1
  obtain ⟨rfl, rfl, rfl⟩ := trodAll_nil r2
  obtain rfl : args = #[v0, v1, v2] := by cases args; simp_all
  obtain ⟨rfl, rfl⟩ := trodVars_none hV
  obtain ⟨a0, rfl, rfl, rfl, w0⟩ := open_int Try.underlying22 (hval 0 22 v0 rfl rfl) h0
  obtain ⟨a1, rfl, rfl, rfl, w1⟩ := open_int Try.underlying3 (hval 1 3 v1 rfl rfl) h1
  obtain ⟨a2, rfl, rfl, rfl⟩ := open_bool Try.underlying4 (hval 2 4 v2 rfl rfl) h2
  clear hA0 hval0
  simp only [List.append_nil] at hW'
  refine (walk a0 a1 a2 w0 w1 W).mono fun e W' ⟨he, bel⟩ => ?_
  subst he
  exact ⟨_, rfl, _, _, _, [], _, [], hW', (trodAll_cons_mk (shut_bool Try.underlying4 _) trodAll_mk0), (trodAll_cons_mk (shut_int Try.underlying22 w0) (trodAll_cons_mk (shut_int Try.underlying3 w1) (trodAll_cons_mk (shut_bool Try.underlying4 _) trodAll_mk0))), rfl, bel.frame _, fun h => by cases h⟩

theorem over : Rows.fieldFlagsRow.holds Try.pinned (OpenSpec.ofChange Rows.fieldFlagsSpec) :=
  OpenClaim.holds_of_wide 4 Try.f4 rfl rfl rfl rfl rfl rfl rfl ⟨rfl, rfl, rfl, rfl, rfl⟩ rfl rfl rfl rfl rfl (by kernel_rfl) Try.func4 (by kernel_rfl)
    (of_decide_eq_true (by kernel_rfl)) (by unfold Func.isWrapper; first | (rw [if_pos (by decide +kernel)]; kernel_rfl) | (rw [if_neg (by decide +kernel)]; exact ⟨rfl, rfl⟩))
    (fun os started H enc _ => lifted os started H enc)

/-- ████ THE STATEMENT ████ -/
theorem proved : Rows.FieldFlagsSaid :=
  over
#print axioms proved

end Go.Proofs.Ytcjefpbagcflcaa.fieldFlags
