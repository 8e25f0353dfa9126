/- Whatever the input, haycroftlaw10.FrameCuts returns true and changes no argument. Conditions: none. -/
import Derived.Test.YtookklmcgidcfaaFe
import Derived.Test.YtookklmcgidcfaaRows
import Derived.WalkKit
import Derived.ProofKit
import Derived.OpenShut
import Derived.ShutString
import Derived.ChangeOld
import Derived.Below
namespace Go.Proofs.Ytookklmcgidcfaa.frameCuts
open Go.ChangeShapes Go.WideShapes Go.ChangeAt Go.RowKit
open Go.ChangeMaps (open_string shut_string)
set_option linter.unusedVariables false

theorem own : ownKnob Try.prog.godebug = none := by kernel_rfl
theorem laidOut : laidOutB Try.prog = true := by kernel_rfl

/-- WHAT THE WALK IS TOLD OF A SLICE OF INTEGERS THAT CAME IN: it is nil; or it leads to a row of 'cap' cells, the numbers 'zs' (the first 'len' are its elements, the rest its spare room), each fitting its kind. -/
def IsRow (k : IntKind) (w : World) (a : Option Addr) (len cap : Nat) (zs : List Int) : Prop :=
  (a = none ∧ len = 0 ∧ cap = 0 ∧ zs = []) ∨
  ∃ x, a = some x ∧ len ≤ cap ∧ cap ≤ maxLen ∧ zs.length = cap ∧ (∀ i, i < zs.length → w.cell? (x.add i) = some (.int k (zs.getD i 0))) ∧ ∀ n ∈ zs, (Lit.int k n).wf = true


theorem sl_of_row {w : World} {a : Option Addr} {len cap : Nat} {zs : List Int} (h : IsRow .u64 w a len cap zs) : ∃ l : List Nat, l.length = len ∧ Sl .u64 w a len (fun j => ((l[j]?.getD 0 : Nat) : Int)) ∧ (∀ j, j < len → l[j]?.getD 0 < 18446744073709551616) ∧ len ≤ 9223372036854775807 := by
  rcases h with ⟨rfl, rfl, rfl, rfl⟩ | ⟨x, rfl, hl, hm, hz, hc, hw⟩
  · exact ⟨[], rfl, fun j hj => absurd hj (by omega), fun j hj => absurd hj (by omega), by omega⟩
  · obtain ⟨l, h1, h2, h3⟩ := words_of_ints hl hz hc hw
    exact ⟨l, h1, h2, h3, by unfold maxLen at hm; omega⟩
set_option maxHeartbeats 1000000 in
theorem walk_far (p c : Int) (ao : Option Addr) (n cap : Nat) (s : ByteArray) (w : World) (hm : n ≤ 9223372036854775807) (hs : s.size ≤ 9223372036854775807) (h : 60 < n ∨ 500 < s.size) :
    Calls Try.prog 5 #[.int .i64 p, .slice ao n cap, .int .i64 c, .string s] w fun e w' => e = .returned (.bool true) ∧ Below w.heap.size w w' := by
  by_cases h1 : 60 < n
  · clear h
    go_enter Try.func5, Try.ntmps5
    go_wp2_with fail
    refine (awake10_any _).mono ?_
    rintro e x1 ⟨rfl, b1⟩
    go_wp2
    go_ret
    exact ⟨rfl, b1⟩
  · have h2 : 500 < s.size := by omega
    clear h
    go_enter Try.func5, Try.ntmps5
    go_wp2_with fail
    refine (awake10_any _).mono ?_
    rintro e x1 ⟨rfl, b1⟩
    go_wp2
    go_ret
    exact ⟨rfl, b1⟩
set_option maxHeartbeats 1000000 in
theorem walk_bad (p c : Int) (ao : Option Addr) (n cap : Nat) (s : ByteArray) (w : World) (hn : n ≤ 60) (hs : s.size ≤ 500) (h : p < 0 ∨ 64 ≤ p ∨ n < 1 ∨ 512 < n) :
    Calls Try.prog 5 #[.int .i64 p, .slice ao n cap, .int .i64 c, .string s] w fun e w' => e = .returned (.bool true) ∧ Below w.heap.size w w' := by
  have HP := hide (fun w => fpack_no p ao n cap w (by omega) h)
  clear h
  go_enter Try.func5, Try.ntmps5
  go_wp2_with fail
  refine (awake10_any _).mono ?_
  rintro e x1 ⟨rfl, b1⟩
  go_wp2_with fail
  refine (HP.out _).mono ?_
  rintro e x2 ⟨rfl, rfl⟩
  go_wp2
  go_ret
  exact ⟨rfl, b1⟩
theorem cut_mod (c : Int) (C M A : Nat) (hC : IntKind.u64.wrap c = (C : Int)) (hA : C % M = A) : (IntKind.u64.wrap c).tmod (M : Int) = (A : Int) := by rw [hC, ← hA]; rfl
set_option maxHeartbeats 1000000 in
theorem walk_good (p c : Int) (ao : Option Addr) (n cap : Nat) (s F : ByteArray) (C M A : Nat) (E4 : Int) (w : World) (hn : n ≤ 60) (hs : s.size ≤ 500) (hF : F.size = M) (hM : M ≤ 1000) (hM0 : 0 < M) (hC : IntKind.u64.wrap c = (C : Int)) (hA : C % M = A)
    (HP : ∀ w', Below w.heap.size w w' → Calls Try.prog 7 #[.int .i64 p, .slice ao n cap] w' fun e w'' => e = .returned (.tuple #[.string F, .int .i64 0]) ∧ Below w'.heap.size w' w'')
    (HU : ∀ w', Calls Try.prog 9 #[.string (F.extract 0 A)] w' fun e w'' => e = .returned (.tuple #[.int .i64 0, .slice none 0 0, .int .i64 4]) ∧ Below w'.heap.size w' w'')
    (HV : ∀ w', Calls Try.prog 9 #[.string (F ++ s)] w' fun e w'' => (∃ u v, e = .returned (.tuple #[u, v, .int .i64 E4])) ∧ Below w'.heap.size w' w'')
    (hE : (E4 == 0) = s.toList.isEmpty) :
    Calls Try.prog 5 #[.int .i64 p, .slice ao n cap, .int .i64 c, .string s] w fun e w' => e = .returned (.bool true) ∧ Below w.heap.size w w' := by
  have hAM : A < M := by rw [← hA]; exact Nat.mod_lt _ hM0
  have HAM := cut_mod c C M A hC hA
  replace HP := hide HP
  replace HU := hide HU
  replace HV := hide HV
  clear hA hC
  subst hF
  go_enter Try.func5, Try.ntmps5
  go_wp2_with fail
  refine (awake10_any _).mono ?_
  rintro e x1 ⟨rfl, b1⟩
  go_wp2_with fail
  refine (HP.out _ b1).mono ?_
  rintro e x2 ⟨rfl, b2⟩
  replace b2 := b1.trans (b2.mono b1.size)
  go_wp2_with fail
  refine (HU.out _).mono ?_
  rintro e x3 ⟨rfl, b3⟩
  replace b3 := b2.trans (b3.mono b2.size)
  go_wp2_with fail
  refine (HV.out _).mono ?_
  rintro e x4 ⟨⟨u', v', rfl⟩, b4⟩
  replace b4 := b3.trans (b4.mono b3.size)
  go_wp2
  go_ret
  exact ⟨rfl, b4⟩
theorem walk (a0 : Int) (a1 : Option Addr) (len1 cap1 : Nat) (z1 : List Int) (a2 : Int) (a3 : ByteArray) (w : World) (w0 : (Lit.int .i64 a0).wf = true) (w1 : IsRow .u64 w a1 len1 cap1 z1) (w2 : (Lit.int .i64 a2).wf = true) (w3 : a3.size ≤ maxLen) :
    Calls Try.prog 5 #[.int .i64 a0, .slice a1 len1 cap1, .int .i64 a2, .string a3] w fun e w' => e = .returned (.bool true) ∧ Below w.heap.size w w' := by
  obtain ⟨l, hl, hs, hv, hm⟩ := sl_of_row w1
  unfold maxLen at w3
  by_cases hf : 60 < len1 ∨ 500 < a3.size
  · exact walk_far a0 a2 a1 len1 cap1 a3 w hm w3 hf
  by_cases hb : a0 < 0 ∨ 64 ≤ a0 ∨ len1 < 1 ∨ 512 < len1
  · exact walk_bad a0 a2 a1 len1 cap1 a3 w (by omega) (by omega) hb
  obtain ⟨p, rfl⟩ : ∃ p : Nat, a0 = (p : Int) := ⟨a0.toNat, by omega⟩
  obtain ⟨C, hC⟩ : ∃ C : Nat, IntKind.u64.wrap a2 = (C : Int) := ⟨(IntKind.u64.wrap a2).toNat, by rw [IntKind.wrap_u64]; omega⟩
  have hok := frT_ok p l (by omega) (by omega) (by omega) (by rw [hl]; exact hv)
  have hlen := frT_length p l
  have hM0 : 0 < 8 * l.length + 24 := by omega
  refine walk_good p a2 a1 len1 cap1 a3 (strL (frT p l)) C (8 * l.length + 24) _ (if a3.size = 0 then 0 else 4) w (by omega) (by omega) (by rw [strL_size, hlen]) (by omega) hM0 hC rfl
    (fun w' b => fpack_yes p a1 len1 cap1 l w' hl (by omega) (by omega) (by omega) (hs.below b)) (fun w' => ?_) (fun w' => ?_) ?_
  · rw [extract_str]
    have := Nat.mod_lt C hM0
    exact unpack_no _ w' (by rw [List.length_take]; omega) (frOK_take hok _ (by omega))
  · by_cases he : a3.size = 0
    · rw [if_pos he]
      have e0 : strL (frT p l) ++ a3 = strL (frT p l) := by
        have : a3.data.toList = [] := List.eq_nil_of_length_eq_zero (by simpa using he)
        rw [← strL_data a3, this]
        exact (str_append _ []).trans (by rw [List.append_nil]; rfl)
      rw [e0]
      refine (unpack_yes _ l.length _ w' hok hlen rfl).mono ?_
      rintro e x ⟨ao, rfl, _, b⟩
      exact ⟨⟨_, _, rfl⟩, b⟩
    · rw [if_neg he]
      have e0 : strL (frT p l) ++ a3 = strL (frT p l ++ a3.data.toList) := str_append _ a3.data.toList
      have hz : a3.data.toList.length = a3.size := by simp
      rw [e0]
      refine (unpack_no _ w' (by rw [List.length_append]; omega) (frOK_append hok _ (fun h => he (by rw [← hz, h]; rfl)))).mono ?_
      rintro e x ⟨rfl, b⟩
      exact ⟨⟨_, _, rfl⟩, b⟩
  · by_cases he : a3.size = 0
    · rw [if_pos he, str_none he]; rfl
    · rw [if_neg he, str_some he]; rfl
/-! ### THE ROW's STEP: WRITTEN OUT: LEAVE IT -/
set_option maxRecDepth 100000 in
theorem lifted (os : Os) (started : os.Started) (H : Type) (enc : TypeId × Value → H) :
    ReturnsInHanded {} Try.checked os 5 .any (Rows.frameCutsSpec.pre6 enc Try.prog Try.f5 Rows.frameCutsRow.domain false) (Rows.frameCutsSpec.post enc Try.prog Try.f5 false true false false) := by
  refine returnsInHanded_of_change (C := Try.checked) own started (by kernel_rfl) Try.func5
    (ChangeSpec.witness6 (enc := enc) (C := Try.checked) false ⟨#[], #[.int .i64 0, .slice none 0 0, .int .i64 0, .string ByteArray.empty], []⟩ 8 (by kernel_rfl) (by kernel_rfl) (by kernel_rfl) (by kernel_rfl)) ?_
  intro W base args ds gs before hval0 hW hcnd _
  have hval : ∀ (j : Nat) t v, Try.f5.params[j]? = some t → args[j]? = some v → Value.okWide Try.prog W .any base t v := hval0
  have hW' := hW
  obtain ⟨p, q, hA0, hV, rfl, hfz, hnd⟩ := hW
  have hA : DataW.TrodAll enc Try.prog W 0 (fun _ => true) true Try.f5.params.toList args.toList ds p := hA0
  rw [Try.params5] at hA hval
  obtain ⟨v0, vs0, d0, ds0, p0, q0, hargs, rfl, rfl, h0, r0⟩ := trodAll_cons hA
  obtain ⟨v1, vs1, d1, ds1, p1, q1, rfl, rfl, rfl, h1, r1⟩ := trodAll_cons r0
  obtain ⟨v2, vs2, d2, ds2, p2, q2, rfl, rfl, rfl, h2, r2⟩ := trodAll_cons r1
  obtain ⟨v3, vs3, d3, ds3, p3, q3, rfl, rfl, rfl, h3, r3⟩ := trodAll_cons r2
  obtain ⟨rfl, rfl, rfl⟩ := trodAll_nil r3
  obtain rfl : args = #[v0, v1, v2, v3] := by cases args; simp_all
  obtain ⟨rfl, rfl⟩ := trodVars_none hV
  obtain ⟨a0, rfl, rfl, rfl, w0⟩ := open_int Try.underlying3 (hval 0 3 v0 rfl rfl) h0
  obtain ⟨a1, len1, cap1, rfl⟩ := okWide_slice Try.underlying22 (hval 1 22 v1 rfl rfl)
  have k1 := h1
  have lt1 : ∀ x ∈ p1, x.block < W.heap.size := by obtain ⟨m, hm⟩ := k1; exact DataW.trod_lt m _ _ _ hm
  obtain ⟨z1, w1⟩ : ∃ zs, IsRow .u64 W a1 len1 cap1 zs := by
    obtain ⟨fuel, hf⟩ := h1
    rcases open_ints Try.underlying22 Try.underlying29 (by kernel_rfl) hf with ⟨hcs, _⟩ | ⟨x, l, c, zs, hcs, _, hl, hm, hz, _, hcell, hwz⟩
    · simp [Value.cells] at hcs
      obtain ⟨rfl, rfl, rfl⟩ := hcs
      exact ⟨[], .inl ⟨rfl, rfl, rfl, rfl⟩⟩
    · simp [Value.cells] at hcs
      obtain ⟨rfl, rfl, rfl⟩ := hcs
      exact ⟨zs, .inr ⟨_, rfl, hl, hm, by simpa using hz, hcell, hwz⟩⟩
  obtain ⟨a2, rfl, rfl, rfl, w2⟩ := open_int Try.underlying3 (hval 2 3 v2 rfl rfl) h2
  obtain ⟨a3, rfl, rfl, rfl, w3⟩ := open_string Try.underlying9 (hval 3 9 v3 rfl rfl) h3
  clear hA0 hval0
  refine (walk a0 a1 len1 cap1 z1 a2 a3 W w0 w1 w2 w3).mono fun e W' ⟨he, bel⟩ => ?_
  subst he
  exact ⟨_, rfl, _, _, _, [], _, [], hW', trodAll_mk1 (shut_bool Try.underlying4 _), (trodAll_cons_mk (shut_int Try.underlying3 w0) (trodAll_cons_mk (Below.trod laidOut (by kernel_rfl) (of_decide_eq_true (by kernel_rfl)) k1 bel lt1) (trodAll_cons_mk (shut_int Try.underlying3 w2) (trodAll_cons_mk (shut_string Try.underlying9 w3) trodAll_mk0)))), rfl, bel.frame _, fun h => by cases h⟩

theorem over : Rows.frameCutsRow.holds Try.pinned (OpenSpec.ofChange Rows.frameCutsSpec) :=
  OpenClaim.holds_of_wide 5 Try.f5 rfl rfl rfl rfl rfl rfl rfl ⟨rfl, rfl, rfl, rfl, rfl⟩ rfl rfl rfl rfl rfl (by kernel_rfl) Try.func5 (by kernel_rfl)
    (of_decide_eq_true (by kernel_rfl)) (by unfold Func.isWrapper; first | (rw [if_pos (by decide +kernel)]; kernel_rfl) | (rw [if_neg (by decide +kernel)]; exact ⟨rfl, rfl⟩))
    (fun os started H enc _ => lifted os started H enc)

/-- ████ THE STATEMENT ████ -/
theorem proved : Rows.FrameCutsSaid := over
#print axioms proved

end Go.Proofs.Ytookklmcgidcfaa.frameCuts
