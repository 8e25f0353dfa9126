/- Whatever the input, haycroftlaw10.FramePacks returns true and changes no argument. Conditions: none. -/
import Derived.Test.YtookklmcgidcfaaFe
import Derived.Test.YtookklmcgidcfaaWh
import Derived.Test.YtookklmcgidcfaaRows
import Derived.WalkKit
import Derived.ProofKit
import Derived.OpenShut
import Derived.ShutString
import Derived.ChangeOld
import Derived.Below
namespace Go.Proofs.Ytookklmcgidcfaa.framePacks
open Go.ChangeShapes Go.WideShapes Go.ChangeAt Go.RowKit
open Go.ChangeMaps (open_string shut_string)
set_option linter.unusedVariables false

theorem own : ownKnob Try.prog.godebug = none := by kernel_rfl
theorem laidOut : laidOutB Try.prog = true := by kernel_rfl

/-- WHAT THE WALK IS TOLD OF A SLICE OF INTEGERS THAT CAME IN: it is nil; or it leads to a row of 'cap' cells, the numbers 'zs' (the first 'len' are its elements, the rest its spare room), each fitting its kind. -/
def IsRow (k : IntKind) (w : World) (a : Option Addr) (len cap : Nat) (zs : List Int) : Prop :=
  (a = none ∧ len = 0 ∧ cap = 0 ∧ zs = []) ∨
  ∃ x, a = some x ∧ len ≤ cap ∧ cap ≤ maxLen ∧ zs.length = cap ∧ (∀ i, i < zs.length → w.cell? (x.add i) = some (.int k (zs.getD i 0))) ∧ ∀ n ∈ zs, (Lit.int k n).wf = true


theorem sl_of_row {w : World} {a : Option Addr} {len cap : Nat} {zs : List Int} (h : IsRow .u64 w a len cap zs) : ∃ l : List Nat, l.length = len ∧ Sl .u64 w a len (fun j => ((l[j]?.getD 0 : Nat) : Int)) ∧ (∀ j, j < len → l[j]?.getD 0 < 18446744073709551616) ∧ len ≤ 9223372036854775807 := by
  rcases h with ⟨rfl, rfl, rfl, rfl⟩ | ⟨x, rfl, hl, hm, hz, hc, hw⟩
  · exact ⟨[], rfl, fun j hj => absurd hj (by omega), fun j hj => absurd hj (by omega), by omega⟩
  · obtain ⟨l, h1, h2, h3⟩ := words_of_ints hl hz hc hw
    exact ⟨l, h1, h2, h3, by unfold maxLen at hm; omega⟩
theorem str_refl (s : ByteArray) : (s.toList == s.toList) = true := by simp
set_option maxHeartbeats 1000000 in
theorem walk_far (p c : Int) (ao : Option Addr) (n cap : Nat) (w : World) (hm : n ≤ 9223372036854775807) (h : 600 < n) :
    Calls Try.prog 3 #[.int .i64 p, .slice ao n cap, .int .i64 c] w fun e w' => e = .returned (.bool true) ∧ Below w.heap.size w w' := by
  go_enter Try.func3, Try.ntmps3
  go_wp2_with fail
  refine (awake10_any _).mono ?_
  rintro e x1 ⟨rfl, b1⟩
  go_wp2
  go_ret
  exact ⟨rfl, b1⟩
set_option maxHeartbeats 1000000 in
theorem walk_bad (p c : Int) (ao : Option Addr) (n cap : Nat) (w : World) (hn : n ≤ 600) (h : p < 0 ∨ 64 ≤ p ∨ n < 1 ∨ 512 < n) :
    Calls Try.prog 3 #[.int .i64 p, .slice ao n cap, .int .i64 c] w fun e w' => e = .returned (.bool true) ∧ Below w.heap.size w w' := by
  have HP := hide (fun w => fpack_no p ao n cap w (by omega) h)
  have HR := hide (fun w => rfpack_no p ao n cap w (by omega) h)
  clear h
  go_enter Try.func3, Try.ntmps3
  go_wp2_with fail
  refine (awake10_any _).mono ?_
  rintro e x1 ⟨rfl, b1⟩
  go_wp2_with fail
  refine (HP.out _).mono ?_
  rintro e x2 ⟨rfl, rfl⟩
  go_wp2_with fail
  refine (HR.out _).mono ?_
  rintro e x2 ⟨rfl, rfl⟩
  go_wp2
  go_ret
  exact ⟨rfl, b1⟩
set_option maxRecDepth 10000 in
set_option maxHeartbeats 2000000 in
theorem walk_good (p : Nat) (c : Int) (ao : Option Addr) (n cap : Nat) (v : Nat → Nat) (F : ByteArray) (w : World) (h1 : 1 ≤ n) (hn : n ≤ 512) (hF : F.size = 8 * n + 24) (hs : Sl .u64 w ao n (fun j => (v j : Int)))
    (HP : ∀ w', Below w.heap.size w w' → Calls Try.prog 7 #[.int .i64 (p : Int), .slice ao n cap] w' fun e w'' => e = .returned (.tuple #[.string F, .int .i64 0]) ∧ Below w'.heap.size w' w'')
    (HR : ∀ w', Below w.heap.size w w' → Calls Try.prog 8 #[.int .i64 (p : Int), .slice ao n cap] w' fun e w'' => e = .returned (.tuple #[.string F, .int .i64 0]) ∧ Below w'.heap.size w' w'')
    (HU : ∀ w', Calls Try.prog 9 #[.string F] w' fun e w'' => ∃ a2, e = .returned (.tuple #[.int .i64 (p : Int), .slice a2 n n, .int .i64 0]) ∧ Sl .u64 w'' a2 n (fun j => (v j : Int)) ∧ Below w'.heap.size w' w'')
    (HA : (c < 0 ∨ (n : Int) ≤ c) → ∀ w', Calls Try.prog 10 #[.string F, .int .i64 c] w' fun e w'' => e = .returned (.tuple #[.int .u64 0, .int .i64 1]) ∧ Below w'.heap.size w' w'')
    (HB : ∀ a : Nat, a < n → ∀ w', Calls Try.prog 10 #[.string F, .int .i64 (a : Int)] w' fun e w'' => e = .returned (.tuple #[.int .u64 (v a : Int), .int .i64 0]) ∧ Below w'.heap.size w' w'') :
    Calls Try.prog 3 #[.int .i64 p, .slice ao n cap, .int .i64 c] w fun e w' => e = .returned (.bool true) ∧ Below w.heap.size w w' := by
  replace HP := hide HP
  replace HR := hide HR
  replace HU := hide HU
  replace HA := hide HA
  replace HB := hide HB
  have HS := hide hs
  clear hs
  have hFF := str_refl F
  have hpp : ((p : Int) == (p : Int)) = true := by simp
  by_cases hc : c < 0 ∨ (n : Int) ≤ c
  · replace HA := hide (HA.out hc)
    clear HB
    by_cases hc0 : c < 0
    · clear hc
      go_enter Try.func3, Try.ntmps3
      go_wp2_with fail
      refine (awake10_any _).mono ?_
      rintro e x1 ⟨rfl, b1⟩
      go_wp2_with fail
      refine (HP.out _ b1).mono ?_
      rintro e x2 ⟨rfl, b2⟩
      replace b2 := b1.trans (b2.mono b1.size)
      go_wp2_with fail
      refine (HR.out _ b2).mono ?_
      rintro e x3 ⟨rfl, b3⟩
      replace b3 := b2.trans (b3.mono b2.size)
      clear b1 b2
      go_wp2_with fail
      refine (HU.out _).mono ?_
      rintro e x4 ⟨a2, rfl, s4, b4⟩
      replace b4 := b3.trans (b4.mono b3.size)
      clear b3
      go_wp2_with fail
      refine (HA.out _).mono ?_
      rintro e x5 ⟨rfl, b5⟩
      have s5 := s4.below b5
      replace b5 := b4.trans (b5.mono b4.size)
      have s0 := HS.out.below b5
      clear b4 s4
      go_wp2_with fail
      refine (same_any a2 _ n n n cap v v true _ (by omega) (by omega) s5 s0 (by simp)).mono ?_
      rintro e x6 ⟨rfl, m, rfl⟩
      replace b5 := below_drewN b5 m
      go_wp2_with fail
      refine (fbytes_yes (n : Int) _ (by omega) (by omega)).mono ?_
      rintro e x7 ⟨rfl, rfl⟩
      go_wp2
      go_ret
      exact ⟨ret_bool (by simp; omega), b5⟩
    · have hc1 : (n : Int) ≤ c := by omega
      clear hc
      go_enter Try.func3, Try.ntmps3
      go_wp2_with fail
      refine (awake10_any _).mono ?_
      rintro e x1 ⟨rfl, b1⟩
      go_wp2_with fail
      refine (HP.out _ b1).mono ?_
      rintro e x2 ⟨rfl, b2⟩
      replace b2 := b1.trans (b2.mono b1.size)
      go_wp2_with fail
      refine (HR.out _ b2).mono ?_
      rintro e x3 ⟨rfl, b3⟩
      replace b3 := b2.trans (b3.mono b2.size)
      clear b1 b2
      go_wp2_with fail
      refine (HU.out _).mono ?_
      rintro e x4 ⟨a2, rfl, s4, b4⟩
      replace b4 := b3.trans (b4.mono b3.size)
      clear b3
      go_wp2_with fail
      refine (HA.out _).mono ?_
      rintro e x5 ⟨rfl, b5⟩
      have s5 := s4.below b5
      replace b5 := b4.trans (b5.mono b4.size)
      have s0 := HS.out.below b5
      clear b4 s4
      go_wp2_with fail
      refine (same_any a2 _ n n n cap v v true _ (by omega) (by omega) s5 s0 (by simp)).mono ?_
      rintro e x6 ⟨rfl, m, rfl⟩
      replace b5 := below_drewN b5 m
      go_wp2_with fail
      refine (fbytes_yes (n : Int) _ (by omega) (by omega)).mono ?_
      rintro e x7 ⟨rfl, rfl⟩
      go_wp2
      go_ret
      exact ⟨ret_bool (by simp; omega), b5⟩
  · obtain ⟨a, rfl⟩ : ∃ a : Nat, c = (a : Int) := ⟨c.toNat, by omega⟩
    have ha : a < n := by omega
    clear hc HA
    have hvv : ((v a : Int) != (v a : Int)) = false := by simp
    go_enter Try.func3, Try.ntmps3
    go_wp2_with fail
    refine (awake10_any _).mono ?_
    rintro e x1 ⟨rfl, b1⟩
    go_wp2_with fail
    refine (HP.out _ b1).mono ?_
    rintro e x2 ⟨rfl, b2⟩
    replace b2 := b1.trans (b2.mono b1.size)
    go_wp2_with fail
    refine (HR.out _ b2).mono ?_
    rintro e x3 ⟨rfl, b3⟩
    replace b3 := b2.trans (b3.mono b2.size)
    clear b1 b2
    go_wp2_with fail
    refine (HU.out _).mono ?_
    rintro e x4 ⟨a2, rfl, s4, b4⟩
    replace b4 := b3.trans (b4.mono b3.size)
    clear b3
    go_wp2_with fail
    refine (HB.out a ha _).mono ?_
    rintro e x5 ⟨rfl, b5⟩
    have s5 := s4.below b5
    replace b5 := b4.trans (b5.mono b4.size)
    have s0 := HS.out.below b5
    clear b4 s4
    obtain ⟨bb, off, hao, hce⟩ := s0 a ha
    subst hao
    replace hce : x5.cell? ⟨bb, off + a, none⟩ = some (.int .u64 (v a : Int)) := hce
    go_wp2_with fail
    refine (same_any a2 _ n n n cap v v true _ (by omega) (by omega) s5 s0 (by simp)).mono ?_
    rintro e x6 ⟨rfl, m, rfl⟩
    replace b5 := below_drewN b5 m
    go_wp2_with fail
    refine (fbytes_yes (n : Int) _ (by omega) (by omega)).mono ?_
    rintro e x7 ⟨rfl, rfl⟩
    go_wp2
    go_ret
    exact ⟨ret_bool (by simp; omega), b5⟩
theorem walk (a0 : Int) (a1 : Option Addr) (len1 cap1 : Nat) (z1 : List Int) (a2 : Int) (w : World) (w0 : (Lit.int .i64 a0).wf = true) (w1 : IsRow .u64 w a1 len1 cap1 z1) (w2 : (Lit.int .i64 a2).wf = true) :
    Calls Try.prog 3 #[.int .i64 a0, .slice a1 len1 cap1, .int .i64 a2] w fun e w' => e = .returned (.bool true) ∧ Below w.heap.size w w' := by
  obtain ⟨l, hl, hs, hv, hm⟩ := sl_of_row w1
  by_cases hf : 600 < len1
  · exact walk_far a0 a2 a1 len1 cap1 w hm hf
  by_cases hb : a0 < 0 ∨ 64 ≤ a0 ∨ len1 < 1 ∨ 512 < len1
  · exact walk_bad a0 a2 a1 len1 cap1 w (by omega) hb
  obtain ⟨p, rfl⟩ : ∃ p : Nat, a0 = (p : Int) := ⟨a0.toNat, by omega⟩
  have hok := frT_ok p l (by omega) (by omega) (by omega) (by rw [hl]; exact hv)
  have hlen := frT_length p l
  rw [hl] at hlen
  have hw := frT_word p l (by omega) (by omega) (by rw [hl]; exact hv)
  have h0 : wordAt (frT p l) 0 = p := hw 0 (by omega)
  have h2 : ∀ j, j < len1 → wordAt (frT p l) (j + 2) = l[j]?.getD 0 := fun j hj => hw (j + 2) (by omega)
  refine walk_good p a2 a1 len1 cap1 (fun j => l[j]?.getD 0) (strL (frT p l)) w (by omega) (by omega) (by rw [strL_size, hlen]) hs
    (fun w' b => fpack_yes p a1 len1 cap1 l w' hl (by omega) (by omega) (by omega) (hs.below b)) (fun w' b => rfpack_yes p a1 len1 cap1 l w' hl (by omega) (by omega) (by omega) (hs.below b) hv)
    (fun w' => ?_) (fun hc w' => word_no _ len1 a2 w' hok hlen hc) (fun a ha w' => ?_)
  · refine (unpack_yes _ len1 p w' hok hlen h0).mono ?_
    rintro e x ⟨ao, rfl, s, b⟩
    refine ⟨ao, rfl, fun j hj => ?_, b⟩
    obtain ⟨bb, off, h3, h4⟩ := s j hj
    exact ⟨bb, off, h3, by rw [h4]; simp only [h2 j hj]⟩
  · have := word_yes _ len1 a w' hok hlen ha
    rw [h2 a ha] at this
    exact this
/-! ### THE ROW's STEP: WRITTEN OUT: LEAVE IT -/
set_option maxRecDepth 100000 in
theorem lifted (os : Os) (started : os.Started) (H : Type) (enc : TypeId × Value → H) :
    ReturnsInHanded {} Try.checked os 3 .any (Rows.framePacksSpec.pre6 enc Try.prog Try.f3 Rows.framePacksRow.domain false) (Rows.framePacksSpec.post enc Try.prog Try.f3 false true false false) := by
  refine returnsInHanded_of_change (C := Try.checked) own started (by kernel_rfl) Try.func3
    (ChangeSpec.witness6 (enc := enc) (C := Try.checked) false ⟨#[], #[.int .i64 0, .slice none 0 0, .int .i64 0], []⟩ 8 (by kernel_rfl) (by kernel_rfl) (by kernel_rfl) (by kernel_rfl)) ?_
  intro W base args ds gs before hval0 hW hcnd _
  have hval : ∀ (j : Nat) t v, Try.f3.params[j]? = some t → args[j]? = some v → Value.okWide Try.prog W .any base t v := hval0
  have hW' := hW
  obtain ⟨p, q, hA0, hV, rfl, hfz, hnd⟩ := hW
  have hA : DataW.TrodAll enc Try.prog W 0 (fun _ => true) true Try.f3.params.toList args.toList ds p := hA0
  rw [Try.params3] at hA hval
  obtain ⟨v0, vs0, d0, ds0, p0, q0, hargs, rfl, rfl, h0, r0⟩ := trodAll_cons hA
  obtain ⟨v1, vs1, d1, ds1, p1, q1, rfl, rfl, rfl, h1, r1⟩ := trodAll_cons r0
  obtain ⟨v2, vs2, d2, ds2, p2, q2, rfl, rfl, rfl, h2, r2⟩ := trodAll_cons r1
  obtain ⟨rfl, rfl, rfl⟩ := trodAll_nil r2
  obtain rfl : args = #[v0, v1, v2] := by cases args; simp_all
  obtain ⟨rfl, rfl⟩ := trodVars_none hV
  obtain ⟨a0, rfl, rfl, rfl, w0⟩ := open_int Try.underlying3 (hval 0 3 v0 rfl rfl) h0
  obtain ⟨a1, len1, cap1, rfl⟩ := okWide_slice Try.underlying22 (hval 1 22 v1 rfl rfl)
  have k1 := h1
  have lt1 : ∀ x ∈ p1, x.block < W.heap.size := by obtain ⟨m, hm⟩ := k1; exact DataW.trod_lt m _ _ _ hm
  obtain ⟨z1, w1⟩ : ∃ zs, IsRow .u64 W a1 len1 cap1 zs := by
    obtain ⟨fuel, hf⟩ := h1
    rcases open_ints Try.underlying22 Try.underlying29 (by kernel_rfl) hf with ⟨hcs, _⟩ | ⟨x, l, c, zs, hcs, _, hl, hm, hz, _, hcell, hwz⟩
    · simp [Value.cells] at hcs
      obtain ⟨rfl, rfl, rfl⟩ := hcs
      exact ⟨[], .inl ⟨rfl, rfl, rfl, rfl⟩⟩
    · simp [Value.cells] at hcs
      obtain ⟨rfl, rfl, rfl⟩ := hcs
      exact ⟨zs, .inr ⟨_, rfl, hl, hm, by simpa using hz, hcell, hwz⟩⟩
  obtain ⟨a2, rfl, rfl, rfl, w2⟩ := open_int Try.underlying3 (hval 2 3 v2 rfl rfl) h2
  clear hA0 hval0
  refine (walk a0 a1 len1 cap1 z1 a2 W w0 w1 w2).mono fun e W' ⟨he, bel⟩ => ?_
  subst he
  exact ⟨_, rfl, _, _, _, [], _, [], hW', trodAll_mk1 (shut_bool Try.underlying4 _), (trodAll_cons_mk (shut_int Try.underlying3 w0) (trodAll_cons_mk (Below.trod laidOut (by kernel_rfl) (of_decide_eq_true (by kernel_rfl)) k1 bel lt1) (trodAll_cons_mk (shut_int Try.underlying3 w2) trodAll_mk0))), rfl, bel.frame _, fun h => by cases h⟩

theorem over : Rows.framePacksRow.holds Try.pinned (OpenSpec.ofChange Rows.framePacksSpec) :=
  OpenClaim.holds_of_wide 3 Try.f3 rfl rfl rfl rfl rfl rfl rfl ⟨rfl, rfl, rfl, rfl, rfl⟩ rfl rfl rfl rfl rfl (by kernel_rfl) Try.func3 (by kernel_rfl)
    (of_decide_eq_true (by kernel_rfl)) (by unfold Func.isWrapper; first | (rw [if_pos (by decide +kernel)]; kernel_rfl) | (rw [if_neg (by decide +kernel)]; exact ⟨rfl, rfl⟩))
    (fun os started H enc _ => lifted os started H enc)

/-- ████ THE STATEMENT ████ -/
theorem proved : Rows.FramePacksSaid := over
#print axioms proved

end Go.Proofs.Ytookklmcgidcfaa.framePacks
