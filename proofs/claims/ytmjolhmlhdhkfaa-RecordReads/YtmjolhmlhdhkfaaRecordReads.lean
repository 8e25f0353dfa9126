/- Whatever the input, haycroftlaw09.RecordReads returns true and changes no argument. Conditions: none. -/
import Derived.Test.YtmjolhmlhdhkfaaRl
import Derived.Test.YtmjolhmlhdhkfaaRows
import Derived.WalkKit
import Derived.ProofKit
import Derived.OpenShut
import Derived.ShutString
import Derived.ChangeOld
import Derived.Below
namespace Go.Proofs.Ytmjolhmlhdhkfaa.recordReads
open Go.ChangeShapes Go.WideShapes Go.ChangeAt Go.RowKit
open Go.ChangeMaps (open_string shut_string)
set_option linter.unusedVariables false

theorem own : ownKnob Try.prog.godebug = none := by kernel_rfl
theorem laidOut : laidOutB Try.prog = true := by kernel_rfl

/-- WHAT THE WALK IS TOLD OF A SLICE OF INTEGERS THAT CAME IN: it is nil; or it leads to a row of 'cap' cells, the numbers 'zs' (the first 'len' are its elements, the rest its spare room), each fitting its kind. -/
def IsRow (k : IntKind) (w : World) (a : Option Addr) (len cap : Nat) (zs : List Int) : Prop :=
  (a = none ∧ len = 0 ∧ cap = 0 ∧ zs = []) ∨
  ∃ x, a = some x ∧ len ≤ cap ∧ cap ≤ maxLen ∧ zs.length = cap ∧ (∀ i, i < zs.length → w.cell? (x.add i) = some (.int k (zs.getD i 0))) ∧ ∀ n ∈ zs, (Lit.int k n).wf = true


theorem wf_getD {k : IntKind} {zs : List Int} (h : ∀ n ∈ zs, (Lit.int k n).wf = true) (j : Nat) (hj : j < zs.length) : (Lit.int k (zs.getD j 0)).wf = true := by
  rw [List.getD_eq_getElem?_getD, List.getElem?_eq_getElem hj]; exact h _ (List.getElem_mem hj)
theorem sl_of_row {k : IntKind} {w : World} {a : Option Addr} {len cap : Nat} {zs : List Int} (h : IsRow k w a len cap zs) : Sl k w a len (fun j => zs.getD j 0) := by
  rcases h with ⟨rfl, rfl, rfl, rfl⟩ | ⟨x, rfl, hl, hm, hz, hc, hw⟩
  · intro j hj; omega
  · intro j hj
    obtain ⟨b, off, rfl, hc'⟩ := ints_at hc (by omega)
    exact ⟨b, off, rfl, by simpa using hc' j (by omega)⟩
theorem sl_of_rowU {w : World} {a : Option Addr} {len cap : Nat} {zs : List Int} (h : IsRow .u64 w a len cap zs) : Sl .u64 w a len (fun j => ((zs.getD j 0).toNat : Int)) ∧ ∀ j, j < len → (zs.getD j 0).toNat < 18446744073709551616 := by
  have h0 := sl_of_row h
  have hb : ∀ j, j < len → 0 ≤ zs.getD j 0 ∧ zs.getD j 0 < 18446744073709551616 := by
    intro j hj
    rcases h with ⟨rfl, rfl, rfl, rfl⟩ | ⟨x, rfl, hl, hm, hz, hc, hw⟩
    · omega
    · obtain ⟨n, h1, h2⟩ := nat_of_wf (wf_getD hw j (by omega))
      omega
  refine ⟨fun j hj => ?_, fun j hj => by have := hb j hj; omega⟩
  obtain ⟨b, off, h1, h2⟩ := h0 j hj
  exact ⟨b, off, h1, by rw [h2]; simp only [Int.toNat_of_nonneg (hb j hj).1]⟩
theorem both_head (b off n cap x : Nat) (h : 3 ≤ n) (hx : x < 18446744073709551616) : ∃ K V e : Int,
    (∀ w : World, w.cell? ⟨b, off + 2, none⟩ = some (.int .u64 (x : Int)) → Calls Try.prog 16 #[.slice (some ⟨b, off, none⟩) n cap] w fun e' w' => e' = .returned (.tuple #[.int .i64 K, .int .i64 V, .int .i64 e]) ∧ Below w.heap.size w w') ∧
    (∀ w : World, Calls Try.prog 17 #[.int .u64 (x : Int)] w fun e' w' => e' = .returned (.tuple #[.int .i64 K, .int .i64 V, .int .i64 e]) ∧ w' = w) := by
  cases ht : toldB x with
  | false => exact ⟨0, 0, 4, fun w hc => head_no b off n cap x w h hc hx ht, fun w => rtold_no x w hx ht⟩
  | true => exact ⟨_, _, _, fun w hc => head_yes b off n cap x w h hc hx ht, fun w => rtold_yes x w hx ht⟩
theorem str_refl (s : ByteArray) : (s.toList == s.toList) = true := by simp
set_option maxHeartbeats 1000000 in
theorem walk_far (ao : Option Addr) (n cap : Nat) (w : World) (hm : n ≤ 9223372036854775807) (h : 100 < n) :
    Calls Try.prog 4 #[.slice ao n cap] w fun e w' => e = .returned (.bool true) ∧ Below w.heap.size w w' := by
  go_enter Try.func4, Try.ntmps4
  go_wp2_with fail
  refine (awake_any _).mono ?_
  rintro e x1 ⟨rfl, b1⟩
  go_wp2
  go_ret
  exact ⟨rfl, b1⟩
set_option maxRecDepth 10000 in
set_option maxHeartbeats 2000000 in
theorem walk_few (ao : Option Addr) (n cap : Nat) (v : Nat → Nat) (w : World) (h3 : n < 3) (hcap : n ≤ cap) (hcm : cap ≤ 9223372036854775807) (hs : Sl .u64 w ao n (fun j => (v j : Int))) (hv : ∀ j, j < n → v j < 18446744073709551616) :
    Calls Try.prog 4 #[.slice ao n cap] w fun e w' => e = .returned (.bool true) ∧ Below w.heap.size w w' := by
  obtain ⟨p, t, i, s1, s2, m, e, O1, O2, hm, he⟩ := both_of ao n cap v w hs (by omega) hcap hcm hv
  replace O1 := hide O1
  replace O2 := hide O2
  have HS := hide hs
  have e1 := str_refl s1
  have e2 := str_refl s2
  have em : ((m : Int) != (m : Int)) = false := by simp
  have ee : ((e : Int) != (e : Int)) = false := by simp
  clear hs hv
  simp only [recE, recV] at O1 O2
  go_enter Try.func4, Try.ntmps4
  go_wp2_with fail
  refine (awake_any _).mono ?_
  rintro e x1 ⟨rfl, hb⟩
  go_wp2_with fail
  refine (O1.out _ (HS.out.below hb)).mono ?_
  rintro e x2 ⟨rfl, b2⟩
  replace hb := hb.trans (b2.mono hb.size)
  clear b2
  have ba : Below x2.heap.size x2 (x2.alloc (.cells #[.int .u64 (p : Int), .bool t, .bool i, .string s1, .string s2] 26)) := (Below.refl _ _).alloc (Nat.le_refl _) _
  have BA := hide (Box5.made x2 (.int .u64 (p : Int)) (.bool t) (.bool i) (.string s1) (.string s2) 26)
  replace hb := hb.trans (ba.mono hb.size)
  clear ba
  go_wp2_with fail
  refine (O2.out _ (HS.out.below hb)).mono ?_
  rintro e x3 ⟨rfl, b3⟩
  replace hb := hb.trans (b3.mono hb.size)
  replace BA := hide (BA.out.below b3)
  clear b3
  generalize x2.heap.size = r2 at *
  have ba : Below x3.heap.size x3 (x3.alloc (.cells #[.int .u64 (p : Int), .bool t, .bool i, .string s1, .string s2] 26)) := (Below.refl _ _).alloc (Nat.le_refl _) _
  replace BA := hide (BA.out.below ba)
  replace hb := hb.trans (ba.mono hb.size)
  clear ba
  obtain ⟨g0, g1, g2, g3, g4, _⟩ := BA.out
  go_wp2_with fail
  refine (head_short ao n cap _ h3).mono ?_
  rintro e x4 ⟨rfl, rfl⟩
  go_wp2
  go_ret
  exact ⟨ret_bool (by simp), hb⟩
set_option maxRecDepth 10000 in
set_option maxHeartbeats 2000000 in
theorem walk_near (b off n cap : Nat) (v : Nat → Nat) (w : World) (h3 : 3 ≤ n) (hn : n ≤ 100) (hcap : n ≤ cap) (hcm : cap ≤ 9223372036854775807) (hs : Sl .u64 w (some ⟨b, off, none⟩) n (fun j => (v j : Int))) (hv : ∀ j, j < n → v j < 18446744073709551616) :
    Calls Try.prog 4 #[.slice (some ⟨b, off, none⟩) n cap] w fun e w' => e = .returned (.bool true) ∧ Below w.heap.size w w' := by
  obtain ⟨p, t, i, s1, s2, m, e, O1, O2, hm, he⟩ := both_of _ n cap v w hs (by omega) hcap hcm hv
  replace O1 := hide O1
  replace O2 := hide O2
  have HS := hide hs
  have e1 := str_refl s1
  have e2 := str_refl s2
  have em : ((m : Int) != (m : Int)) = false := by simp
  have ee : ((e : Int) != (e : Int)) = false := by simp
  obtain ⟨_, _, e0, c2⟩ := hs 2 (by omega)
  cases e0
  simp only at c2
  obtain ⟨K, V, g, D1, D2⟩ := both_head b off n cap (v 2) h3 (hv 2 (by omega))
  replace D1 := hide D1
  replace D2 := hide D2
  have eK : (K == K) = true := by simp
  have eV : (V == V) = true := by simp
  have eg : (g == g) = true := by simp
  have h2b := World.block_lt_of_cell? w _ c2
  clear hs hv
  simp only [recE, recV] at O1 O2
  go_enter Try.func4, Try.ntmps4
  go_wp2_with fail
  refine (awake_any _).mono ?_
  rintro e x1 ⟨rfl, hb⟩
  go_wp2_with fail
  refine (O1.out _ (HS.out.below hb)).mono ?_
  rintro e x2 ⟨rfl, b2⟩
  replace hb := hb.trans (b2.mono hb.size)
  clear b2
  have ba : Below x2.heap.size x2 (x2.alloc (.cells #[.int .u64 (p : Int), .bool t, .bool i, .string s1, .string s2] 26)) := (Below.refl _ _).alloc (Nat.le_refl _) _
  have BA := hide (Box5.made x2 (.int .u64 (p : Int)) (.bool t) (.bool i) (.string s1) (.string s2) 26)
  replace hb := hb.trans (ba.mono hb.size)
  clear ba
  go_wp2_with fail
  refine (O2.out _ (HS.out.below hb)).mono ?_
  rintro e x3 ⟨rfl, b3⟩
  replace hb := hb.trans (b3.mono hb.size)
  replace BA := hide (BA.out.below b3)
  clear b3
  generalize x2.heap.size = r2 at *
  have ba : Below x3.heap.size x3 (x3.alloc (.cells #[.int .u64 (p : Int), .bool t, .bool i, .string s1, .string s2] 26)) := (Below.refl _ _).alloc (Nat.le_refl _) _
  replace BA := hide (BA.out.below ba)
  replace hb := hb.trans (ba.mono hb.size)
  clear ba
  obtain ⟨g0, g1, g2, g3, g4, _⟩ := BA.out
  go_wp2_with fail
  have c2' := (hb.cell (p := ⟨b, off + 2, none⟩) h2b).trans c2
  refine (D1.out _ c2').mono ?_
  rintro e x4 ⟨rfl, b4⟩
  replace hb := hb.trans (b4.mono hb.size)
  have c2'' := (hb.cell (p := ⟨b, off + 2, none⟩) h2b).trans c2
  clear b4 c2'
  go_wp2_with fail
  refine (D2.out _).mono ?_
  rintro e x5 ⟨rfl, rfl⟩
  go_wp2
  go_ret
  exact ⟨ret_bool (by simp), hb⟩
theorem walk (a0 : Option Addr) (len0 cap0 : Nat) (z0 : List Int) (w : World) (w0 : IsRow .u64 w a0 len0 cap0 z0) :
    Calls Try.prog 4 #[.slice a0 len0 cap0] w fun e w' => e = .returned (.bool true) ∧ Below w.heap.size w w' := by
  obtain ⟨s1, hv⟩ := sl_of_rowU w0
  have hm : len0 ≤ cap0 ∧ cap0 ≤ 9223372036854775807 := by
    rcases w0 with ⟨_, rfl, rfl, _⟩ | ⟨_, _, hl, hm, _⟩
    · omega
    · unfold maxLen at hm; omega
  by_cases hfar : 100 < len0
  · exact walk_far a0 len0 cap0 w (by omega) hfar
  · by_cases h3 : len0 < 3
    · exact walk_few a0 len0 cap0 _ w h3 hm.1 hm.2 s1 hv
    · obtain ⟨b, off, rfl, _⟩ := s1 0 (by omega)
      exact walk_near b off len0 cap0 _ w (by omega) (by omega) hm.1 hm.2 s1 hv
/-! ### THE ROW's STEP: WRITTEN OUT: LEAVE IT -/
set_option maxRecDepth 100000 in
theorem lifted (os : Os) (started : os.Started) (H : Type) (enc : TypeId × Value → H) :
    ReturnsInHanded {} Try.checked os 4 .any (Rows.recordReadsSpec.pre6 enc Try.prog Try.f4 Rows.recordReadsRow.domain false) (Rows.recordReadsSpec.post enc Try.prog Try.f4 false true false false) := by
  refine returnsInHanded_of_change (C := Try.checked) own started (by kernel_rfl) Try.func4
    (ChangeSpec.witness6 (enc := enc) (C := Try.checked) false ⟨#[], #[.slice none 0 0], []⟩ 8 (by kernel_rfl) (by kernel_rfl) (by kernel_rfl) (by kernel_rfl)) ?_
  intro W base args ds gs before hval0 hW hcnd _
  have hval : ∀ (j : Nat) t v, Try.f4.params[j]? = some t → args[j]? = some v → Value.okWide Try.prog W .any base t v := hval0
  have hW' := hW
  obtain ⟨p, q, hA0, hV, rfl, hfz, hnd⟩ := hW
  have hA : DataW.TrodAll enc Try.prog W 0 (fun _ => true) true Try.f4.params.toList args.toList ds p := hA0
  rw [Try.params4] at hA hval
  obtain ⟨v0, vs0, d0, ds0, p0, q0, hargs, rfl, rfl, h0, r0⟩ := trodAll_cons hA
  obtain ⟨rfl, rfl, rfl⟩ := trodAll_nil r0
  obtain rfl : args = #[v0] := by cases args; simp_all
  obtain ⟨rfl, rfl⟩ := trodVars_none hV
  obtain ⟨a0, len0, cap0, rfl⟩ := okWide_slice Try.underlying27 (hval 0 27 v0 rfl rfl)
  have k0 := h0
  have lt0 : ∀ x ∈ p0, x.block < W.heap.size := by obtain ⟨m, hm⟩ := k0; exact DataW.trod_lt m _ _ _ hm
  obtain ⟨z0, w0⟩ : ∃ zs, IsRow .u64 W a0 len0 cap0 zs := by
    obtain ⟨fuel, hf⟩ := h0
    rcases open_ints Try.underlying27 Try.underlying22 (by kernel_rfl) hf with ⟨hcs, _⟩ | ⟨x, l, c, zs, hcs, _, hl, hm, hz, _, hcell, hwz⟩
    · simp [Value.cells] at hcs
      obtain ⟨rfl, rfl, rfl⟩ := hcs
      exact ⟨[], .inl ⟨rfl, rfl, rfl, rfl⟩⟩
    · simp [Value.cells] at hcs
      obtain ⟨rfl, rfl, rfl⟩ := hcs
      exact ⟨zs, .inr ⟨_, rfl, hl, hm, by simpa using hz, hcell, hwz⟩⟩
  clear hA0 hval0
  refine (walk a0 len0 cap0 z0 W w0).mono fun e W' ⟨he, bel⟩ => ?_
  subst he
  exact ⟨_, rfl, _, _, _, [], _, [], hW', trodAll_mk1 (shut_bool Try.underlying4 _), (trodAll_cons_mk (Below.trod laidOut (by kernel_rfl) (of_decide_eq_true (by kernel_rfl)) k0 bel lt0) trodAll_mk0), rfl, bel.frame _, fun h => by cases h⟩

theorem over : Rows.recordReadsRow.holds Try.pinned (OpenSpec.ofChange Rows.recordReadsSpec) :=
  OpenClaim.holds_of_wide 4 Try.f4 rfl rfl rfl rfl rfl rfl rfl ⟨rfl, rfl, rfl, rfl, rfl⟩ rfl rfl rfl rfl rfl (by kernel_rfl) Try.func4 (by kernel_rfl)
    (of_decide_eq_true (by kernel_rfl)) (by unfold Func.isWrapper; first | (rw [if_pos (by decide +kernel)]; kernel_rfl) | (rw [if_neg (by decide +kernel)]; exact ⟨rfl, rfl⟩))
    (fun os started H enc _ => lifted os started H enc)

/-- ████ THE STATEMENT ████ -/
theorem proved : Rows.RecordReadsSaid := over
#print axioms proved

end Go.Proofs.Ytmjolhmlhdhkfaa.recordReads
