/- Whatever the input, haycroftlaw01.FieldJoins returns true and changes no argument. Conditions: none. -/
import Derived.Test.YtcjefpbagcflcaaWg
import Derived.Test.YtcjefpbagcflcaaRows
import Derived.WalkKit
import Derived.ProofKit
import Derived.OpenShut
import Derived.ShutString
import Derived.ChangeOld
import Derived.Below
namespace Go.Proofs.Ytcjefpbagcflcaa.fieldJoins
open Go.ChangeShapes Go.WideShapes Go.ChangeAt Go.RowKit
open Go.ChangeMaps (open_string shut_string)
set_option linter.unusedVariables false

theorem own : ownKnob Try.prog.godebug = none := by kernel_rfl
theorem laidOut : laidOutB Try.prog = true := by kernel_rfl

/-- WHAT THE WALK IS TOLD OF A SLICE OF INTEGERS THAT CAME IN: it is nil; or it leads to a row of 'cap' cells, the numbers 'zs' (the first 'len' are its elements, the rest its spare room), each fitting its kind. -/
def IsRow (k : IntKind) (w : World) (a : Option Addr) (len cap : Nat) (zs : List Int) : Prop :=
  (a = none ∧ len = 0 ∧ cap = 0 ∧ zs = []) ∨
  ∃ x, a = some x ∧ len ≤ cap ∧ cap ≤ maxLen ∧ zs.length = cap ∧ (∀ i, i < zs.length → w.cell? (x.add i) = some (.int k (zs.getD i 0))) ∧ ∀ n ∈ zs, (Lit.int k n).wf = true


theorem wf_getD {k : IntKind} {zs : List Int} (h : ∀ n ∈ zs, (Lit.int k n).wf = true) (j : Nat) (hj : j < zs.length) : (Lit.int k (zs.getD j 0)).wf = true := by
  rw [List.getD_eq_getElem?_getD, List.getElem?_eq_getElem hj]; exact h _ (List.getElem_mem hj)
theorem sl_of_row {k : IntKind} {w : World} {a : Option Addr} {len cap : Nat} {zs : List Int} (h : IsRow k w a len cap zs) : Sl k w a len (fun j => zs.getD j 0) := by
  rcases h with ⟨rfl, rfl, rfl, rfl⟩ | ⟨x, rfl, hl, hm, hz, hc, hw⟩
  · intro j hj; omega
  · intro j hj
    obtain ⟨b, off, rfl, hc'⟩ := ints_at hc (by omega)
    exact ⟨b, off, rfl, by simpa using hc' j (by omega)⟩
theorem sl_of_rowU {w : World} {a : Option Addr} {len cap : Nat} {zs : List Int} (h : IsRow .u64 w a len cap zs) : Sl .u64 w a len (fun j => ((zs.getD j 0).toNat : Int)) ∧ ∀ j, j < len → (zs.getD j 0).toNat < 18446744073709551616 := by
  have h0 := sl_of_row h
  have hb : ∀ j, j < len → 0 ≤ zs.getD j 0 ∧ zs.getD j 0 < 18446744073709551616 := by
    intro j hj
    rcases h with ⟨rfl, rfl, rfl, rfl⟩ | ⟨x, rfl, hl, hm, hz, hc, hw⟩
    · omega
    · obtain ⟨n, h1, h2⟩ := nat_of_wf (wf_getD hw j (by omega))
      omega
  refine ⟨fun j hj => ?_, fun j hj => by have := hb j hj; omega⟩
  obtain ⟨b, off, h1, h2⟩ := h0 j hj
  exact ⟨b, off, h1, by rw [h2]; simp only [Int.toNat_of_nonneg (hb j hj).1]⟩

/-- Both Joins tell the same. -/
theorem joins_same (a1 a2 : Option Addr) (n1 n2 c1 c2 : Nat) (v : Nat → Nat) (z : Nat → Int) (h1 : n1 ≤ 100) (h2 : n2 ≤ 100) (hv : ∀ j, j < n1 → v j < 18446744073709551616) :
    ∃ (X : Nat) (E : Int), ∀ W, Sl .u64 W a1 n1 (fun j => (v j : Int)) → Sl .i64 W a2 n2 z →
      Calls Try.prog 21 #[.slice a1 n1 c1, .slice a2 n2 c2] W (fun e w' => e = .returned (.tuple #[.int .u64 (X : Int), .int .i64 E]) ∧ Below W.heap.size W w') ∧
      Calls Try.prog 22 #[.slice a1 n1 c1, .slice a2 n2 c2] W (fun e w' => e = .returned (.tuple #[.int .u64 (X : Int), .int .i64 E]) ∧ Below W.heap.size W w') := by
  by_cases hf : Fits z n2
  · by_cases he : n1 = n2
    · subst he
      have hdec : ∃ r : Bool, r = true ↔ ∀ k, k < n1 → v k ≤ mostN (z k) := by
        by_cases h : ∀ k, k < n1 → v k ≤ mostN (z k)
        · exact ⟨true, by simpa using h⟩
        · exact ⟨false, by simpa using h⟩
      obtain ⟨r, hr⟩ := hdec
      refine ⟨joinV v z n1 r, joinE r, fun W s1 s2 => ⟨?_, ?_⟩⟩
      · exact (join_run a1 a2 n1 c1 c2 v z r W (by omega) s1 s2 hf hr).mono fun e w' ⟨h, h'⟩ => ⟨h, below_drewN' h'⟩
      · exact rjoin_run a1 a2 n1 c1 c2 v z r W (by omega) s1 s2 hv hf hr
    · refine ⟨0, 1, fun W s1 s2 => ⟨?_, ?_⟩⟩
      · exact (join_arg a1 a2 n1 n2 c1 c2 z true W (by omega) s2 (by simpa using hf) (.inr he)).mono fun e w' ⟨h, h'⟩ => ⟨h, by rw [h']; exact Below.refl _ _⟩
      · exact (rjoin_arg a1 a2 n1 n2 c1 c2 z true W (by omega) s2 (by simpa using hf) (.inr he)).mono fun e w' ⟨h, h'⟩ => ⟨h, by rw [h']; exact Below.refl _ _⟩
  · refine ⟨0, 1, fun W s1 s2 => ⟨?_, ?_⟩⟩
    · exact (join_arg a1 a2 n1 n2 c1 c2 z false W (by omega) s2 (by simpa using hf) (.inl rfl)).mono fun e w' ⟨h, h'⟩ => ⟨h, by rw [h']; exact Below.refl _ _⟩
    · exact (rjoin_arg a1 a2 n1 n2 c1 c2 z false W (by omega) s2 (by simpa using hf) (.inl rfl)).mono fun e w' ⟨h, h'⟩ => ⟨h, by rw [h']; exact Below.refl _ _⟩

set_option maxHeartbeats 1000000 in
theorem walk_far (x : Nat) (a1 a2 : Option Addr) (n1 n2 c1 c2 : Nat) (w : World) (h : 100 < n1 ∨ 100 < n2) (h1 : n1 ≤ 9223372036854775807) (h2 : n2 ≤ 9223372036854775807) :
    Calls Try.prog 6 #[.int .u64 (x : Int), .slice a1 n1 c1, .slice a2 n2 c2] w fun e w' => e = .returned (.bool true) ∧ Below w.heap.size w w' := by
  by_cases h0 : 100 < n1
  · clear h
    go_enter Try.func6, Try.ntmps6
    go_wp2_with (go_at_call 8; refine (awake_any _).mono ?_; rintro e x1 ⟨rfl, b1⟩)
    go_ret
    exact ⟨rfl, by assumption⟩
  · have h3 : 100 < n2 := by omega
    clear h
    go_enter Try.func6, Try.ntmps6
    go_wp2_with (go_at_call 8; refine (awake_any _).mono ?_; rintro e x1 ⟨rfl, b1⟩)
    go_ret
    exact ⟨rfl, by assumption⟩

set_option maxHeartbeats 1000000 in
theorem walk_nofit (x : Nat) (a1 a2 : Option Addr) (n1 n2 c1 c2 : Nat) (v : Nat → Nat) (z : Nat → Int) (w : World) (h1 : n1 ≤ 100) (h2 : n2 ≤ 100) (hv : ∀ j, j < n1 → v j < 18446744073709551616)
    (s1 : Sl .u64 w a1 n1 (fun j => (v j : Int))) (s2 : Sl .i64 w a2 n2 z) (hf : ¬ Fits z n2) :
    Calls Try.prog 6 #[.int .u64 (x : Int), .slice a1 n1 c1, .slice a2 n2 c2] w fun e w' => e = .returned (.bool true) ∧ Below w.heap.size w w' := by
  obtain ⟨X, E, hJ⟩ := joins_same a1 a2 n1 n2 c1 c2 v z h1 h2 hv
  have HJ := hide hJ
  have S1 := hide s1
  have S2 := hide s2
  have HF := hide hf
  clear hJ s1 s2 hf hv
  go_enter Try.func6, Try.ntmps6
  go_wp2_with fail
  refine (awake_any _).mono ?_
  rintro e x1 ⟨rfl, b1⟩
  go_wp2_with fail
  refine (HJ.out _ (S1.out.below b1) (S2.out.below b1)).1.mono ?_
  rintro e x2 ⟨rfl, b2⟩
  replace b2 := b1.trans (b2.mono b1.size)
  go_wp2_with fail
  refine (HJ.out _ (S1.out.below b2) (S2.out.below b2)).2.mono ?_
  rintro e x3 ⟨rfl, b3⟩
  replace b3 := b2.trans (b3.mono b2.size)
  go_wp2_with fail
  refine (spread_arg _ _ _ _ _ _ (by omega) (S2.out.below b3) HF.out).mono ?_
  rintro e x4 ⟨rfl, rfl⟩
  go_wp2_with fail
  refine (fit_any _ _ _ _ false _ (by omega) (S2.out.below b3) (by simpa using HF.out)).mono ?_
  rintro e x5 ⟨rfl, rfl⟩
  go_wp2
  go_ret
  exact ⟨rfl, b3⟩
theorem gets_all (x : Nat) (z : Nat → Int) (n : Nat) (hf : Fits z n) : ∀ k, k < n → getN x (atK (wid z) k) (wid z k) ≤ mostN (z k) := fun k hk =>
  (lt_of_most hf hk).2 (getN_lt _ _ _)
theorem getI_fit (x : Nat) (z : Nat → Int) (n k : Nat) (hf : Fits z n) (hk : k < n) : getI x (atK (wid z) k : Int) (z k) = getN x (atK (wid z) k) (wid z k) := by
  have hrb := (fits_succ z k (fits_mono hf (by omega))).1 (fits_mono hf (by omega))
  unfold getI
  rw [if_pos hrb]
  rfl
theorem getI_whole (x : Nat) (z : Nat → Int) (n : Nat) (hf : Fits z n) : getI x 0 (atK (wid z) n : Int) = getN x 0 (atK (wid z) n) := by
  have h := fits_at hf
  by_cases h0 : atK (wid z) n = 0
  · rw [h0]; simp [getI, getN, Nat.mod_one]
  · have hrb : rightB 0 (atK (wid z) n : Int) = true := by rw [rightB_iff]; omega
    unfold getI
    rw [if_pos hrb]
    rfl
set_option maxHeartbeats 3000000 in
theorem walk_fit (x : Nat) (a1 a2 : Option Addr) (n1 n2 c1 c2 : Nat) (v : Nat → Nat) (z : Nat → Int) (w : World) (hx : x < 18446744073709551616) (h1 : n1 ≤ 100) (h2 : n2 ≤ 100) (hv : ∀ j, j < n1 → v j < 18446744073709551616)
    (s1 : Sl .u64 w a1 n1 (fun j => (v j : Int))) (s2 : Sl .i64 w a2 n2 z) (hf : Fits z n2) :
    Calls Try.prog 6 #[.int .u64 (x : Int), .slice a1 n1 c1, .slice a2 n2 c2] w fun e w' => e = .returned (.bool true) ∧ Below w.heap.size w w' := by
  obtain ⟨X, E, hJ⟩ := joins_same a1 a2 n1 n2 c1 c2 v z h1 h2 hv
  have HJ := hide hJ
  have S1 := hide s1
  have S2 := hide s2
  have HF := hide hf
  have HS := hide (sum_gets x (wid z) n2)
  have HW := hide (getI_whole x z n2 hf)
  clear hJ s1 s2 hf hv
  go_enter Try.func6, Try.ntmps6
  go_wp2_with fail
  refine (awake_any _).mono ?_
  rintro e x1 ⟨rfl, b1⟩
  go_wp2_with fail
  refine (HJ.out _ (S1.out.below b1) (S2.out.below b1)).1.mono ?_
  rintro e x2 ⟨rfl, b2⟩
  replace b2 := b1.trans (b2.mono b1.size)
  go_wp2_with fail
  refine (HJ.out _ (S1.out.below b2) (S2.out.below b2)).2.mono ?_
  rintro e x3 ⟨rfl, b3⟩
  replace b3 := b2.trans (b3.mono b2.size)
  go_wp2_with fail
  refine (spread_run _ _ _ _ _ _ hx (by omega) (S2.out.below b3) HF.out).mono ?_
  rintro e x4 ⟨al, cl, rfl, sl, b4⟩
  replace b4 := b3.trans (b4.mono b3.size)
  have SL := hide sl
  clear sl
  go_wp2_with fail
  refine (fit_any _ _ _ _ true _ (by omega) (S2.out.below b4) (by simpa using HF.out)).mono ?_
  rintro e x5 ⟨rfl, rfl⟩
  go_wp2_with fail
  refine (join_run al a2 n2 cl c2 (fun i => getN x (atK (wid z) i) (wid z i)) z true _ (by omega) SL.out (S2.out.below b4) HF.out (by simpa using gets_all x z n2 HF.out)).mono ?_
  rintro e x6 ⟨rfl, b6'⟩
  have b6 := below_drewN' b6'
  have SL6 := hide (SL.out.below b6)
  replace b6 := b4.trans (b6.mono b4.size)
  clear b6' SL b4 b3 b2 b1
  have HV : Hid (joinV (fun i => getN x (atK (wid z) i) (wid z i)) z n2 true = getN x 0 (atK (wid z) n2)) := HS.out
  have HE : Hid (joinE true = 0) := rfl
  rw [HV.out, HE.out]
  go_wp2
  go_loopw [15, 16] (fun a i wr => ∃ k : Nat, k ≤ n2 ∧ i = .int .i64 k ∧ a = .int .i64 (atK (wid z) k : Int) ∧ Below x6.heap.size x6 wr) (fun _ i _ => n2 - (intOf i).toNat)
  case atStart => exact ⟨0, Nat.zero_le _, rfl, rfl, Below.refl _ _⟩
  case round =>
    obtain ⟨k, hk, rfl, rfl, hb⟩ := hrel
    have hat := fits_at (fits_mono HF.out hk)
    have hbw : Below w.heap.size w wr := b6.trans (hb.mono b6.size)
    by_cases hlt : k < n2
    · obtain ⟨b, off, hao, hc⟩ := (S2.out.below hbw) k hlt
      obtain ⟨bl, ol, hal, hd⟩ := (SL6.out.below hb) k hlt
      subst hao hal
      have HG := hide (getI_fit x z n2 k HF.out hlt)
      have hkeep : Hid (∀ W0 W, W0.heap = wr.heap → Below wr.heap.size W0 W → W.cell? ⟨bl, ol + k, none⟩ = some (.int .u64 (getN x (atK (wid z) k) (wid z k) : Int)) ∧ W.cell? ⟨b, off + k, none⟩ = some (.int .i64 (z k))) := by
        intro W0 W h0 hW
        have hW2 : ∀ j, j < wr.heap.size → W.heap[j]? = wr.heap[j]? := fun j hj => (hW.block j hj).trans (by rw [h0])
        exact ⟨(World.cell?_of_block (w := wr) (hW2 _ (World.block_lt_of_cell? _ _ hd))).trans hd, (World.cell?_of_block (w := wr) (hW2 _ (World.block_lt_of_cell? _ _ hc))).trans hc⟩
      have hfk := HF.out k hlt
      obtain ⟨hz1, hz2⟩ := hfk
      have HA := hide (at_succ z k hz1)
      have hz3 : z k ≤ 64 := by simp only [atK, wid] at hz2; omega
      clear hz2
      go_wp2
      go_region_held3 (fun W => W.cell? ⟨bl, ol + k, none⟩ = some (.int .u64 (getN x (atK (wid z) k) (wid z k) : Int)) ∧ W.cell? ⟨b, off + k, none⟩ = some (.int .i64 (z k))) (first | go_keep | exact hkeep.out wr.drew _ rfl (by assumption)) (first | (go_at_call 16; refine (rget_any _ _ _ _ hx).mono ?_; rintro e x7 ⟨rfl, b7⟩))
      have hc7 := (hkeep.out wr.drew x7 rfl b7).2
      have b8 : Below x6.heap.size x6 x7 := hb.drew.trans (b7.mono hb.size)
      rw [HG.out]
      generalize getN x (atK (wid z) k) (wid z k) = y at *
      have hy : ((y : Int) != (y : Int)) = false := by simp
      clear hkeep b7 hb hbw hc hd
      go_wp2
      go_roundw
      case rel => exact ⟨k + 1, by omega, by go_num, by rw [← HA.out], b8⟩
      case measure => simp [intOf]; omega
    · have e : k = n2 := by omega
      subst e
      go_wp2_with fail
      refine (rget_any _ _ _ _ hx).mono ?_
      rintro e x7 ⟨rfl, b7⟩
      rw [HW.out]
      replace b7 := hbw.trans (b7.mono hbw.size)
      go_wp2
      go_ret
      exact ⟨rfl, b7⟩
theorem walk (a0 : Int) (a1 : Option Addr) (len1 cap1 : Nat) (z1 : List Int) (a2 : Option Addr) (len2 cap2 : Nat) (z2 : List Int) (w : World) (w0 : (Lit.int .u64 a0).wf = true) (w1 : IsRow .u64 w a1 len1 cap1 z1) (w2 : IsRow .i64 w a2 len2 cap2 z2) :
    Calls Try.prog 6 #[.int .u64 a0, .slice a1 len1 cap1, .slice a2 len2 cap2] w fun e w' => e = .returned (.bool true) ∧ Below w.heap.size w w' := by
  obtain ⟨x, rfl, hx⟩ := nat_of_wf w0
  obtain ⟨s1, hv⟩ := sl_of_rowU w1
  have s2 := sl_of_row w2
  have hm : ∀ {k a len cap zs}, IsRow k w a len cap zs → len ≤ 9223372036854775807 := by
    intro k a len cap zs h
    rcases h with ⟨_, rfl, _⟩ | ⟨_, _, hl, hm, _⟩
    · omega
    · unfold maxLen at hm; omega
  by_cases hfar : 100 < len1 ∨ 100 < len2
  · exact walk_far x a1 a2 len1 len2 cap1 cap2 w hfar (hm w1) (hm w2)
  · by_cases hf : Fits (fun j => z2.getD j 0) len2
    · exact walk_fit x a1 a2 len1 len2 cap1 cap2 _ _ w hx (by omega) (by omega) hv s1 s2 hf
    · exact walk_nofit x a1 a2 len1 len2 cap1 cap2 _ _ w (by omega) (by omega) hv s1 s2 hf
/-! ### THE ROW's STEP: WRITTEN OUT: LEAVE IT -/
set_option maxRecDepth 100000 in
theorem lifted (os : Os) (started : os.Started) (H : Type) (enc : TypeId × Value → H) :
    ReturnsInHanded {} Try.checked os 6 .any (Rows.fieldJoinsSpec.pre6 enc Try.prog Try.f6 Rows.fieldJoinsRow.domain false) (Rows.fieldJoinsSpec.post enc Try.prog Try.f6 false true false false) := by
  refine returnsInHanded_of_change (C := Try.checked) own started (by kernel_rfl) Try.func6
    (ChangeSpec.witness6 (enc := enc) (C := Try.checked) false ⟨#[], #[.int .u64 0, .slice none 0 0, .slice none 0 0], []⟩ 8 (by kernel_rfl) (by kernel_rfl) (by kernel_rfl) (by kernel_rfl)) ?_
  intro W base args ds gs before hval0 hW hcnd _
  have hval : ∀ (j : Nat) t v, Try.f6.params[j]? = some t → args[j]? = some v → Value.okWide Try.prog W .any base t v := hval0
  have hW' := hW
  obtain ⟨p, q, hA0, hV, rfl, hfz, hnd⟩ := hW
  have hA : DataW.TrodAll enc Try.prog W 0 (fun _ => true) true Try.f6.params.toList args.toList ds p := hA0
  rw [Try.params6] at hA hval
  obtain ⟨v0, vs0, d0, ds0, p0, q0, hargs, rfl, rfl, h0, r0⟩ := trodAll_cons hA
  obtain ⟨v1, vs1, d1, ds1, p1, q1, rfl, rfl, rfl, h1, r1⟩ := trodAll_cons r0
  obtain ⟨v2, vs2, d2, ds2, p2, q2, rfl, rfl, rfl, h2, r2⟩ := trodAll_cons r1
  obtain ⟨rfl, rfl, rfl⟩ := trodAll_nil r2
  obtain rfl : args = #[v0, v1, v2] := by cases args; simp_all
  obtain ⟨rfl, rfl⟩ := trodVars_none hV
  obtain ⟨a0, rfl, rfl, rfl, w0⟩ := open_int Try.underlying22 (hval 0 22 v0 rfl rfl) h0
  obtain ⟨a1, len1, cap1, rfl⟩ := okWide_slice Try.underlying38 (hval 1 38 v1 rfl rfl)
  have k1 := h1
  have lt1 : ∀ x ∈ p1, x.block < W.heap.size := by obtain ⟨m, hm⟩ := k1; exact DataW.trod_lt m _ _ _ hm
  obtain ⟨z1, w1⟩ : ∃ zs, IsRow .u64 W a1 len1 cap1 zs := by
    obtain ⟨fuel, hf⟩ := h1
    rcases open_ints Try.underlying38 Try.underlying22 (by kernel_rfl) hf with ⟨hcs, _⟩ | ⟨x, l, c, zs, hcs, _, hl, hm, hz, _, hcell, hwz⟩
    · simp [Value.cells] at hcs
      obtain ⟨rfl, rfl, rfl⟩ := hcs
      exact ⟨[], .inl ⟨rfl, rfl, rfl, rfl⟩⟩
    · simp [Value.cells] at hcs
      obtain ⟨rfl, rfl, rfl⟩ := hcs
      exact ⟨zs, .inr ⟨_, rfl, hl, hm, by simpa using hz, hcell, hwz⟩⟩
  obtain ⟨a2, len2, cap2, rfl⟩ := okWide_slice Try.underlying33 (hval 2 33 v2 rfl rfl)
  have k2 := h2
  have lt2 : ∀ x ∈ p2, x.block < W.heap.size := by obtain ⟨m, hm⟩ := k2; exact DataW.trod_lt m _ _ _ hm
  obtain ⟨z2, w2⟩ : ∃ zs, IsRow .i64 W a2 len2 cap2 zs := by
    obtain ⟨fuel, hf⟩ := h2
    rcases open_ints Try.underlying33 Try.underlying3 (by kernel_rfl) hf with ⟨hcs, _⟩ | ⟨x, l, c, zs, hcs, _, hl, hm, hz, _, hcell, hwz⟩
    · simp [Value.cells] at hcs
      obtain ⟨rfl, rfl, rfl⟩ := hcs
      exact ⟨[], .inl ⟨rfl, rfl, rfl, rfl⟩⟩
    · simp [Value.cells] at hcs
      obtain ⟨rfl, rfl, rfl⟩ := hcs
      exact ⟨zs, .inr ⟨_, rfl, hl, hm, by simpa using hz, hcell, hwz⟩⟩
  clear hA0 hval0
  refine (walk a0 a1 len1 cap1 z1 a2 len2 cap2 z2 W w0 w1 w2).mono fun e W' ⟨he, bel⟩ => ?_
  subst he
  exact ⟨_, rfl, _, _, _, [], _, [], hW', trodAll_mk1 (shut_bool Try.underlying4 _), (trodAll_cons_mk (shut_int Try.underlying22 w0) (trodAll_cons_mk (Below.trod laidOut (by kernel_rfl) (of_decide_eq_true (by kernel_rfl)) k1 bel lt1) (trodAll_cons_mk (Below.trod laidOut (by kernel_rfl) (of_decide_eq_true (by kernel_rfl)) k2 bel lt2) trodAll_mk0))), rfl, bel.frame _, fun h => by cases h⟩

theorem over : Rows.fieldJoinsRow.holds Try.pinned (OpenSpec.ofChange Rows.fieldJoinsSpec) :=
  OpenClaim.holds_of_wide 6 Try.f6 rfl rfl rfl rfl rfl rfl rfl ⟨rfl, rfl, rfl, rfl, rfl⟩ rfl rfl rfl rfl rfl (by kernel_rfl) Try.func6 (by kernel_rfl)
    (of_decide_eq_true (by kernel_rfl)) (by unfold Func.isWrapper; first | (rw [if_pos (by decide +kernel)]; kernel_rfl) | (rw [if_neg (by decide +kernel)]; exact ⟨rfl, rfl⟩))
    (fun os started H enc _ => lifted os started H enc)

/-- ████ THE STATEMENT ████ -/
theorem proved : Rows.FieldJoinsSaid := over
#print axioms proved

end Go.Proofs.Ytcjefpbagcflcaa.fieldJoins
