/- Whatever the input, haycroftlaw05.CellOnce returns true and changes no argument. Conditions: none. -/
import Derived.Test.YtehpepmjndfbmaaXc
import Derived.Test.YtehpepmjndfbmaaRows
import Derived.WalkKit
import Derived.ProofKit
import Derived.OpenShut
import Derived.ShutString
import Derived.ChangeOld
import Derived.Below
namespace Go.Proofs.Ytehpepmjndfbmaa.cellOnce
open Go.ChangeShapes Go.WideShapes Go.ChangeAt Go.RowKit
open Go.ChangeMaps (open_string shut_string)
set_option linter.unusedVariables false

theorem own : ownKnob Try.prog.godebug = none := by kernel_rfl
theorem laidOut : laidOutB Try.prog = true := by kernel_rfl

/-- WHAT THE WALK IS TOLD OF A SLICE OF INTEGERS THAT CAME IN: it is nil; or it leads to a row of 'cap' cells, the numbers 'zs' (the first 'len' are its elements, the rest its spare room), each fitting its kind. -/
def IsRow (k : IntKind) (w : World) (a : Option Addr) (len cap : Nat) (zs : List Int) : Prop :=
  (a = none ∧ len = 0 ∧ cap = 0 ∧ zs = []) ∨
  ∃ x, a = some x ∧ len ≤ cap ∧ cap ≤ maxLen ∧ zs.length = cap ∧ (∀ i, i < zs.length → w.cell? (x.add i) = some (.int k (zs.getD i 0))) ∧ ∀ n ∈ zs, (Lit.int k n).wf = true


theorem and7 (a : Int) : ∃ m : Nat, m < 8 ∧ bits .and .i64 a 7 = (m : Int) := by
  have h : (BitVec.ofInt 64 a &&& BitVec.ofInt 64 7).toNat ≤ 7 := by
    rw [BitVec.toNat_and]
    exact Nat.le_trans Nat.and_le_right (by decide)
  refine ⟨(BitVec.ofInt 64 a &&& BitVec.ofInt 64 7).toNat, by omega, ?_⟩
  show IntKind.i64.wrap ((BitVec.ofInt 64 a &&& BitVec.ofInt 64 7).toNat : Int) = _
  rw [IntKind.wrap_i64]
  omega
theorem sl_of_row {k : IntKind} {w : World} {a : Option Addr} {len cap : Nat} {zs : List Int} (h : IsRow k w a len cap zs) : Sl k w a len (fun j => zs.getD j 0) ∧ len ≤ 9223372036854775807 := by
  rcases h with ⟨rfl, rfl, rfl, rfl⟩ | ⟨x, rfl, hl, hm, hz, hc, hw⟩
  · exact ⟨fun j hj => by omega, by decide⟩
  · refine ⟨fun j hj => ?_, by unfold maxLen at hm; omega⟩
    obtain ⟨b, off, rfl, hc'⟩ := ints_at hc (by omega)
    exact ⟨b, off, rfl, by simpa using hc' j (by omega)⟩
/-- What the loop keeps: no try yet, and the cell as it was; or a first winner f, and the cell has its word, which is another. -/
def Kept (w : World) (r b m k : Nat) (was : Int) (z : Nat → Int) (fv : Value) : Prop :=
  (fv = .int .i64 (-1) ∧ ∃ v, RowIs w r b 8 v 0 0 ∧ v m = was) ∨
  ∃ f : Nat, f < k ∧ fv = .int .i64 (f : Int) ∧ ∃ v lost, RowIs w r b 8 v 1 lost ∧ 0 ≤ lost ∧ lost ≤ (k : Int) ∧ v m = z f ∧ z f ≠ was
set_option maxHeartbeats 1000000 in
theorem walk (a0 a1 : Int) (a2 : Option Addr) (len2 cap2 : Nat) (z2 : List Int) (w : World) (w0 : (Lit.int .i64 a0).wf = true) (w1 : (Lit.int .u64 a1).wf = true) (w2 : IsRow .u64 w a2 len2 cap2 z2) :
    Calls Try.prog 3 #[.int .i64 a0, .int .u64 a1, .slice a2 len2 cap2] w fun e w' => e = .returned (.bool true) ∧ Below w.heap.size w w' := by
  obtain ⟨m, hm, hm7⟩ := and7 a0
  have HM := hide hm7
  obtain ⟨hs, hl⟩ := sl_of_row w2
  generalize (fun j => z2.getD j 0) = z at hs
  have HS := hide hs
  clear hm7 w2 w0 w1 hs
  go_enter Try.func3, Try.ntmps3
  go_wp2_with fail
  refine (awake5_any _).mono ?_
  rintro e x1 ⟨rfl, b1⟩
  go_wp2_with fail
  refine (new_yes 8 (by decide) (by decide) _).mono ?_
  rintro e x2 ⟨r, b, rfl, h2, hr, hb, b2⟩
  replace b2 := b1.trans (b2.mono b1.size)
  have hr' := Nat.le_trans b1.size hr
  have hb' := Nat.le_trans b1.size hb
  go_wp2_with fail
  rw [HM.out]
  refine (rstore h2 m hm a1).mono ?_
  rintro e x3 ⟨rfl, h3, b3⟩
  replace b3 := b2.trans (b3 _ hr' hb')
  clear h2 b2 b1 hr hb
  have hk0 : Kept x3 r b m 0 a1 z (.int .i64 (-1)) := .inl ⟨rfl, _, h3, updV_same _ _ _⟩
  clear h3
  go_wp2
  go_loopw [9, 10] (fun f i wr => ∃ k : Nat, k ≤ 100 ∧ k ≤ len2 ∧ i = .int .i64 k ∧ Kept wr r b m k a1 z f ∧ Below w.heap.size w wr)
    (fun _ i _ => len2 - (intOf i).toNat)
  case atStart => exact ⟨0, by omega, Nat.zero_le _, rfl, hk0, b3⟩
  case round =>
    clear hk0 b3
    obtain ⟨k, hk1, hk2, rfl, hk, hb⟩ := hrel
    by_cases hlt : k < len2 ∧ k < 100
    · obtain ⟨hl1, hl2⟩ := hlt
      obtain ⟨g, off, rfl, hc⟩ := HS.out.below hb k hl1
      by_cases hz : z k = a1
      · have hzb : (z k == a1) = true := by simp [hz]
        have HZ := hide hz
        clear hz
        have hk' : Kept wr r b m (k + 1) a1 z u9 := by
          rcases hk with ⟨h1, h2⟩ | ⟨f, h1, h2, v, lost, h3, h4, h5, h6⟩
          · exact .inl ⟨h1, h2⟩
          · exact .inr ⟨f, by omega, h2, v, lost, h3, h4, by omega, h6⟩
        clear hk
        go_wp2
        go_roundw
        case rel => exact ⟨k + 1, by omega, by omega, by go_num, hk', hb⟩
        case measure => simp [intOf]; omega
      · have hzb : (z k == a1) = false := by simp [hz]
        have HZ := hide hz
        clear hz
        rcases hk with ⟨rfl, v, h1, hv⟩ | ⟨f, h1, rfl, v, lost, h3, h4, h5, h6, h7⟩
        · go_wp2_with fail
          refine (rcas_hit h1 m hm a1 hv (z k) (by decide)).mono ?_
          rintro e x4 ⟨rfl, h4, b4⟩
          replace b4 := hb.trans (b4 _ hr' hb')
          have hk' : Kept x4 r b m (k + 1) a1 z (.int .i64 (k : Int)) := .inr ⟨k, by omega, rfl, _, _, h4, by decide, by omega, updV_same _ _ _, HZ.out⟩
          clear h1 hv h4 hb
          go_wp2
          go_roundw
          case rel => exact ⟨k + 1, by omega, by omega, by go_num, hk', b4⟩
          case measure => simp [intOf]; omega
        · have H6 := hide h6
          have H7 := hide h7
          clear h6 h7
          go_wp2_with fail
          refine (rcas_miss h3 m hm a1 (by rw [H6.out]; exact H7.out) (z k) (by omega)).mono ?_
          rintro e x4 ⟨rfl, h8, b4⟩
          replace b4 := hb.trans (b4 _ hr' hb')
          have hk' : Kept x4 r b m (k + 1) a1 z (.int .i64 (f : Int)) := .inr ⟨f, by omega, rfl, _, _, h8, by omega, by omega, H6.out, H7.out⟩
          clear h3 h8 hb
          go_wp2
          go_roundw
          case rel => exact ⟨k + 1, by omega, by omega, by go_num, hk', b4⟩
          case measure => simp [intOf]; omega
    · rcases hk with ⟨rfl, v, h1, hv⟩ | ⟨f, h1, rfl, v, lost, h3, h4, h5, h6, h7⟩
      · have HB := hide hb
        clear hb
        go_wp2_with fail
        all_goals
          go_quiet ((go_at_call 9; exact Calls.quiet_of_same (rload (h1.drew _) m hm a1 hv)))
          go_wp2
          go_ret
          exact ⟨rfl, below_drewN HB.out _⟩
      · obtain ⟨g, off, rfl, hc⟩ := HS.out.below hb f (by omega)
        have HB := hide hb
        have H6 := hide h6
        have H7 := hide h7
        have hfl : f < len2 := by omega
        have hf0 : decide ((f : Int) < 0) = false := by simp
        have hf1 : decide ((f : Int) ≥ 0) = true := by simp
        clear hb h6 h7
        go_wp2_with fail
        all_goals
          go_quiet ((go_at_call 9; exact Calls.quiet_of_same (rload (h3.drew _) m hm (z f) H6.out)))
          go_wp2
          go_ret
          exact ⟨rfl, below_drewN HB.out _⟩
/-! ### THE ROW's STEP: WRITTEN OUT: LEAVE IT -/
set_option maxRecDepth 100000 in
theorem lifted (os : Os) (started : os.Started) (H : Type) (enc : TypeId × Value → H) :
    ReturnsInHanded {} Try.checked os 3 .any (Rows.cellOnceSpec.pre6 enc Try.prog Try.f3 Rows.cellOnceRow.domain false) (Rows.cellOnceSpec.post enc Try.prog Try.f3 false true false false) := by
  refine returnsInHanded_of_change (C := Try.checked) own started (by kernel_rfl) Try.func3
    (ChangeSpec.witness6 (enc := enc) (C := Try.checked) false ⟨#[], #[.int .i64 0, .int .u64 0, .slice none 0 0], []⟩ 8 (by kernel_rfl) (by kernel_rfl) (by kernel_rfl) (by kernel_rfl)) ?_
  intro W base args ds gs before hval0 hW hcnd _
  have hval : ∀ (j : Nat) t v, Try.f3.params[j]? = some t → args[j]? = some v → Value.okWide Try.prog W .any base t v := hval0
  have hW' := hW
  obtain ⟨p, q, hA0, hV, rfl, hfz, hnd⟩ := hW
  have hA : DataW.TrodAll enc Try.prog W 0 (fun _ => true) true Try.f3.params.toList args.toList ds p := hA0
  rw [Try.params3] at hA hval
  obtain ⟨v0, vs0, d0, ds0, p0, q0, hargs, rfl, rfl, h0, r0⟩ := trodAll_cons hA
  obtain ⟨v1, vs1, d1, ds1, p1, q1, rfl, rfl, rfl, h1, r1⟩ := trodAll_cons r0
  obtain ⟨v2, vs2, d2, ds2, p2, q2, rfl, rfl, rfl, h2, r2⟩ := trodAll_cons r1
  obtain ⟨rfl, rfl, rfl⟩ := trodAll_nil r2
  obtain rfl : args = #[v0, v1, v2] := by cases args; simp_all
  obtain ⟨rfl, rfl⟩ := trodVars_none hV
  obtain ⟨a0, rfl, rfl, rfl, w0⟩ := open_int Try.underlying3 (hval 0 3 v0 rfl rfl) h0
  obtain ⟨a1, rfl, rfl, rfl, w1⟩ := open_int Try.underlying22 (hval 1 22 v1 rfl rfl) h1
  obtain ⟨a2, len2, cap2, rfl⟩ := okWide_slice Try.underlying23 (hval 2 23 v2 rfl rfl)
  have k2 := h2
  have lt2 : ∀ x ∈ p2, x.block < W.heap.size := by obtain ⟨m, hm⟩ := k2; exact DataW.trod_lt m _ _ _ hm
  obtain ⟨z2, w2⟩ : ∃ zs, IsRow .u64 W a2 len2 cap2 zs := by
    obtain ⟨fuel, hf⟩ := h2
    rcases open_ints Try.underlying23 Try.underlying22 (by kernel_rfl) hf with ⟨hcs, _⟩ | ⟨x, l, c, zs, hcs, _, hl, hm, hz, _, hcell, hwz⟩
    · simp [Value.cells] at hcs
      obtain ⟨rfl, rfl, rfl⟩ := hcs
      exact ⟨[], .inl ⟨rfl, rfl, rfl, rfl⟩⟩
    · simp [Value.cells] at hcs
      obtain ⟨rfl, rfl, rfl⟩ := hcs
      exact ⟨zs, .inr ⟨_, rfl, hl, hm, by simpa using hz, hcell, hwz⟩⟩
  clear hA0 hval0
  refine (walk a0 a1 a2 len2 cap2 z2 W w0 w1 w2).mono fun e W' ⟨he, bel⟩ => ?_
  subst he
  exact ⟨_, rfl, _, _, _, [], _, [], hW', trodAll_mk1 (shut_bool Try.underlying4 _), (trodAll_cons_mk (shut_int Try.underlying3 w0) (trodAll_cons_mk (shut_int Try.underlying22 w1) (trodAll_cons_mk (Below.trod laidOut (by kernel_rfl) (of_decide_eq_true (by kernel_rfl)) k2 bel lt2) trodAll_mk0))), rfl, bel.frame _, fun h => by cases h⟩

theorem over : Rows.cellOnceRow.holds Try.pinned (OpenSpec.ofChange Rows.cellOnceSpec) :=
  OpenClaim.holds_of_wide 3 Try.f3 rfl rfl rfl rfl rfl rfl rfl ⟨rfl, rfl, rfl, rfl, rfl⟩ rfl rfl rfl rfl rfl (by kernel_rfl) Try.func3 (by kernel_rfl)
    (of_decide_eq_true (by kernel_rfl)) (by unfold Func.isWrapper; first | (rw [if_pos (by decide +kernel)]; kernel_rfl) | (rw [if_neg (by decide +kernel)]; exact ⟨rfl, rfl⟩))
    (fun os started H enc _ => lifted os started H enc)

/-- ████ THE STATEMENT ████ -/
theorem proved : Rows.CellOnceSaid := over
#print axioms proved

end Go.Proofs.Ytehpepmjndfbmaa.cellOnce
