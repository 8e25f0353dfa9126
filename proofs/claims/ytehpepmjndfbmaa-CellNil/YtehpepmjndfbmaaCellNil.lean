/- Whatever the input, haycroftlaw05.CellNil returns true and changes no argument. Conditions: none. -/
import Derived.Test.YtehpepmjndfbmaaXc
import Derived.Test.YtehpepmjndfbmaaRows
import Derived.WalkKit
import Derived.ProofKit
import Derived.OpenShut
import Derived.ShutString
import Derived.ChangeOld
import Derived.Below
import Derived.ChangeSame
namespace Go.Proofs.Ytehpepmjndfbmaa.cellNil
open Go.ChangeShapes Go.WideShapes Go.ChangeAt Go.RowKit
open Go.ChangeMaps (open_string shut_string)
set_option linter.unusedVariables false
theorem own : ownKnob Try.prog.godebug = none := by kernel_rfl
theorem laidOut : laidOutB Try.prog = true := by kernel_rfl
set_option maxHeartbeats 1000000 in
theorem walk (kd i n o y : Int) (ao : Option Addr) (len cap : Nat) (w : World) :
    Calls Try.prog 4 #[.agg #[.int .i64 kd, .int .i64 i, .int .i64 n, .int .u64 o, .int .u64 y, .slice ao len cap]] w fun e w' => e = .returned (.bool true) ∧ Below w.heap.size w w' := by
  go_enter Try.func4, Try.ntmps4
  go_wp2_with fail
  refine (awake5_any _).mono ?_
  rintro e x1 ⟨rfl, b1⟩
  have hb : Below w.heap.size w x1 := ((Below.refl _ w).alloc (Nat.le_refl _) _).trans (b1.mono (by simp))
  have hc : ∀ j, x1.cell? ⟨w.heap.size, j, none⟩ = (#[.int .i64 kd, .int .i64 i, .int .i64 n, .int .u64 o, .int .u64 y, .slice ao len cap] : Array Value)[j]? := fun j => by
    rw [b1.cell (by simp)]; simp
  have c1 := hc 1
  have c2 := hc 2
  have c3 := hc 3
  have c4 := hc 4
  have c5 := hc 5
  simp at c1 c2 c3 c4 c5
  have HB := hide hb
  clear hc hb b1
  go_wp2_with fail
  refine (cas_nil i o y _).mono ?_
  rintro e x ⟨rfl, rfl⟩
  go_wp2_with fail
  refine (add_nil i y _).mono ?_
  rintro e x ⟨rfl, rfl⟩
  go_wp2_with fail
  refine (words_nil i n _).mono ?_
  rintro e x ⟨rfl, rfl⟩
  go_wp2_with fail
  refine (counts_nil _).mono ?_
  rintro e x ⟨rfl, rfl⟩
  go_wp2_with fail
  refine (len_nil _).mono ?_
  rintro e x ⟨rfl, rfl⟩
  go_wp2_with fail
  refine (load_nil i _).mono ?_
  rintro e x ⟨rfl, rfl⟩
  go_wp2_with fail
  refine (store_nil i y _).mono ?_
  rintro e x ⟨rfl, rfl⟩
  go_wp2_with fail
  refine (fill_nil i ao len cap _).mono ?_
  rintro e x ⟨rfl, rfl⟩
  go_wp2
  go_ret
  exact ⟨rfl, HB.out⟩

theorem cells35 : Try.prog.cellsOf 35 = 6 := by kernel_rfl
theorem cellsInt : Try.prog.cellsOf 3 = 1 := by kernel_rfl
theorem cellsU64 : Try.prog.cellsOf 22 = 1 := by kernel_rfl
theorem cellsSl : Try.prog.cellsOf 23 = 1 := by kernel_rfl
theorem list6 {α : Type} {l : List α} (h : l.length = 6) : ∃ a b c d e f, l = [a, b, c, d, e, f] := by
  obtain _ | ⟨a, l⟩ := l; · simp at h
  obtain _ | ⟨b, l⟩ := l; · simp at h
  obtain _ | ⟨c, l⟩ := l; · simp at h
  obtain _ | ⟨d, l⟩ := l; · simp at h
  obtain _ | ⟨e, l⟩ := l; · simp at h
  obtain _ | ⟨f, l⟩ := l; · simp at h
  obtain _ | ⟨g, l⟩ := l
  · exact ⟨a, b, c, d, e, f, rfl⟩
  · simp at h
theorem open_act {H : Type} {enc : TypeId × Value → H} {W : World} {base : Nat} {sp : Nat → Bool} {v : Value} {d : DataW H} {p : List MemPlace} (hv : Value.okWide Try.prog W .any base 35 v)
    (h : DataW.Trod enc Try.prog W 0 sp true 35 v d p) : ∃ (kd i n o y : Int) (ao : Option Addr) (len cap : Nat), v = .agg #[.int .i64 kd, .int .i64 i, .int .i64 n, .int .u64 o, .int .u64 y, .slice ao len cap] := by
  obtain ⟨cs, rfl, hsz⟩ := okWide_struct Try.underlying35 hv
  rw [cells35] at hsz
  obtain ⟨l⟩ := cs
  obtain ⟨c0, c1, c2, c3, c4, c5, rfl⟩ := list6 (l := l) hsz
  obtain ⟨fuel, hf⟩ := h
  obtain ⟨xs, m, _, hx, _, hlen, hfs⟩ := DataW.trod_struct Try.underlying35 hf
  obtain ⟨y0, y1, y2, y3, y4, y5, rfl⟩ := list6 (l := xs) hlen
  have f0 := hfs 0 _ rfl
  have f1 := hfs 1 _ rfl
  have f2 := hfs 2 _ rfl
  have f3 := hfs 3 _ rfl
  have f4 := hfs 4 _ rfl
  have f5 := hfs 5 _ rfl
  clear hfs hf hx hlen hv
  simp [Value.cells, cellsInt] at f0 f1 f2
  simp [Value.cells, cellsU64] at f3 f4
  simp [Value.cells, cellsSl] at f5
  obtain ⟨kd, e0, _, _⟩ := DataW.trod_int Try.underlying3 f0
  obtain ⟨i, e1, _, _⟩ := DataW.trod_int Try.underlying3 f1
  obtain ⟨n, e2, _, _⟩ := DataW.trod_int Try.underlying3 f2
  obtain ⟨o, e3, _, _⟩ := DataW.trod_int Try.underlying22 f3
  obtain ⟨y, e4, _, _⟩ := DataW.trod_int Try.underlying22 f4
  cases e0; cases e1; cases e2; cases e3; cases e4
  rcases DataW.trod_slice Try.underlying23 f5 with ⟨e5, _⟩ | ⟨a, len, cap, _, _, _, _, e5, _⟩
  · cases e5; exact ⟨kd, i, n, o, y, none, 0, 0, rfl⟩
  · cases e5; exact ⟨kd, i, n, o, y, some a, len, cap, rfl⟩
set_option maxRecDepth 100000 in
theorem lifted (os : Os) (started : os.Started) (H : Type) (enc : TypeId × Value → H) :
    ReturnsInHanded {} Try.checked os 4 .any (Rows.cellNilSpec.pre6 enc Try.prog Try.f4 Rows.cellNilRow.domain false) (Rows.cellNilSpec.post enc Try.prog Try.f4 false true false false) := by
  refine returnsInHanded_of_change (C := Try.checked) own started (by kernel_rfl) Try.func4
    (ChangeSpec.witness6 (enc := enc) (C := Try.checked) false ⟨#[], #[.agg #[.int .i64 0, .int .i64 0, .int .i64 0, .int .u64 0, .int .u64 0, .slice none 0 0]], []⟩ 8 (by kernel_rfl) (by kernel_rfl) (by kernel_rfl) (by kernel_rfl)) ?_
  intro W base args ds gs before hval0 hW hcnd _
  have hval : ∀ (j : Nat) t v, Try.f4.params[j]? = some t → args[j]? = some v → Value.okWide Try.prog W .any base t v := hval0
  have hW' := hW
  obtain ⟨p, q, hA0, hV, rfl, hfz, hnd⟩ := hW
  have hA : DataW.TrodAll enc Try.prog W 0 (fun _ => true) true Try.f4.params.toList args.toList ds p := hA0
  rw [Try.params4] at hA hval
  obtain ⟨v0, d0, rfl, rfl, h0⟩ := trodAll_one hA
  obtain ⟨rfl, rfl⟩ := trodVars_none hV
  have k0 := h0
  have lt0 : ∀ x ∈ p, x.block < W.heap.size := by obtain ⟨m, hm⟩ := k0; exact DataW.trod_lt m _ _ _ hm
  obtain ⟨kd, i, n, o, y, ao, len, cap, rfl⟩ := open_act (hval 0 35 v0 rfl rfl) h0
  clear hA0 hval0
  simp only [List.append_nil] at hW'
  refine (walk kd i n o y ao len cap W).mono fun e W' ⟨he, bel⟩ => ?_
  subst he
  exact ⟨_, rfl, _, _, _, [], _, [], hW', trodAll_mk1 (shut_bool Try.underlying4 _), trodAll_mk1 (Below.trod laidOut (by kernel_rfl) (of_decide_eq_true (by kernel_rfl)) k0 bel lt0), rfl, bel.frame _, fun h => by cases h⟩

theorem over : Rows.cellNilRow.holds Try.pinned (OpenSpec.ofChange Rows.cellNilSpec) :=
  OpenClaim.holds_of_wide 4 Try.f4 rfl rfl rfl rfl rfl rfl rfl ⟨rfl, rfl, rfl, rfl, rfl⟩ rfl rfl rfl rfl rfl (by kernel_rfl) Try.func4 (by kernel_rfl)
    (of_decide_eq_true (by kernel_rfl)) (by unfold Func.isWrapper; first | (rw [if_pos (by decide +kernel)]; kernel_rfl) | (rw [if_neg (by decide +kernel)]; exact ⟨rfl, rfl⟩))
    (fun os started H enc _ => lifted os started H enc)

theorem proved : Rows.CellNilSaid := over
#print axioms proved
end Go.Proofs.Ytehpepmjndfbmaa.cellNil
