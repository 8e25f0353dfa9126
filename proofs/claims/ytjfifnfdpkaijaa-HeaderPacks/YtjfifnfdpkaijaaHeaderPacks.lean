/- Whatever the input, haycroftlaw08.HeaderPacks returns true and changes no argument. Conditions: none. -/
import Derived.Test.YtjfifnfdpkaijaaHe
import Derived.Test.YtjfifnfdpkaijaaHb
import Derived.Test.YtjfifnfdpkaijaaRows
import Derived.WalkKit
import Derived.ProofKit
import Derived.OpenShut
import Derived.ShutString
import Derived.ChangeOld
import Derived.Below
import Derived.ChangeSame
namespace Go.Proofs.Ytjfifnfdpkaijaa.headerPacks
open Go.ChangeShapes Go.WideShapes Go.ChangeAt Go.RowKit
open Go.ChangeMaps (open_string shut_string)
set_option linter.unusedVariables false
theorem own : ownKnob Try.prog.godebug = none := by kernel_rfl
theorem laidOut : laidOutB Try.prog = true := by kernel_rfl

/-- What a call answers. -/
def Says (f : Nat) (a : Value) (e : Ending) : Prop := ∀ w : World, Calls Try.prog f #[a] w fun e' w' => e' = e ∧ Below w.heap.size w w'
theorem both_unpack (n : Nat) (hn : n < 18446744073709551616) : ∃ (q : Nat) (s j : Bool) (e : Int), Says 10 (.int .u64 (n : Int)) (.returned (.tuple #[hdV q s j, .int .i64 e])) ∧ Says 11 (.int .u64 (n : Int)) (.returned (.tuple #[hdV q s j, .int .i64 e])) := by
  by_cases h : n < 1125899906842624
  · exact ⟨_, _, _, _, fun w => unpack_yes n w h, fun w => runpack_yes n w h⟩
  · exact ⟨_, _, _, _, fun w => unpack_no n w hn (by omega), fun w => runpack_no n w hn (by omega)⟩
theorem pack_then (p : Nat) (t i : Bool) (hp : p < 281474976710656) : ∃ x : Nat, x < 1125899906842624 ∧ Says 8 (hdV p t i) (.returned (.tuple #[.int .u64 (x : Int), .int .i64 0])) ∧ Says 9 (hdV p t i) (.returned (.tuple #[.int .u64 (x : Int), .int .i64 0])) ∧
    Says 10 (.int .u64 (x : Int)) (.returned (.tuple #[hdV p t i, .int .i64 0])) := by
  refine ⟨_, packN_lt p t i hp, fun w => pack_yes p t i w hp, fun w => rpack_yes p t i w hp, fun w => ?_⟩
  have u := unpack_yes (packN p t i) w (packN_lt p t i hp)
  rw [prev_of p t i hp, tomb_of p t i hp, invalid_of p t i hp] at u
  exact u
set_option maxHeartbeats 1000000 in
theorem walk_yes (p : Nat) (t i : Bool) (n : Nat) (hp : p < 281474976710656) (hn : n < 18446744073709551616) (w : World) :
    Calls Try.prog 3 #[hdV p t i, .int .u64 (n : Int)] w fun e w' => e = .returned (.bool true) ∧ Below w.heap.size w w' := by
  obtain ⟨x, hx, P1, P2, U⟩ := pack_then p t i hp
  obtain ⟨q, s, j, e, U1, U2⟩ := both_unpack n hn
  replace P1 := hide P1
  replace P2 := hide P2
  replace U := hide U
  replace U1 := hide U1
  replace U2 := hide U2
  have ex : ((x : Int) != (x : Int)) = false := by simp
  simp only [hdV] at P1 P2 U U1 U2 ⊢
  go_enter Try.func3, Try.ntmps3
  go_wp2_with fail
  refine (awake_any _).mono ?_
  rintro e x1 ⟨rfl, b1⟩
  obtain ⟨d0, d1, d2⟩ := cell_arg b1
  have hb : Below w.heap.size w x1 := ((Below.refl _ w).alloc (Nat.le_refl _) _).trans (b1.mono (by simp))
  have hsz : w.heap.size < x1.heap.size := World.block_lt_of_cell? x1 _ d0
  clear b1
  go_wp2_with fail
  refine (P1.out _).mono ?_
  rintro e x2 ⟨rfl, b2⟩
  replace d0 := (b2.cell hsz).trans d0
  replace d1 := (b2.cell (p := ⟨w.heap.size, 1, none⟩) hsz).trans d1
  replace d2 := (b2.cell (p := ⟨w.heap.size, 2, none⟩) hsz).trans d2
  replace hsz := Nat.lt_of_lt_of_le hsz b2.size
  replace hb := hb.trans (b2.mono hb.size)
  clear b2
  go_wp2_with fail
  refine (P2.out _).mono ?_
  rintro e x3 ⟨rfl, b2⟩
  replace d0 := (b2.cell hsz).trans d0
  replace d1 := (b2.cell (p := ⟨w.heap.size, 1, none⟩) hsz).trans d1
  replace d2 := (b2.cell (p := ⟨w.heap.size, 2, none⟩) hsz).trans d2
  replace hsz := Nat.lt_of_lt_of_le hsz b2.size
  replace hb := hb.trans (b2.mono hb.size)
  clear b2
  go_wp2_with fail
  refine (U.out _).mono ?_
  rintro e x4 ⟨rfl, b2⟩
  replace d0 := (b2.cell hsz).trans d0
  replace d1 := (b2.cell (p := ⟨w.heap.size, 1, none⟩) hsz).trans d1
  replace d2 := (b2.cell (p := ⟨w.heap.size, 2, none⟩) hsz).trans d2
  replace hsz := Nat.lt_of_lt_of_le hsz b2.size
  replace hb := hb.trans (b2.mono hb.size)
  clear b2
  replace hb := hb.alloc hb.size (.cells #[.int .u64 (p : Int), .bool t, .bool i] 24)
  go_wp2_with fail
  refine (U1.out _).mono ?_
  rintro e x5 ⟨rfl, b5⟩
  replace hb := hb.trans (b5.mono hb.size)
  clear b5
  go_wp2_with fail
  refine (U2.out _).mono ?_
  rintro e x6 ⟨rfl, b6⟩
  obtain ⟨g0, g1, g2⟩ := cell_arg b6
  replace hb := hb.trans ((((Below.refl _ x5).alloc (Nat.le_refl _) _).trans (b6.mono (by simp))).mono hb.size)
  have g0' := cell_alloc g0 (.cells #[.int .u64 (q : Int), .bool s, .bool j] 24)
  have g1' := cell_alloc g1 (.cells #[.int .u64 (q : Int), .bool s, .bool j] 24)
  have g2' := cell_alloc g2 (.cells #[.int .u64 (q : Int), .bool s, .bool j] 24)
  have hsz6 : x5.heap.size < x6.heap.size := World.block_lt_of_cell? x6 _ g0
  clear b6
  go_wp2
  go_ret
  exact ⟨ret_bool (by simp), hb.alloc hb.size _⟩
set_option maxHeartbeats 1000000 in
theorem walk_no (p : Nat) (t i : Bool) (n : Nat) (hp : 281474976710656 ≤ p) (hn : n < 18446744073709551616) (w : World) :
    Calls Try.prog 3 #[hdV p t i, .int .u64 (n : Int)] w fun e w' => e = .returned (.bool true) ∧ Below w.heap.size w w' := by
  have P1 : Says 8 (hdV p t i) (.returned (.tuple #[.int .u64 0, .int .i64 1])) := fun w => pack_no p t i w hp
  have P2 : Says 9 (hdV p t i) (.returned (.tuple #[.int .u64 0, .int .i64 1])) := fun w => rpack_no p t i w hp
  obtain ⟨q, s, j, e, U1, U2⟩ := both_unpack n hn
  replace P1 := hide P1
  replace P2 := hide P2
  replace U1 := hide U1
  replace U2 := hide U2
  simp only [hdV] at P1 P2 U1 U2 ⊢
  go_enter Try.func3, Try.ntmps3
  go_wp2_with fail
  refine (awake_any _).mono ?_
  rintro e x1 ⟨rfl, b1⟩
  obtain ⟨d0, d1, d2⟩ := cell_arg b1
  have hb : Below w.heap.size w x1 := ((Below.refl _ w).alloc (Nat.le_refl _) _).trans (b1.mono (by simp))
  have hsz : w.heap.size < x1.heap.size := World.block_lt_of_cell? x1 _ d0
  clear b1
  go_wp2_with fail
  refine (P1.out _).mono ?_
  rintro e x2 ⟨rfl, b2⟩
  replace d0 := (b2.cell hsz).trans d0
  replace d1 := (b2.cell (p := ⟨w.heap.size, 1, none⟩) hsz).trans d1
  replace d2 := (b2.cell (p := ⟨w.heap.size, 2, none⟩) hsz).trans d2
  replace hsz := Nat.lt_of_lt_of_le hsz b2.size
  replace hb := hb.trans (b2.mono hb.size)
  clear b2
  go_wp2_with fail
  refine (P2.out _).mono ?_
  rintro e x3 ⟨rfl, b2⟩
  replace d0 := (b2.cell hsz).trans d0
  replace d1 := (b2.cell (p := ⟨w.heap.size, 1, none⟩) hsz).trans d1
  replace d2 := (b2.cell (p := ⟨w.heap.size, 2, none⟩) hsz).trans d2
  replace hsz := Nat.lt_of_lt_of_le hsz b2.size
  replace hb := hb.trans (b2.mono hb.size)
  clear b2
  go_wp2_with fail
  refine (U1.out _).mono ?_
  rintro e x5 ⟨rfl, b5⟩
  replace hb := hb.trans (b5.mono hb.size)
  clear b5
  go_wp2_with fail
  refine (U2.out _).mono ?_
  rintro e x6 ⟨rfl, b6⟩
  obtain ⟨g0, g1, g2⟩ := cell_arg b6
  replace hb := hb.trans ((((Below.refl _ x5).alloc (Nat.le_refl _) _).trans (b6.mono (by simp))).mono hb.size)
  have g0' := cell_alloc g0 (.cells #[.int .u64 (q : Int), .bool s, .bool j] 24)
  have g1' := cell_alloc g1 (.cells #[.int .u64 (q : Int), .bool s, .bool j] 24)
  have g2' := cell_alloc g2 (.cells #[.int .u64 (q : Int), .bool s, .bool j] 24)
  have hsz6 : x5.heap.size < x6.heap.size := World.block_lt_of_cell? x6 _ g0
  clear b6
  go_wp2
  go_ret
  exact ⟨ret_bool (by simp), hb.alloc hb.size _⟩
theorem walk (w : World) (v : Value) (o : IsHd v) (a1 : Int) (w1 : (Lit.int .u64 a1).wf = true) :
    Calls Try.prog 3 #[v, .int .u64 a1] w fun e w' => e = .returned (.bool true) ∧ Below w.heap.size w w' := by
  obtain ⟨n, rfl, hn⟩ := nat_of_wf w1
  obtain ⟨p, t, i, hp, rfl⟩ := o
  by_cases h : p < 281474976710656
  · exact walk_yes p t i n h hn w
  · exact walk_no p t i n (by omega) hn w

set_option maxRecDepth 100000 in
theorem lifted (os : Os) (started : os.Started) (H : Type) (enc : TypeId × Value → H) :
    ReturnsInHanded {} Try.checked os 3 .any (Rows.headerPacksSpec.pre6 enc Try.prog Try.f3 Rows.headerPacksRow.domain false) (Rows.headerPacksSpec.post enc Try.prog Try.f3 false true false false) := by
  refine returnsInHanded_of_change (C := Try.checked) own started (by kernel_rfl) Try.func3
    (ChangeSpec.witness6 (enc := enc) (C := Try.checked) false ⟨#[], #[.agg #[.int .u64 0, .bool false, .bool false], .int .u64 0], []⟩ 8 (by kernel_rfl) (by kernel_rfl) (by kernel_rfl) (by kernel_rfl)) ?_
  intro W base args ds gs before hval0 hW hcnd _
  have hval : ∀ (j : Nat) t v, Try.f3.params[j]? = some t → args[j]? = some v → Value.okWide Try.prog W .any base t v := hval0
  have hW' := hW
  obtain ⟨p, q, hA0, hV, rfl, hfz, hnd⟩ := hW
  have hA : DataW.TrodAll enc Try.prog W 0 (fun _ => true) true Try.f3.params.toList args.toList ds p := hA0
  rw [Try.params3] at hA hval
  obtain ⟨v0, vs0, d0, ds0, p0, q0, hargs, rfl, rfl, h0, r0⟩ := trodAll_cons hA
  obtain ⟨v1, vs1, d1, ds1, p1, q1, rfl, rfl, rfl, h1, r1⟩ := trodAll_cons r0
  obtain ⟨rfl, rfl, rfl⟩ := trodAll_nil r1
  obtain rfl : args = #[v0, v1] := by cases args; simp_all
  obtain ⟨rfl, rfl⟩ := trodVars_none hV
  have k0 := h0
  have lt0 : ∀ x ∈ p0, x.block < W.heap.size := by obtain ⟨m, hm⟩ := k0; exact DataW.trod_lt m _ _ _ hm
  have o0 := open_header (hval 0 24 v0 rfl rfl) h0
  obtain ⟨a1, rfl, rfl, rfl, w1⟩ := open_int Try.underlying22 (hval 1 22 v1 rfl rfl) h1
  clear hA0 hval0
  refine (walk W v0 o0 a1 w1).mono fun e W' ⟨he, bel⟩ => ?_
  subst he
  exact ⟨_, rfl, _, _, _, [], _, [], hW', trodAll_mk1 (shut_bool Try.underlying4 _), (trodAll_cons_mk (Below.trod laidOut (by kernel_rfl) (of_decide_eq_true (by kernel_rfl)) k0 bel lt0) (trodAll_cons_mk (shut_int Try.underlying22 w1) trodAll_mk0)), rfl, bel.frame _, fun h => by cases h⟩

theorem over : Rows.headerPacksRow.holds Try.pinned (OpenSpec.ofChange Rows.headerPacksSpec) :=
  OpenClaim.holds_of_wide 3 Try.f3 rfl rfl rfl rfl rfl rfl rfl ⟨rfl, rfl, rfl, rfl, rfl⟩ rfl rfl rfl rfl rfl (by kernel_rfl) Try.func3 (by kernel_rfl)
    (of_decide_eq_true (by kernel_rfl)) (by unfold Func.isWrapper; first | (rw [if_pos (by decide +kernel)]; kernel_rfl) | (rw [if_neg (by decide +kernel)]; exact ⟨rfl, rfl⟩))
    (fun os started H enc _ => lifted os started H enc)

theorem proved : Rows.HeaderPacksSaid := over
#print axioms proved

end Go.Proofs.Ytjfifnfdpkaijaa.headerPacks
