/- Whatever the input, haycroftlaw17.IndexNil returns true and changes no argument. Conditions: none. -/
import Derived.Test.YtmpnbaiolmkhlaaJ6
import Derived.Test.YtmpnbaiolmkhlaaIu
import Derived.Test.YtmpnbaiolmkhlaaRows
import Derived.WalkKit
import Derived.ProofKit
import Derived.OpenShut
import Derived.ShutString
import Derived.ChangeOld
import Derived.Below
import Derived.ChangeSame
namespace Go.Proofs.Ytmpnbaiolmkhlaa.indexNil
set_option maxRecDepth 20000
open Go.ChangeShapes Go.WideShapes Go.ChangeAt Go.RowKit
open Go.ChangeMaps (open_string shut_string)
set_option linter.unusedVariables false
theorem own : ownKnob Try.prog.godebug = none := by kernel_rfl
theorem laidOut : laidOutB Try.prog = true := by kernel_rfl

set_option maxHeartbeats 2000000 in
theorem walk (w : World) (v : Value) (o : IsAx w v) (u : Value) (o2 : IsSl w u) :
    Calls Try.prog 4 #[v, u] w fun e w' => e = .returned (.bool true) ∧ Below w.heap.size w w' := by
  obtain ⟨⟨kd, hN, sl, old, mi, ad, bk, sp⟩, -, rfl⟩ := o
  obtain ⟨ao, n, cap, rfl⟩ := o2
  simp only
  go_enter Try.func4, Try.ntmps4
  go_wp2_with fail
  refine (awake17 pxProg _).mono ?_
  rintro e x1 ⟨rfl, bb⟩
  have hb : Below w.heap.size w x1 := ((Below.refl _ w).alloc (Nat.le_refl _) _).trans (bb.mono (by simp))
  have a1 : x1.cell? ⟨w.heap.size, 1, none⟩ = some (.int .u64 hN) := by rw [bb.cell (by simp)]; simp
  have a2 : x1.cell? ⟨w.heap.size, 2, none⟩ = some (.int .i64 sl) := by rw [bb.cell (by simp)]; simp
  have a3 : x1.cell? ⟨w.heap.size, 3, none⟩ = some (.int .u64 old) := by rw [bb.cell (by simp)]; simp
  have a5 : x1.cell? ⟨w.heap.size, 5, none⟩ = some (.int .u64 ad) := by rw [bb.cell (by simp)]; simp
  have a6 : x1.cell? ⟨w.heap.size, 6, none⟩ = some (.int .i64 bk) := by rw [bb.cell (by simp)]; simp
  have a7 : x1.cell? ⟨w.heap.size, 7, none⟩ = some (.int .i64 sp) := by rw [bb.cell (by simp)]; simp
  have hsz : w.heap.size < x1.heap.size := World.block_lt_of_cell? _ _ a1
  clear bb
  go_wp2_with fail
  refine (xn_look hN _).mono ?_
  rintro e x2 ⟨rfl, bb⟩
  replace hb := hb.trans (bb.mono hb.size)
  replace a1 := (bb.cell (p := ⟨w.heap.size, 1, none⟩) hsz).trans a1
  replace a2 := (bb.cell (p := ⟨w.heap.size, 2, none⟩) hsz).trans a2
  replace a3 := (bb.cell (p := ⟨w.heap.size, 3, none⟩) hsz).trans a3
  replace a5 := (bb.cell (p := ⟨w.heap.size, 5, none⟩) hsz).trans a5
  replace a6 := (bb.cell (p := ⟨w.heap.size, 6, none⟩) hsz).trans a6
  replace a7 := (bb.cell (p := ⟨w.heap.size, 7, none⟩) hsz).trans a7
  replace hsz := Nat.lt_of_lt_of_le hsz bb.size
  clear bb
  have l0 : (x2.alloc (.cells #[.int .i64 0, .int .i64 0, .int .u64 0, .int .i64 0] 46)).cell? ⟨x2.heap.size, 0, none⟩ = some (.int .i64 0) := by simp
  have l1 : (x2.alloc (.cells #[.int .i64 0, .int .i64 0, .int .u64 0, .int .i64 0] 46)).cell? ⟨x2.heap.size, 1, none⟩ = some (.int .i64 0) := by simp
  have l2 : (x2.alloc (.cells #[.int .i64 0, .int .i64 0, .int .u64 0, .int .i64 0] 46)).cell? ⟨x2.heap.size, 2, none⟩ = some (.int .u64 0) := by simp
  have l3 : (x2.alloc (.cells #[.int .i64 0, .int .i64 0, .int .u64 0, .int .i64 0] 46)).cell? ⟨x2.heap.size, 3, none⟩ = some (.int .i64 0) := by simp
  have hq : x2.heap.size < (x2.alloc (.cells #[.int .i64 0, .int .i64 0, .int .u64 0, .int .i64 0] 46)).heap.size := World.block_lt_of_cell? _ _ l0
  have hb3 := (Below.refl x2.heap.size x2).alloc (Nat.le_refl _) (.cells #[.int .i64 0, .int .i64 0, .int .u64 0, .int .i64 0] 46)
  replace a1 := cell_alloc a1 (.cells #[.int .i64 0, .int .i64 0, .int .u64 0, .int .i64 0] 46)
  replace a2 := cell_alloc a2 (.cells #[.int .i64 0, .int .i64 0, .int .u64 0, .int .i64 0] 46)
  replace a3 := cell_alloc a3 (.cells #[.int .i64 0, .int .i64 0, .int .u64 0, .int .i64 0] 46)
  replace a5 := cell_alloc a5 (.cells #[.int .i64 0, .int .i64 0, .int .u64 0, .int .i64 0] 46)
  replace a6 := cell_alloc a6 (.cells #[.int .i64 0, .int .i64 0, .int .u64 0, .int .i64 0] 46)
  replace a7 := cell_alloc a7 (.cells #[.int .i64 0, .int .i64 0, .int .u64 0, .int .i64 0] 46)
  replace hsz := Nat.lt_of_lt_of_le hsz hb3.size
  replace hb := hb.alloc hb.size (.cells #[.int .i64 0, .int .i64 0, .int .u64 0, .int .i64 0] 46)
  clear hb3
  go_wp2_with fail
  generalize x2.alloc (.cells #[.int .i64 0, .int .i64 0, .int .u64 0, .int .i64 0] 46) = X at *
  refine (xn_claim sl hN _).mono ?_
  rintro e x3 ⟨rfl, bb⟩
  replace hb := hb.trans (bb.mono hb.size)
  replace a1 := (bb.cell (p := ⟨w.heap.size, 1, none⟩) hsz).trans a1
  replace a2 := (bb.cell (p := ⟨w.heap.size, 2, none⟩) hsz).trans a2
  replace a3 := (bb.cell (p := ⟨w.heap.size, 3, none⟩) hsz).trans a3
  replace a5 := (bb.cell (p := ⟨w.heap.size, 5, none⟩) hsz).trans a5
  replace a6 := (bb.cell (p := ⟨w.heap.size, 6, none⟩) hsz).trans a6
  replace a7 := (bb.cell (p := ⟨w.heap.size, 7, none⟩) hsz).trans a7
  replace l0 := (bb.cell (p := ⟨x2.heap.size, 0, none⟩) hq).trans l0
  replace l1 := (bb.cell (p := ⟨x2.heap.size, 1, none⟩) hq).trans l1
  replace l2 := (bb.cell (p := ⟨x2.heap.size, 2, none⟩) hq).trans l2
  replace l3 := (bb.cell (p := ⟨x2.heap.size, 3, none⟩) hq).trans l3
  replace hsz := Nat.lt_of_lt_of_le hsz bb.size
  replace hq := Nat.lt_of_lt_of_le hq bb.size
  clear bb
  go_wp2_with fail
  refine (xn_turn sl old ad _).mono ?_
  rintro e x4 ⟨rfl, bb⟩
  replace hb := hb.trans (bb.mono hb.size)
  replace a1 := (bb.cell (p := ⟨w.heap.size, 1, none⟩) hsz).trans a1
  replace a2 := (bb.cell (p := ⟨w.heap.size, 2, none⟩) hsz).trans a2
  replace a3 := (bb.cell (p := ⟨w.heap.size, 3, none⟩) hsz).trans a3
  replace a5 := (bb.cell (p := ⟨w.heap.size, 5, none⟩) hsz).trans a5
  replace a6 := (bb.cell (p := ⟨w.heap.size, 6, none⟩) hsz).trans a6
  replace a7 := (bb.cell (p := ⟨w.heap.size, 7, none⟩) hsz).trans a7
  replace l0 := (bb.cell (p := ⟨x2.heap.size, 0, none⟩) hq).trans l0
  replace l1 := (bb.cell (p := ⟨x2.heap.size, 1, none⟩) hq).trans l1
  replace l2 := (bb.cell (p := ⟨x2.heap.size, 2, none⟩) hq).trans l2
  replace l3 := (bb.cell (p := ⟨x2.heap.size, 3, none⟩) hq).trans l3
  replace hsz := Nat.lt_of_lt_of_le hsz bb.size
  replace hq := Nat.lt_of_lt_of_le hq bb.size
  clear bb
  go_wp2_with fail
  refine (xn_spare _).mono ?_
  rintro e x5 ⟨rfl, bb⟩
  replace hb := hb.trans (bb.mono hb.size)
  replace a1 := (bb.cell (p := ⟨w.heap.size, 1, none⟩) hsz).trans a1
  replace a2 := (bb.cell (p := ⟨w.heap.size, 2, none⟩) hsz).trans a2
  replace a3 := (bb.cell (p := ⟨w.heap.size, 3, none⟩) hsz).trans a3
  replace a5 := (bb.cell (p := ⟨w.heap.size, 5, none⟩) hsz).trans a5
  replace a6 := (bb.cell (p := ⟨w.heap.size, 6, none⟩) hsz).trans a6
  replace a7 := (bb.cell (p := ⟨w.heap.size, 7, none⟩) hsz).trans a7
  replace l0 := (bb.cell (p := ⟨x2.heap.size, 0, none⟩) hq).trans l0
  replace l1 := (bb.cell (p := ⟨x2.heap.size, 1, none⟩) hq).trans l1
  replace l2 := (bb.cell (p := ⟨x2.heap.size, 2, none⟩) hq).trans l2
  replace l3 := (bb.cell (p := ⟨x2.heap.size, 3, none⟩) hq).trans l3
  replace hsz := Nat.lt_of_lt_of_le hsz bb.size
  replace hq := Nat.lt_of_lt_of_le hq bb.size
  clear bb
  go_wp2_with fail
  refine (xn_link bk sp _).mono ?_
  rintro e x6 ⟨rfl, bb⟩
  replace hb := hb.trans (bb.mono hb.size)
  replace a1 := (bb.cell (p := ⟨w.heap.size, 1, none⟩) hsz).trans a1
  replace a2 := (bb.cell (p := ⟨w.heap.size, 2, none⟩) hsz).trans a2
  replace a3 := (bb.cell (p := ⟨w.heap.size, 3, none⟩) hsz).trans a3
  replace a5 := (bb.cell (p := ⟨w.heap.size, 5, none⟩) hsz).trans a5
  replace a6 := (bb.cell (p := ⟨w.heap.size, 6, none⟩) hsz).trans a6
  replace a7 := (bb.cell (p := ⟨w.heap.size, 7, none⟩) hsz).trans a7
  replace l0 := (bb.cell (p := ⟨x2.heap.size, 0, none⟩) hq).trans l0
  replace l1 := (bb.cell (p := ⟨x2.heap.size, 1, none⟩) hq).trans l1
  replace l2 := (bb.cell (p := ⟨x2.heap.size, 2, none⟩) hq).trans l2
  replace l3 := (bb.cell (p := ⟨x2.heap.size, 3, none⟩) hq).trans l3
  replace hsz := Nat.lt_of_lt_of_le hsz bb.size
  replace hq := Nat.lt_of_lt_of_le hq bb.size
  clear bb
  go_wp2_with fail
  refine (xn_counts _).mono ?_
  rintro e x7 ⟨rfl, bb⟩
  replace hb := hb.trans (bb.mono hb.size)
  replace a1 := (bb.cell (p := ⟨w.heap.size, 1, none⟩) hsz).trans a1
  replace a2 := (bb.cell (p := ⟨w.heap.size, 2, none⟩) hsz).trans a2
  replace a3 := (bb.cell (p := ⟨w.heap.size, 3, none⟩) hsz).trans a3
  replace a5 := (bb.cell (p := ⟨w.heap.size, 5, none⟩) hsz).trans a5
  replace a6 := (bb.cell (p := ⟨w.heap.size, 6, none⟩) hsz).trans a6
  replace a7 := (bb.cell (p := ⟨w.heap.size, 7, none⟩) hsz).trans a7
  replace l0 := (bb.cell (p := ⟨x2.heap.size, 0, none⟩) hq).trans l0
  replace l1 := (bb.cell (p := ⟨x2.heap.size, 1, none⟩) hq).trans l1
  replace l2 := (bb.cell (p := ⟨x2.heap.size, 2, none⟩) hq).trans l2
  replace l3 := (bb.cell (p := ⟨x2.heap.size, 3, none⟩) hq).trans l3
  replace hsz := Nat.lt_of_lt_of_le hsz bb.size
  replace hq := Nat.lt_of_lt_of_le hq bb.size
  clear bb
  go_wp2_with fail
  refine (xn_load sl _).mono ?_
  rintro e y1 ⟨rfl, bb⟩
  replace hb := hb.trans (bb.mono hb.size)
  replace a1 := (bb.cell (p := ⟨w.heap.size, 1, none⟩) hsz).trans a1
  replace a2 := (bb.cell (p := ⟨w.heap.size, 2, none⟩) hsz).trans a2
  replace a3 := (bb.cell (p := ⟨w.heap.size, 3, none⟩) hsz).trans a3
  replace a5 := (bb.cell (p := ⟨w.heap.size, 5, none⟩) hsz).trans a5
  replace a6 := (bb.cell (p := ⟨w.heap.size, 6, none⟩) hsz).trans a6
  replace a7 := (bb.cell (p := ⟨w.heap.size, 7, none⟩) hsz).trans a7
  replace l0 := (bb.cell (p := ⟨x2.heap.size, 0, none⟩) hq).trans l0
  replace l1 := (bb.cell (p := ⟨x2.heap.size, 1, none⟩) hq).trans l1
  replace l2 := (bb.cell (p := ⟨x2.heap.size, 2, none⟩) hq).trans l2
  replace l3 := (bb.cell (p := ⟨x2.heap.size, 3, none⟩) hq).trans l3
  replace hsz := Nat.lt_of_lt_of_le hsz bb.size
  replace hq := Nat.lt_of_lt_of_le hq bb.size
  clear bb
  go_wp2_with fail
  refine (xn_chain bk _).mono ?_
  rintro e y2 ⟨⟨_, _, rfl⟩, bb⟩
  replace hb := hb.trans (bb.mono hb.size)
  replace a1 := (bb.cell (p := ⟨w.heap.size, 1, none⟩) hsz).trans a1
  replace a2 := (bb.cell (p := ⟨w.heap.size, 2, none⟩) hsz).trans a2
  replace a3 := (bb.cell (p := ⟨w.heap.size, 3, none⟩) hsz).trans a3
  replace a5 := (bb.cell (p := ⟨w.heap.size, 5, none⟩) hsz).trans a5
  replace a6 := (bb.cell (p := ⟨w.heap.size, 6, none⟩) hsz).trans a6
  replace a7 := (bb.cell (p := ⟨w.heap.size, 7, none⟩) hsz).trans a7
  replace l0 := (bb.cell (p := ⟨x2.heap.size, 0, none⟩) hq).trans l0
  replace l1 := (bb.cell (p := ⟨x2.heap.size, 1, none⟩) hq).trans l1
  replace l2 := (bb.cell (p := ⟨x2.heap.size, 2, none⟩) hq).trans l2
  replace l3 := (bb.cell (p := ⟨x2.heap.size, 3, none⟩) hq).trans l3
  replace hsz := Nat.lt_of_lt_of_le hsz bb.size
  replace hq := Nat.lt_of_lt_of_le hq bb.size
  clear bb
  go_wp2_with fail
  refine (xn_entries _).mono ?_
  rintro e y3 ⟨⟨_, _, rfl⟩, bb⟩
  replace hb := hb.trans (bb.mono hb.size)
  replace a1 := (bb.cell (p := ⟨w.heap.size, 1, none⟩) hsz).trans a1
  replace a2 := (bb.cell (p := ⟨w.heap.size, 2, none⟩) hsz).trans a2
  replace a3 := (bb.cell (p := ⟨w.heap.size, 3, none⟩) hsz).trans a3
  replace a5 := (bb.cell (p := ⟨w.heap.size, 5, none⟩) hsz).trans a5
  replace a6 := (bb.cell (p := ⟨w.heap.size, 6, none⟩) hsz).trans a6
  replace a7 := (bb.cell (p := ⟨w.heap.size, 7, none⟩) hsz).trans a7
  replace l0 := (bb.cell (p := ⟨x2.heap.size, 0, none⟩) hq).trans l0
  replace l1 := (bb.cell (p := ⟨x2.heap.size, 1, none⟩) hq).trans l1
  replace l2 := (bb.cell (p := ⟨x2.heap.size, 2, none⟩) hq).trans l2
  replace l3 := (bb.cell (p := ⟨x2.heap.size, 3, none⟩) hq).trans l3
  replace hsz := Nat.lt_of_lt_of_le hsz bb.size
  replace hq := Nat.lt_of_lt_of_le hq bb.size
  clear bb
  go_wp2_with fail
  refine (xn_words _).mono ?_
  rintro e y4 ⟨⟨_, _, rfl⟩, bb⟩
  replace hb := hb.trans (bb.mono hb.size)
  replace a1 := (bb.cell (p := ⟨w.heap.size, 1, none⟩) hsz).trans a1
  replace a2 := (bb.cell (p := ⟨w.heap.size, 2, none⟩) hsz).trans a2
  replace a3 := (bb.cell (p := ⟨w.heap.size, 3, none⟩) hsz).trans a3
  replace a5 := (bb.cell (p := ⟨w.heap.size, 5, none⟩) hsz).trans a5
  replace a6 := (bb.cell (p := ⟨w.heap.size, 6, none⟩) hsz).trans a6
  replace a7 := (bb.cell (p := ⟨w.heap.size, 7, none⟩) hsz).trans a7
  replace l0 := (bb.cell (p := ⟨x2.heap.size, 0, none⟩) hq).trans l0
  replace l1 := (bb.cell (p := ⟨x2.heap.size, 1, none⟩) hq).trans l1
  replace l2 := (bb.cell (p := ⟨x2.heap.size, 2, none⟩) hq).trans l2
  replace l3 := (bb.cell (p := ⟨x2.heap.size, 3, none⟩) hq).trans l3
  replace hsz := Nat.lt_of_lt_of_le hsz bb.size
  replace hq := Nat.lt_of_lt_of_le hq bb.size
  clear bb
  go_wp2_with fail
  refine (xn_fill ao n cap _).mono ?_
  rintro e y5 ⟨rfl, bb⟩
  replace hb := hb.trans (bb.mono hb.size)
  replace a1 := (bb.cell (p := ⟨w.heap.size, 1, none⟩) hsz).trans a1
  replace a2 := (bb.cell (p := ⟨w.heap.size, 2, none⟩) hsz).trans a2
  replace a3 := (bb.cell (p := ⟨w.heap.size, 3, none⟩) hsz).trans a3
  replace a5 := (bb.cell (p := ⟨w.heap.size, 5, none⟩) hsz).trans a5
  replace a6 := (bb.cell (p := ⟨w.heap.size, 6, none⟩) hsz).trans a6
  replace a7 := (bb.cell (p := ⟨w.heap.size, 7, none⟩) hsz).trans a7
  replace l0 := (bb.cell (p := ⟨x2.heap.size, 0, none⟩) hq).trans l0
  replace l1 := (bb.cell (p := ⟨x2.heap.size, 1, none⟩) hq).trans l1
  replace l2 := (bb.cell (p := ⟨x2.heap.size, 2, none⟩) hq).trans l2
  replace l3 := (bb.cell (p := ⟨x2.heap.size, 3, none⟩) hq).trans l3
  replace hsz := Nat.lt_of_lt_of_le hsz bb.size
  replace hq := Nat.lt_of_lt_of_le hq bb.size
  clear bb
  go_wp2_with fail
  refine (xn_drop _).mono ?_
  rintro e y6 ⟨rfl, bb⟩
  replace hb := hb.trans (bb.mono hb.size)
  replace a1 := (bb.cell (p := ⟨w.heap.size, 1, none⟩) hsz).trans a1
  replace a2 := (bb.cell (p := ⟨w.heap.size, 2, none⟩) hsz).trans a2
  replace a3 := (bb.cell (p := ⟨w.heap.size, 3, none⟩) hsz).trans a3
  replace a5 := (bb.cell (p := ⟨w.heap.size, 5, none⟩) hsz).trans a5
  replace a6 := (bb.cell (p := ⟨w.heap.size, 6, none⟩) hsz).trans a6
  replace a7 := (bb.cell (p := ⟨w.heap.size, 7, none⟩) hsz).trans a7
  replace l0 := (bb.cell (p := ⟨x2.heap.size, 0, none⟩) hq).trans l0
  replace l1 := (bb.cell (p := ⟨x2.heap.size, 1, none⟩) hq).trans l1
  replace l2 := (bb.cell (p := ⟨x2.heap.size, 2, none⟩) hq).trans l2
  replace l3 := (bb.cell (p := ⟨x2.heap.size, 3, none⟩) hq).trans l3
  replace hsz := Nat.lt_of_lt_of_le hsz bb.size
  replace hq := Nat.lt_of_lt_of_le hq bb.size
  clear bb
  have HB := hide hb
  go_wp2
  go_ret
  exact ⟨rfl, HB.out⟩

set_option maxRecDepth 100000 in
theorem lifted (os : Os) (started : os.Started) (H : Type) (enc : TypeId × Value → H) :
    ReturnsInHanded {} Try.checked os 4 .any (Rows.indexNilSpec.pre6 enc Try.prog Try.f4 Rows.indexNilRow.domain false) (Rows.indexNilSpec.post enc Try.prog Try.f4 false true false false) := by
  refine returnsInHanded_of_change (C := Try.checked) own started (by kernel_rfl) Try.func4
    (ChangeSpec.witness6 (enc := enc) (C := Try.checked) false ⟨#[], #[.agg #[.int .i64 0, .int .u64 0, .int .i64 0, .int .u64 0, .bool false, .int .u64 0, .int .i64 0, .int .i64 0], .slice none 0 0], []⟩ 8 (by kernel_rfl) (by kernel_rfl) (by kernel_rfl) (by kernel_rfl)) ?_
  intro W base args ds gs before hval0 hW hcnd _
  have hval : ∀ (j : Nat) t v, Try.f4.params[j]? = some t → args[j]? = some v → Value.okWide Try.prog W .any base t v := hval0
  have hW' := hW
  obtain ⟨p, q, hA0, hV, rfl, hfz, hnd⟩ := hW
  have hA : DataW.TrodAll enc Try.prog W 0 (fun _ => true) true Try.f4.params.toList args.toList ds p := hA0
  rw [Try.params4] at hA hval
  obtain ⟨v0, vs0, d0, ds0, p0, q0, hargs, rfl, rfl, h0, r0⟩ := trodAll_cons hA
  obtain ⟨v1, vs1, d1, ds1, p1, q1, rfl, rfl, rfl, h1, r1⟩ := trodAll_cons r0
  obtain ⟨rfl, rfl, rfl⟩ := trodAll_nil r1
  obtain rfl : args = #[v0, v1] := by cases args; simp_all
  obtain ⟨rfl, rfl⟩ := trodVars_none hV
  have k0 := h0
  have lt0 : ∀ x ∈ p0, x.block < W.heap.size := by obtain ⟨m, hm⟩ := k0; exact DataW.trod_lt m _ _ _ hm
  have o0 := open_Ax (hval 0 34 v0 rfl rfl) h0
  have k1 := h1
  have lt1 : ∀ x ∈ p1, x.block < W.heap.size := by obtain ⟨m, hm⟩ := k1; exact DataW.trod_lt m _ _ _ hm
  have o1 := open_slW (hval 1 37 v1 rfl rfl) h1
  clear hA0 hval0
  refine (walk W v0 o0 v1 o1).mono fun e W' ⟨he, bel⟩ => ?_
  subst he
  exact ⟨_, rfl, _, _, _, [], _, [], hW', trodAll_mk1 (shut_bool Try.underlying4 _), (trodAll_cons_mk (Below.trod laidOut (by kernel_rfl) (of_decide_eq_true (by kernel_rfl)) k0 bel lt0) (trodAll_cons_mk (Below.trod laidOut (by kernel_rfl) (of_decide_eq_true (by kernel_rfl)) k1 bel lt1) trodAll_mk0)), rfl, bel.frame _, fun h => by cases h⟩

theorem over : Rows.indexNilRow.holds Try.pinned (OpenSpec.ofChange Rows.indexNilSpec) :=
  OpenClaim.holds_of_wide 4 Try.f4 rfl rfl rfl rfl rfl rfl rfl ⟨rfl, rfl, rfl, rfl, rfl⟩ rfl rfl rfl rfl rfl (by kernel_rfl) Try.func4 (by kernel_rfl)
    (of_decide_eq_true (by kernel_rfl)) (by unfold Func.isWrapper; first | (rw [if_pos (by decide +kernel)]; kernel_rfl) | (rw [if_neg (by decide +kernel)]; exact ⟨rfl, rfl⟩))
    (fun os started H enc _ => lifted os started H enc)

theorem proved : Rows.IndexNilSaid := over
#print axioms proved

end Go.Proofs.Ytmpnbaiolmkhlaa.indexNil
