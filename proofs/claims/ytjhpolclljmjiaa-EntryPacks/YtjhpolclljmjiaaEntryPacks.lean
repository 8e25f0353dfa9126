/- Whatever the input, haycroftlaw16.EntryPacks returns true and changes no argument. Conditions: none. -/
import Derived.Test.YtjhpolclljmjiaaNf
import Derived.Test.YtjhpolclljmjiaaRows
import Derived.WalkKit
import Derived.ProofKit
import Derived.OpenShut
import Derived.ShutString
import Derived.ChangeOld
import Derived.Below
import Derived.ChangeSame
namespace Go.Proofs.Ytjhpolclljmjiaa.entryPacks
set_option maxRecDepth 20000
open Go.ChangeShapes Go.WideShapes Go.ChangeAt Go.RowKit
open Go.ChangeMaps (open_string shut_string)
set_option linter.unusedVariables false
theorem own : ownKnob Try.prog.godebug = none := by kernel_rfl
theorem laidOut : laidOutB Try.prog = true := by kernel_rfl

set_option maxHeartbeats 1000000 in
theorem walk_yes (a t p : Nat) (f : Bool) (n : Nat) (hn : n < 18446744073709551616) (hb : entB a t f = true) (hp : ((p : Int) == 0) = false)
    (P1 : Hid (Says 6 #[enV a t f] (.returned (.tuple #[.int .u64 (p : Int), .int .i64 0])))) (P2 : Hid (Says 7 #[enV a t f] (.returned (.tuple #[.int .u64 (p : Int), .int .i64 0]))))
    (U : Hid (Says 9 #[.int .u64 (p : Int)] (.returned (.tuple #[enV a t f, .int .i64 0])))) (w : World) :
    Calls Try.prog 3 #[enV a t f, .int .u64 (n : Int)] w fun e w' => e = .returned (.bool true) ∧ Below w.heap.size w w' := by
  obtain ⟨q, s, j, i, _, U1, U2⟩ := both_reads n hn
  replace U1 := hide U1
  replace U2 := hide U2
  have R1 : Hid (Says 8 #[enV a t f] (.returned (.bool true))) := fun w => hb ▸ eright_any a t f w
  have A1 := hide awake16
  have ex : ((p : Int) != (p : Int)) = false := by simp
  simp only [enV] at P1 P2 U U1 U2 R1 ⊢
  go_enter Try.func3, Try.ntmps3
  go_wp2_with fail
  refine (A1.out _).mono ?_
  rintro e x1 ⟨rfl, b1⟩
  obtain ⟨d0, d1, d2⟩ := cell_arg b1
  have hb : Below w.heap.size w x1 := ((Below.refl _ w).alloc (Nat.le_refl _) _).trans (b1.mono (by simp))
  have hsz : w.heap.size < x1.heap.size := World.block_lt_of_cell? x1 _ d0
  clear b1
  go_wp2_with fail
  refine (P1.out _).mono ?_
  rintro e x2 ⟨rfl, b2⟩
  replace d0 := (b2.cell hsz).trans d0
  replace d1 := (b2.cell (p := ⟨w.heap.size, 1, none⟩) hsz).trans d1
  replace d2 := (b2.cell (p := ⟨w.heap.size, 2, none⟩) hsz).trans d2
  replace hsz := Nat.lt_of_lt_of_le hsz b2.size
  replace hb := hb.trans (b2.mono hb.size)
  clear b2
  go_wp2_with fail
  refine (P2.out _).mono ?_
  rintro e x3 ⟨rfl, b2⟩
  replace d0 := (b2.cell hsz).trans d0
  replace d1 := (b2.cell (p := ⟨w.heap.size, 1, none⟩) hsz).trans d1
  replace d2 := (b2.cell (p := ⟨w.heap.size, 2, none⟩) hsz).trans d2
  replace hsz := Nat.lt_of_lt_of_le hsz b2.size
  replace hb := hb.trans (b2.mono hb.size)
  clear b2
  go_wp2_with fail
  refine (R1.out _).mono ?_
  rintro e x4 ⟨rfl, b2⟩
  replace d0 := (b2.cell hsz).trans d0
  replace d1 := (b2.cell (p := ⟨w.heap.size, 1, none⟩) hsz).trans d1
  replace d2 := (b2.cell (p := ⟨w.heap.size, 2, none⟩) hsz).trans d2
  replace hsz := Nat.lt_of_lt_of_le hsz b2.size
  replace hb := hb.trans (b2.mono hb.size)
  clear b2
  go_wp2_with fail
  refine (U.out _).mono ?_
  rintro e x5 ⟨rfl, b2⟩
  replace d0 := (b2.cell hsz).trans d0
  replace d1 := (b2.cell (p := ⟨w.heap.size, 1, none⟩) hsz).trans d1
  replace d2 := (b2.cell (p := ⟨w.heap.size, 2, none⟩) hsz).trans d2
  replace hsz := Nat.lt_of_lt_of_le hsz b2.size
  replace hb := hb.trans (b2.mono hb.size)
  clear b2
  have e0 := cell_alloc d0 (.cells #[.int .u64 (a : Int), .int .u64 (t : Int), .bool f] 24)
  have e1 := cell_alloc d1 (.cells #[.int .u64 (a : Int), .int .u64 (t : Int), .bool f] 24)
  have e2 := cell_alloc d2 (.cells #[.int .u64 (a : Int), .int .u64 (t : Int), .bool f] 24)
  replace hb := hb.alloc hb.size (.cells #[.int .u64 (a : Int), .int .u64 (t : Int), .bool f] 24)
  go_wp2_with fail
  refine (U1.out _).mono ?_
  rintro e x6 ⟨rfl, b5⟩
  replace hb := hb.trans (b5.mono hb.size)
  clear b5
  go_wp2_with fail
  refine (U2.out _).mono ?_
  rintro e x7 ⟨rfl, b6⟩
  obtain ⟨g0, g1, g2⟩ := cell_arg b6
  replace hb := hb.trans ((((Below.refl _ x6).alloc (Nat.le_refl _) _).trans (b6.mono (by simp))).mono hb.size)
  have g0' := cell_alloc g0 (.cells #[.int .u64 (q : Int), .int .u64 (s : Int), .bool j] 24)
  have g1' := cell_alloc g1 (.cells #[.int .u64 (q : Int), .int .u64 (s : Int), .bool j] 24)
  have g2' := cell_alloc g2 (.cells #[.int .u64 (q : Int), .int .u64 (s : Int), .bool j] 24)
  have hsz6 : x6.heap.size < x7.heap.size := World.block_lt_of_cell? x7 _ g0
  clear b6
  go_wp2
  go_ret
  exact ⟨ret_bool (by simp), hb.alloc hb.size _⟩
set_option maxHeartbeats 1000000 in
theorem walk_no (a t : Nat) (f : Bool) (n : Nat) (hn : n < 18446744073709551616) (hb : entB a t f = false)
    (P1 : Hid (Says 6 #[enV a t f] (.returned (.tuple #[.int .u64 0, .int .i64 1])))) (P2 : Hid (Says 7 #[enV a t f] (.returned (.tuple #[.int .u64 0, .int .i64 1])))) (w : World) :
    Calls Try.prog 3 #[enV a t f, .int .u64 (n : Int)] w fun e w' => e = .returned (.bool true) ∧ Below w.heap.size w w' := by
  obtain ⟨q, s, j, i, _, U1, U2⟩ := both_reads n hn
  replace U1 := hide U1
  replace U2 := hide U2
  have R1 : Hid (Says 8 #[enV a t f] (.returned (.bool false))) := fun w => hb ▸ eright_any a t f w
  have A1 := hide awake16
  simp only [enV] at P1 P2 U1 U2 R1 ⊢
  go_enter Try.func3, Try.ntmps3
  go_wp2_with fail
  refine (A1.out _).mono ?_
  rintro e x1 ⟨rfl, b1⟩
  obtain ⟨d0, d1, d2⟩ := cell_arg b1
  have hb : Below w.heap.size w x1 := ((Below.refl _ w).alloc (Nat.le_refl _) _).trans (b1.mono (by simp))
  have hsz : w.heap.size < x1.heap.size := World.block_lt_of_cell? x1 _ d0
  clear b1
  go_wp2_with fail
  refine (P1.out _).mono ?_
  rintro e x2 ⟨rfl, b2⟩
  replace d0 := (b2.cell hsz).trans d0
  replace d1 := (b2.cell (p := ⟨w.heap.size, 1, none⟩) hsz).trans d1
  replace d2 := (b2.cell (p := ⟨w.heap.size, 2, none⟩) hsz).trans d2
  replace hsz := Nat.lt_of_lt_of_le hsz b2.size
  replace hb := hb.trans (b2.mono hb.size)
  clear b2
  go_wp2_with fail
  refine (P2.out _).mono ?_
  rintro e x3 ⟨rfl, b2⟩
  replace d0 := (b2.cell hsz).trans d0
  replace d1 := (b2.cell (p := ⟨w.heap.size, 1, none⟩) hsz).trans d1
  replace d2 := (b2.cell (p := ⟨w.heap.size, 2, none⟩) hsz).trans d2
  replace hsz := Nat.lt_of_lt_of_le hsz b2.size
  replace hb := hb.trans (b2.mono hb.size)
  clear b2
  go_wp2_with fail
  refine (R1.out _).mono ?_
  rintro e x4 ⟨rfl, b2⟩
  replace hb := hb.trans (b2.mono hb.size)
  clear b2
  go_wp2_with fail
  refine (U1.out _).mono ?_
  rintro e x6 ⟨rfl, b5⟩
  replace hb := hb.trans (b5.mono hb.size)
  clear b5
  go_wp2_with fail
  refine (U2.out _).mono ?_
  rintro e x7 ⟨rfl, b6⟩
  obtain ⟨g0, g1, g2⟩ := cell_arg b6
  replace hb := hb.trans ((((Below.refl _ x6).alloc (Nat.le_refl _) _).trans (b6.mono (by simp))).mono hb.size)
  have g0' := cell_alloc g0 (.cells #[.int .u64 (q : Int), .int .u64 (s : Int), .bool j] 24)
  have g1' := cell_alloc g1 (.cells #[.int .u64 (q : Int), .int .u64 (s : Int), .bool j] 24)
  have g2' := cell_alloc g2 (.cells #[.int .u64 (q : Int), .int .u64 (s : Int), .bool j] 24)
  have hsz6 : x6.heap.size < x7.heap.size := World.block_lt_of_cell? x7 _ g0
  clear b6
  go_wp2
  go_ret
  exact ⟨ret_bool (by simp), hb.alloc hb.size _⟩
theorem walk (w : World) (v : Value) (o : IsEt w v) (a1 : Int) (w1 : (Lit.int .u64 a1).wf = true) :
    Calls Try.prog 3 #[v, .int .u64 a1] w fun e w' => e = .returned (.bool true) ∧ Below w.heap.size w w' := by
  obtain ⟨n, rfl, hn⟩ := nat_of_wf w1
  obtain ⟨a, t, f, _, _, rfl⟩ := o.nats
  cases hb : entB a t f
  · exact walk_no a t f n hn hb (fun w => epack_no a t f w hb) (fun w => rpackE_no a t f w hb) w
  · obtain ⟨_, hU⟩ := pack_reads a t f hb
    obtain ⟨ha, ht, _⟩ := entB_iff.1 hb
    have h1 := (entN_lt (f := f) ha ht).1
    exact walk_yes a t _ f n hn hb (by rw [beq_eq_false_iff_ne]; omega) (fun w => epack_yes a t f w hb) (fun w => rpackE_yes a t f w hb) hU w

set_option maxRecDepth 100000 in
theorem lifted (os : Os) (started : os.Started) (H : Type) (enc : TypeId × Value → H) :
    ReturnsInHanded {} Try.checked os 3 .any (Rows.entryPacksSpec.pre6 enc Try.prog Try.f3 Rows.entryPacksRow.domain false) (Rows.entryPacksSpec.post enc Try.prog Try.f3 false true false false) := by
  refine returnsInHanded_of_change (C := Try.checked) own started (by kernel_rfl) Try.func3
    (ChangeSpec.witness6 (enc := enc) (C := Try.checked) false ⟨#[], #[.agg #[.int .u64 0, .int .u64 0, .bool false], .int .u64 0], []⟩ 8 (by kernel_rfl) (by kernel_rfl) (by kernel_rfl) (by kernel_rfl)) ?_
  intro W base args ds gs before hval0 hW hcnd _
  have hval : ∀ (j : Nat) t v, Try.f3.params[j]? = some t → args[j]? = some v → Value.okWide Try.prog W .any base t v := hval0
  have hW' := hW
  obtain ⟨p, q, hA0, hV, rfl, hfz, hnd⟩ := hW
  have hA : DataW.TrodAll enc Try.prog W 0 (fun _ => true) true Try.f3.params.toList args.toList ds p := hA0
  rw [Try.params3] at hA hval
  obtain ⟨v0, vs0, d0, ds0, p0, q0, hargs, rfl, rfl, h0, r0⟩ := trodAll_cons hA
  obtain ⟨v1, vs1, d1, ds1, p1, q1, rfl, rfl, rfl, h1, r1⟩ := trodAll_cons r0
  obtain ⟨rfl, rfl, rfl⟩ := trodAll_nil r1
  obtain rfl : args = #[v0, v1] := by cases args; simp_all
  obtain ⟨rfl, rfl⟩ := trodVars_none hV
  have k0 := h0
  have lt0 : ∀ x ∈ p0, x.block < W.heap.size := by obtain ⟨m, hm⟩ := k0; exact DataW.trod_lt m _ _ _ hm
  have o0 := open_Et (hval 0 24 v0 rfl rfl) h0
  obtain ⟨a1, rfl, rfl, rfl, w1⟩ := open_int Try.underlying22 (hval 1 22 v1 rfl rfl) h1
  clear hA0 hval0
  refine (walk W v0 o0 a1 w1).mono fun e W' ⟨he, bel⟩ => ?_
  subst he
  exact ⟨_, rfl, _, _, _, [], _, [], hW', trodAll_mk1 (shut_bool Try.underlying4 _), (trodAll_cons_mk (Below.trod laidOut (by kernel_rfl) (of_decide_eq_true (by kernel_rfl)) k0 bel lt0) (trodAll_cons_mk (shut_int Try.underlying22 w1) trodAll_mk0)), rfl, bel.frame _, fun h => by cases h⟩

theorem over : Rows.entryPacksRow.holds Try.pinned (OpenSpec.ofChange Rows.entryPacksSpec) :=
  OpenClaim.holds_of_wide 3 Try.f3 rfl rfl rfl rfl rfl rfl rfl ⟨rfl, rfl, rfl, rfl, rfl⟩ rfl rfl rfl rfl rfl (by kernel_rfl) Try.func3 (by kernel_rfl)
    (of_decide_eq_true (by kernel_rfl)) (by unfold Func.isWrapper; first | (rw [if_pos (by decide +kernel)]; kernel_rfl) | (rw [if_neg (by decide +kernel)]; exact ⟨rfl, rfl⟩))
    (fun os started H enc _ => lifted os started H enc)

theorem proved : Rows.EntryPacksSaid := over
#print axioms proved

end Go.Proofs.Ytjhpolclljmjiaa.entryPacks
