/- Whatever the input, haycroftlaw16.EntryTurns returns true and changes no argument. Conditions: none. -/
import Derived.Test.YtjhpolclljmjiaaNe
import Derived.Test.YtjhpolclljmjiaaRows
import Derived.WalkKit
import Derived.ProofKit
import Derived.OpenShut
import Derived.ShutString
import Derived.ChangeOld
import Derived.Below
import Derived.ChangeSame
namespace Go.Proofs.Ytjhpolclljmjiaa.entryTurns
set_option maxRecDepth 20000
open Go.ChangeShapes Go.WideShapes Go.ChangeAt Go.RowKit
open Go.ChangeMaps (open_string shut_string)
set_option linter.unusedVariables false
theorem own : ownKnob Try.prog.godebug = none := by kernel_rfl
theorem laidOut : laidOutB Try.prog = true := by kernel_rfl

set_option maxHeartbeats 1000000 in
theorem walk_none (n t' a' a t p : Nat) (f : Bool) (i1 i : Int) (w : World)
    (F1 : Hid (Says 11 #[.int .u64 (t' : Int)] (.returned (.tuple #[.int .u64 (p : Int), .int .i64 i1])))) (F2 : Hid (Says 7 #[.agg #[.int .u64 0, .int .u64 (t' : Int), .bool true]] (.returned (.tuple #[.int .u64 (p : Int), .int .i64 i1]))))
    (U2 : Hid (Says 10 #[.int .u64 (n : Int)] (.returned (.tuple #[.agg #[.int .u64 (a : Int), .int .u64 (t : Int), .bool f], .int .i64 i])))) (H1 : Hid (Says 12 #[.int .u64 (n : Int), .int .u64 (t' : Int)] (.returned (.bool false))))
    (hi : (i == 0) = false) (hi2 : (i != 0) = true) (T1 : Hid (Says 13 #[.int .u64 (n : Int), .int .u64 (a' : Int)] (.returned (.tuple #[.int .u64 (0), .int .i64 i])))) :
    Calls Try.prog 4 #[.int .u64 (n : Int), .int .u64 (t' : Int), .int .u64 (a' : Int)] w fun e w' => e = .returned (.bool true) ∧ Below w.heap.size w w' := by
  have A1 := hide awake16
  have y1 : ((p : Int) != (p : Int)) = false := by simp
  have y2 : (i1 != i1) = false := by simp
  have y3 : (i == i) = true := by simp
  go_enter Try.func4, Try.ntmps4
  go_wp2_with fail
  refine (A1.out _).mono ?_
  rintro e x1 ⟨rfl, hb⟩
  go_wp2_with fail
  refine (F1.out _).mono ?_
  rintro e x2 ⟨rfl, b2⟩
  replace hb := hb.trans (b2.mono hb.size)
  clear b2
  go_wp2_with fail
  refine (F2.out _).mono ?_
  rintro e x3 ⟨rfl, b2⟩
  replace hb := hb.trans (b2.mono hb.size)
  clear b2
  go_wp2_with fail
  refine (U2.out _).mono ?_
  rintro e x4 ⟨rfl, b2⟩
  replace hb := hb.trans (b2.mono hb.size)
  clear b2
  replace hb := hb.alloc hb.size (.cells #[.int .u64 (a : Int), .int .u64 (t : Int), .bool f] 24)
  go_wp2_with fail
  refine (H1.out _).mono ?_
  rintro e x5 ⟨rfl, b2⟩
  obtain ⟨c0, c1, c2⟩ := cell_arg b2
  have hsz : x4.heap.size < x5.heap.size := World.block_lt_of_cell? x5 _ c0
  replace hb := hb.trans (b2.mono hb.size)
  clear b2
  go_wp2_with fail
  refine (T1.out _).mono ?_
  rintro e x6 ⟨rfl, b2⟩
  replace c0 := (b2.cell hsz).trans c0
  replace c1 := (b2.cell (p := ⟨x4.heap.size, 1, none⟩) hsz).trans c1
  replace c2 := (b2.cell (p := ⟨x4.heap.size, 2, none⟩) hsz).trans c2
  replace hsz := Nat.lt_of_lt_of_le hsz b2.size
  replace hb := hb.trans (b2.mono hb.size)
  clear b2
  go_wp2
  go_ret
  exact ⟨ret_bool (by simp), hb⟩
set_option maxHeartbeats 1000000 in
theorem walk_bad (r : Bool) (n t' a' a t p : Nat) (f : Bool) (i1 : Int) (w : World)
    (F1 : Hid (Says 11 #[.int .u64 (t' : Int)] (.returned (.tuple #[.int .u64 (p : Int), .int .i64 i1])))) (F2 : Hid (Says 7 #[.agg #[.int .u64 0, .int .u64 (t' : Int), .bool true]] (.returned (.tuple #[.int .u64 (p : Int), .int .i64 i1]))))
    (U2 : Hid (Says 10 #[.int .u64 (n : Int)] (.returned (.tuple #[.agg #[.int .u64 (a : Int), .int .u64 (t : Int), .bool f], .int .i64 0])))) (H1 : Hid (Says 12 #[.int .u64 (n : Int), .int .u64 (t' : Int)] (.returned (.bool r))))
    (hr : ((t : Int) == (t' : Int)) = r) (T1 : Hid (Says 13 #[.int .u64 (n : Int), .int .u64 (a' : Int)] (.returned (.tuple #[.int .u64 (0), .int .i64 1])))) (P2 : Hid (Says 7 #[.agg #[.int .u64 (a' : Int), .int .u64 (t : Int), .bool false]] (.returned (.tuple #[.int .u64 (0), .int .i64 1])))) :
    Calls Try.prog 4 #[.int .u64 (n : Int), .int .u64 (t' : Int), .int .u64 (a' : Int)] w fun e w' => e = .returned (.bool true) ∧ Below w.heap.size w w' := by
  have A1 := hide awake16
  have y1 : ((p : Int) != (p : Int)) = false := by simp
  have y2 : (i1 != i1) = false := by simp
  cases r
  all_goals
    go_enter Try.func4, Try.ntmps4
    go_wp2_with fail
    refine (A1.out _).mono ?_
    rintro e x1 ⟨rfl, hb⟩
    go_wp2_with fail
    refine (F1.out _).mono ?_
    rintro e x2 ⟨rfl, b2⟩
    replace hb := hb.trans (b2.mono hb.size)
    clear b2
    go_wp2_with fail
    refine (F2.out _).mono ?_
    rintro e x3 ⟨rfl, b2⟩
    replace hb := hb.trans (b2.mono hb.size)
    clear b2
    go_wp2_with fail
    refine (U2.out _).mono ?_
    rintro e x4 ⟨rfl, b2⟩
    replace hb := hb.trans (b2.mono hb.size)
    clear b2
    replace hb := hb.alloc hb.size (.cells #[.int .u64 (a : Int), .int .u64 (t : Int), .bool f] 24)
    go_wp2_with fail
    refine (H1.out _).mono ?_
    rintro e x5 ⟨rfl, b2⟩
    obtain ⟨c0, c1, c2⟩ := cell_arg b2
    have hsz : x4.heap.size < x5.heap.size := World.block_lt_of_cell? x5 _ c0
    replace hb := hb.trans (b2.mono hb.size)
    clear b2
    go_wp2_with fail
    refine (T1.out _).mono ?_
    rintro e x6 ⟨rfl, b2⟩
    replace c0 := (b2.cell hsz).trans c0
    replace c1 := (b2.cell (p := ⟨x4.heap.size, 1, none⟩) hsz).trans c1
    replace c2 := (b2.cell (p := ⟨x4.heap.size, 2, none⟩) hsz).trans c2
    replace hsz := Nat.lt_of_lt_of_le hsz b2.size
    replace hb := hb.trans (b2.mono hb.size)
    clear b2
    go_wp2_with fail
    refine (P2.out _).mono ?_
    rintro e x7 ⟨rfl, b2⟩
    replace c0 := (b2.cell hsz).trans c0
    replace c1 := (b2.cell (p := ⟨x4.heap.size, 1, none⟩) hsz).trans c1
    replace c2 := (b2.cell (p := ⟨x4.heap.size, 2, none⟩) hsz).trans c2
    replace hsz := Nat.lt_of_lt_of_le hsz b2.size
    replace hb := hb.trans (b2.mono hb.size)
    clear b2
    go_wp2
    go_ret
    exact ⟨ret_bool (by simp), hb⟩
set_option maxHeartbeats 1000000 in
theorem walk_yes (r : Bool) (n t' a' a t p : Nat) (f : Bool) (i1 : Int) (w : World)
    (F1 : Hid (Says 11 #[.int .u64 (t' : Int)] (.returned (.tuple #[.int .u64 (p : Int), .int .i64 i1])))) (F2 : Hid (Says 7 #[.agg #[.int .u64 0, .int .u64 (t' : Int), .bool true]] (.returned (.tuple #[.int .u64 (p : Int), .int .i64 i1]))))
    (U2 : Hid (Says 10 #[.int .u64 (n : Int)] (.returned (.tuple #[.agg #[.int .u64 (a : Int), .int .u64 (t : Int), .bool f], .int .i64 0])))) (H1 : Hid (Says 12 #[.int .u64 (n : Int), .int .u64 (t' : Int)] (.returned (.bool r))))
    (d : Nat) (hr : ((t : Int) == (t' : Int)) = r) (T1 : Hid (Says 13 #[.int .u64 (n : Int), .int .u64 (a' : Int)] (.returned (.tuple #[.int .u64 ((d : Int)), .int .i64 0])))) (P2 : Hid (Says 7 #[.agg #[.int .u64 (a' : Int), .int .u64 (t : Int), .bool false]] (.returned (.tuple #[.int .u64 ((d : Int)), .int .i64 0])))) (H2 : Hid (Says 12 #[.int .u64 (d : Int), .int .u64 (t : Int)] (.returned (.bool true)))) :
    Calls Try.prog 4 #[.int .u64 (n : Int), .int .u64 (t' : Int), .int .u64 (a' : Int)] w fun e w' => e = .returned (.bool true) ∧ Below w.heap.size w w' := by
  have A1 := hide awake16
  have y1 : ((p : Int) != (p : Int)) = false := by simp
  have y2 : (i1 != i1) = false := by simp
  have y3 : ((d : Int) == (d : Int)) = true := by simp
  cases r
  all_goals
    go_enter Try.func4, Try.ntmps4
    go_wp2_with fail
    refine (A1.out _).mono ?_
    rintro e x1 ⟨rfl, hb⟩
    go_wp2_with fail
    refine (F1.out _).mono ?_
    rintro e x2 ⟨rfl, b2⟩
    replace hb := hb.trans (b2.mono hb.size)
    clear b2
    go_wp2_with fail
    refine (F2.out _).mono ?_
    rintro e x3 ⟨rfl, b2⟩
    replace hb := hb.trans (b2.mono hb.size)
    clear b2
    go_wp2_with fail
    refine (U2.out _).mono ?_
    rintro e x4 ⟨rfl, b2⟩
    replace hb := hb.trans (b2.mono hb.size)
    clear b2
    replace hb := hb.alloc hb.size (.cells #[.int .u64 (a : Int), .int .u64 (t : Int), .bool f] 24)
    go_wp2_with fail
    refine (H1.out _).mono ?_
    rintro e x5 ⟨rfl, b2⟩
    obtain ⟨c0, c1, c2⟩ := cell_arg b2
    have hsz : x4.heap.size < x5.heap.size := World.block_lt_of_cell? x5 _ c0
    replace hb := hb.trans (b2.mono hb.size)
    clear b2
    go_wp2_with fail
    refine (T1.out _).mono ?_
    rintro e x6 ⟨rfl, b2⟩
    replace c0 := (b2.cell hsz).trans c0
    replace c1 := (b2.cell (p := ⟨x4.heap.size, 1, none⟩) hsz).trans c1
    replace c2 := (b2.cell (p := ⟨x4.heap.size, 2, none⟩) hsz).trans c2
    replace hsz := Nat.lt_of_lt_of_le hsz b2.size
    replace hb := hb.trans (b2.mono hb.size)
    clear b2
    go_wp2_with fail
    refine (P2.out _).mono ?_
    rintro e x7 ⟨rfl, b2⟩
    replace c0 := (b2.cell hsz).trans c0
    replace c1 := (b2.cell (p := ⟨x4.heap.size, 1, none⟩) hsz).trans c1
    replace c2 := (b2.cell (p := ⟨x4.heap.size, 2, none⟩) hsz).trans c2
    replace hsz := Nat.lt_of_lt_of_le hsz b2.size
    replace hb := hb.trans (b2.mono hb.size)
    clear b2
    go_wp2_with fail
    refine (H2.out _).mono ?_
    rintro e x8 ⟨rfl, b2⟩
    replace c0 := (b2.cell hsz).trans c0
    replace c1 := (b2.cell (p := ⟨x4.heap.size, 1, none⟩) hsz).trans c1
    replace c2 := (b2.cell (p := ⟨x4.heap.size, 2, none⟩) hsz).trans c2
    replace hsz := Nat.lt_of_lt_of_le hsz b2.size
    replace hb := hb.trans (b2.mono hb.size)
    clear b2
    go_wp2
    go_ret
    exact ⟨ret_bool (by simp), hb⟩
theorem walk (w : World) (a0 : Int) (w0 : (Lit.int .u64 a0).wf = true) (a1 : Int) (w1 : (Lit.int .u64 a1).wf = true) (a2 : Int) (w2 : (Lit.int .u64 a2).wf = true) :
    Calls Try.prog 4 #[.int .u64 a0, .int .u64 a1, .int .u64 a2] w fun e w' => e = .returned (.bool true) ∧ Below w.heap.size w w' := by
  obtain ⟨n, rfl, hn⟩ := nat_of_wf w0
  obtain ⟨t', rfl, ht'⟩ := nat_of_wf w1
  obtain ⟨a', rfl, ha'⟩ := nat_of_wf w2
  obtain ⟨p, i1, _, _, F1, F2⟩ := both_packs 0 t' true
  obtain ⟨a, t, f, i, R, U1, U2⟩ := both_reads n hn
  have FF := efresh_says t' p i1 F1
  by_cases hi : i = 0
  · subst hi
    have HH := ehas_says n a t t' f 0 U1 ((t : Int) == (t' : Int)) (by show _ = _; rw [Bool.eq_iff_iff]; simp; omega)
    obtain ⟨d, i2, Y, N, P1, P2⟩ := both_packs a' t false
    have TT := eto_yes n a a' t d f i2 U1 P1
    cases hb : entB a' t false
    · obtain ⟨rfl, rfl⟩ := N hb
      exact walk_bad _ n t' a' a t p f i1 w FF F2 U2 HH rfl TT P2
    · obtain ⟨hd, rfl⟩ := Y hb
      have h2 := (pack_reads a' t false hb).2
      rw [← hd] at h2
      have H2 := ehas_says d a' t t false 0 h2 true (by show _ = _; simp)
      exact walk_yes _ n t' a' a t p f i1 w FF F2 U2 HH d rfl TT P2 H2
  · have h1 : (i == 0) = false := by rw [beq_eq_false_iff_ne]; exact hi
    have h2 : (i != 0) = true := by rw [bne_iff_ne]; exact hi
    have HH := ehas_says n a t t' f i U1 false (by show _ = _; rw [h1]; rfl)
    exact walk_none n t' a' a t p f i1 i w FF F2 U2 HH h1 h2 (eto_no n a a' t f i U1 h2)

set_option maxRecDepth 100000 in
theorem lifted (os : Os) (started : os.Started) (H : Type) (enc : TypeId × Value → H) :
    ReturnsInHanded {} Try.checked os 4 .any (Rows.entryTurnsSpec.pre6 enc Try.prog Try.f4 Rows.entryTurnsRow.domain false) (Rows.entryTurnsSpec.post enc Try.prog Try.f4 false true false false) := by
  refine returnsInHanded_of_change (C := Try.checked) own started (by kernel_rfl) Try.func4
    (ChangeSpec.witness6 (enc := enc) (C := Try.checked) false ⟨#[], #[.int .u64 0, .int .u64 0, .int .u64 0], []⟩ 8 (by kernel_rfl) (by kernel_rfl) (by kernel_rfl) (by kernel_rfl)) ?_
  intro W base args ds gs before hval0 hW hcnd _
  have hval : ∀ (j : Nat) t v, Try.f4.params[j]? = some t → args[j]? = some v → Value.okWide Try.prog W .any base t v := hval0
  have hW' := hW
  obtain ⟨p, q, hA0, hV, rfl, hfz, hnd⟩ := hW
  have hA : DataW.TrodAll enc Try.prog W 0 (fun _ => true) true Try.f4.params.toList args.toList ds p := hA0
  rw [Try.params4] at hA hval
  obtain ⟨v0, vs0, d0, ds0, p0, q0, hargs, rfl, rfl, h0, r0⟩ := trodAll_cons hA
  obtain ⟨v1, vs1, d1, ds1, p1, q1, rfl, rfl, rfl, h1, r1⟩ := trodAll_cons r0
  obtain ⟨v2, vs2, d2, ds2, p2, q2, rfl, rfl, rfl, h2, r2⟩ := trodAll_cons r1
  obtain ⟨rfl, rfl, rfl⟩ := trodAll_nil r2
  obtain rfl : args = #[v0, v1, v2] := by cases args; simp_all
  obtain ⟨rfl, rfl⟩ := trodVars_none hV
  obtain ⟨a0, rfl, rfl, rfl, w0⟩ := open_int Try.underlying22 (hval 0 22 v0 rfl rfl) h0
  obtain ⟨a1, rfl, rfl, rfl, w1⟩ := open_int Try.underlying22 (hval 1 22 v1 rfl rfl) h1
  obtain ⟨a2, rfl, rfl, rfl, w2⟩ := open_int Try.underlying22 (hval 2 22 v2 rfl rfl) h2
  clear hA0 hval0
  refine (walk W a0 w0 a1 w1 a2 w2).mono fun e W' ⟨he, bel⟩ => ?_
  subst he
  exact ⟨_, rfl, _, _, _, [], _, [], hW', trodAll_mk1 (shut_bool Try.underlying4 _), (trodAll_cons_mk (shut_int Try.underlying22 w0) (trodAll_cons_mk (shut_int Try.underlying22 w1) (trodAll_cons_mk (shut_int Try.underlying22 w2) trodAll_mk0))), rfl, bel.frame _, fun h => by cases h⟩

theorem over : Rows.entryTurnsRow.holds Try.pinned (OpenSpec.ofChange Rows.entryTurnsSpec) :=
  OpenClaim.holds_of_wide 4 Try.f4 rfl rfl rfl rfl rfl rfl rfl ⟨rfl, rfl, rfl, rfl, rfl⟩ rfl rfl rfl rfl rfl (by kernel_rfl) Try.func4 (by kernel_rfl)
    (of_decide_eq_true (by kernel_rfl)) (by unfold Func.isWrapper; first | (rw [if_pos (by decide +kernel)]; kernel_rfl) | (rw [if_neg (by decide +kernel)]; exact ⟨rfl, rfl⟩))
    (fun os started H enc _ => lifted os started H enc)

theorem proved : Rows.EntryTurnsSaid := over
#print axioms proved

end Go.Proofs.Ytjhpolclljmjiaa.entryTurns
