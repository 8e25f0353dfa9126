/- Whatever the input, haycroftlaw11.DeviceNil returns true and changes no argument. Conditions: none. -/
import Derived.Test.YtpjgophblgndaaaDv
import Derived.Test.YtpjgophblgndaaaRows
import Derived.WalkKit
import Derived.ProofKit
import Derived.OpenShut
import Derived.ShutString
import Derived.ChangeOld
import Derived.Below
import Derived.ChangeSame
namespace Go.Proofs.Ytpjgophblgndaaa.deviceNil
open Go.ChangeShapes Go.WideShapes Go.ChangeAt Go.RowKit
open Go.ChangeMaps (open_string shut_string)
set_option linter.unusedVariables false
theorem own : ownKnob Try.prog.godebug = none := by kernel_rfl
theorem laidOut : laidOutB Try.prog = true := by kernel_rfl

set_option maxHeartbeats 2000000 in
theorem walk (w : World) (v : Value) (o : IsAct w v) :
    Calls Try.prog 5 #[v] w fun e w' => e = .returned (.bool true) ∧ Below w.heap.size w w' := by
  obtain ⟨⟨kd, ⟨a, n⟩, s, nn, po, np, pc, z⟩, -, rfl⟩ := o
  simp only
  go_enter Try.func5, Try.ntmps5
  go_wp2_with fail
  refine (awake11 _).mono ?_
  rintro e x1 ⟨rfl, b1⟩
  have hb : Below w.heap.size w x1 := ((Below.refl _ w).alloc (Nat.le_refl _) _).trans (b1.mono (by simp))
  have hc : ∀ j, x1.cell? ⟨w.heap.size, j, none⟩ = (#[.int .i64 kd, .int .i64 a, .int .i64 n, .string s, .int .i64 nn, .slice po np pc] : Array Value)[j]? := fun j => by
    rw [b1.cell (by simp)]; simp
  have c1 := hc 1
  have c2 := hc 2
  have c3 := hc 3
  have c4 := hc 4
  have c5 := hc 5
  simp at c1 c2 c3 c4 c5
  have lx : w.heap.size < x1.heap.size := World.block_lt_of_cell? x1 _ c1
  have HB := hide hb
  clear hc hb b1
  go_wp2_with fail
  refine (write_nil _ a n s).mono ?_
  rintro e x2 ⟨rfl, b2⟩
  have HB2 := hide (HB.out.trans (b2.mono HB.out.size))
  have d1 : x2.cell? ⟨w.heap.size, 1, none⟩ = some (.int .i64 a) := by rw [b2.cell lx]; exact c1
  have d2 : x2.cell? ⟨w.heap.size, 2, none⟩ = some (.int .i64 n) := by rw [b2.cell lx]; exact c2
  have d4 : x2.cell? ⟨w.heap.size, 4, none⟩ = some (.int .i64 nn) := by rw [b2.cell lx]; exact c4
  have d5 : x2.cell? ⟨w.heap.size, 5, none⟩ = some (.slice po np pc) := by rw [b2.cell lx]; exact c5
  have lx2 := World.block_lt_of_cell? x2 _ d1
  clear HB b2 c1 c2 c3 c4 c5 lx
  go_wp2_with fail
  refine (read_nil _ a n).mono ?_
  rintro e x3 ⟨rfl, b3⟩
  have HB3 := hide (HB2.out.trans (b3.mono HB2.out.size))
  have c1 : x3.cell? ⟨w.heap.size, 1, none⟩ = some (.int .i64 a) := by rw [b3.cell lx2]; exact d1
  have c2 : x3.cell? ⟨w.heap.size, 2, none⟩ = some (.int .i64 n) := by rw [b3.cell lx2]; exact d2
  have c4 : x3.cell? ⟨w.heap.size, 4, none⟩ = some (.int .i64 nn) := by rw [b3.cell lx2]; exact d4
  have c5 : x3.cell? ⟨w.heap.size, 5, none⟩ = some (.slice po np pc) := by rw [b3.cell lx2]; exact d5
  have lx := World.block_lt_of_cell? x3 _ c1
  clear HB2 b3 d1 d2 d4 d5 lx2
  go_wp2_with fail
  refine (take_nil _ nn).mono ?_
  rintro e x4 ⟨rfl, rfl⟩
  go_wp2_with fail
  refine (peek_nil _ a n).mono ?_
  rintro e x5 ⟨rfl, b5⟩
  have HB5 := hide (HB3.out.trans (b5.mono HB3.out.size))
  have d4 : x5.cell? ⟨w.heap.size, 4, none⟩ = some (.int .i64 nn) := by rw [b5.cell lx]; exact c4
  have d5 : x5.cell? ⟨w.heap.size, 5, none⟩ = some (.slice po np pc) := by rw [b5.cell lx]; exact c5
  clear HB3 b5 c1 c2 c4 c5 lx
  go_wp2_with fail
  refine (do_nil _ nn).mono ?_
  rintro e x6 ⟨rfl, rfl⟩
  go_wp2_with fail
  refine (flight_nil _).mono ?_
  rintro e x6 ⟨rfl, rfl⟩
  go_wp2_with fail
  refine (crash_nil _ po np pc).mono ?_
  rintro e x6 ⟨rfl, rfl⟩
  go_wp2_with fail
  refine (start_nil _).mono ?_
  rintro e x6 ⟨rfl, rfl⟩
  go_wp2_with fail
  refine (on_nil _).mono ?_
  rintro e x6 ⟨rfl, rfl⟩
  go_wp2_with fail
  refine (blocks_nil _).mono ?_
  rintro e x6 ⟨rfl, rfl⟩
  go_wp2
  go_ret
  exact ⟨rfl, HB5.out⟩

set_option maxRecDepth 100000 in
theorem lifted (os : Os) (started : os.Started) (H : Type) (enc : TypeId × Value → H) :
    ReturnsInHanded {} Try.checked os 5 .any (Rows.deviceNilSpec.pre6 enc Try.prog Try.f5 Rows.deviceNilRow.domain false) (Rows.deviceNilSpec.post enc Try.prog Try.f5 false true false false) := by
  refine returnsInHanded_of_change (C := Try.checked) own started (by kernel_rfl) Try.func5
    (ChangeSpec.witness6 (enc := enc) (C := Try.checked) false ⟨#[], #[.agg #[.int .i64 0, .int .i64 0, .int .i64 0, .string ⟨#[]⟩, .int .i64 0, .slice none 0 0]], []⟩ 8 (by kernel_rfl) (by kernel_rfl) (by kernel_rfl) (by kernel_rfl)) ?_
  intro W base args ds gs before hval0 hW hcnd _
  have hval : ∀ (j : Nat) t v, Try.f5.params[j]? = some t → args[j]? = some v → Value.okWide Try.prog W .any base t v := hval0
  have hW' := hW
  obtain ⟨p, q, hA0, hV, rfl, hfz, hnd⟩ := hW
  have hA : DataW.TrodAll enc Try.prog W 0 (fun _ => true) true Try.f5.params.toList args.toList ds p := hA0
  rw [Try.params5] at hA hval
  obtain ⟨v0, vs0, d0, ds0, p0, q0, hargs, rfl, rfl, h0, r0⟩ := trodAll_cons hA
  obtain ⟨rfl, rfl, rfl⟩ := trodAll_nil r0
  obtain rfl : args = #[v0] := by cases args; simp_all
  obtain ⟨rfl, rfl⟩ := trodVars_none hV
  have k0 := h0
  have lt0 : ∀ x ∈ p0, x.block < W.heap.size := by obtain ⟨m, hm⟩ := k0; exact DataW.trod_lt m _ _ _ hm
  have o0 := open_act11 (hval 0 35 v0 rfl rfl) h0
  clear hA0 hval0
  refine (walk W v0 o0).mono fun e W' ⟨he, bel⟩ => ?_
  subst he
  exact ⟨_, rfl, _, _, _, [], _, [], hW', trodAll_mk1 (shut_bool Try.underlying4 _), (trodAll_cons_mk (Below.trod laidOut (by kernel_rfl) (of_decide_eq_true (by kernel_rfl)) k0 bel lt0) trodAll_mk0), rfl, bel.frame _, fun h => by cases h⟩

theorem over : Rows.deviceNilRow.holds Try.pinned (OpenSpec.ofChange Rows.deviceNilSpec) :=
  OpenClaim.holds_of_wide 5 Try.f5 rfl rfl rfl rfl rfl rfl rfl ⟨rfl, rfl, rfl, rfl, rfl⟩ rfl rfl rfl rfl rfl (by kernel_rfl) Try.func5 (by kernel_rfl)
    (of_decide_eq_true (by kernel_rfl)) (by unfold Func.isWrapper; first | (rw [if_pos (by decide +kernel)]; kernel_rfl) | (rw [if_neg (by decide +kernel)]; exact ⟨rfl, rfl⟩))
    (fun os started H enc _ => lifted os started H enc)

theorem proved : Rows.DeviceNilSaid := over
#print axioms proved

end Go.Proofs.Ytpjgophblgndaaa.deviceNil
