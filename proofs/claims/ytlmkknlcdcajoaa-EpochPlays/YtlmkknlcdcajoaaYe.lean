/- The statements' own 'does', and slices of calls. -/
import Derived.Test.YtlmkknlcdcajoaaYc
import Derived.Deep.SlicePairs
namespace Go.Proofs.Ytlmkknlcdcajoaa
open Go.ChangeShapes Go.WideShapes Go.RowKit
/-- The epoch behind a call. -/
def stepNow (now : Nat) (kind : Int) : Nat := if kind = 4 then now + 1 else now
/-- What each saw behind a call. -/
def stepV (n now : Nat) (v : Nat → Nat) (kind s : Int) : Nat → Nat := if kind = 1 ∨ kind = 2 ∨ kind = 3 then doesV n now v kind s else v
theorem tab_again {w : World} {B C t n now : Nat} {v : Nat → Nat} {k : Nat} (h : TabIs w B C t n now v k) (o : Obj) : TabIs (w.alloc o) B C t n now v k := h.below ((Below.refl _ _).alloc (Nat.le_refl _) o)
theorem apart_alloc {B C : Nat} {w x : World} {o : Obj} (h : Apart B C (w.alloc o) x) : Apart B C w x := (Below.apart ((Below.refl _ w).alloc (Nat.le_refl _) o)).trans h
set_option maxHeartbeats 400000 in
theorem does_three {w : World} {B C t n now : Nat} {v : Nat → Nat} {k : Nat} (h : TabIs w B C t n now v k) (hk : k ≤ 1000) (kd s : Int) (hkd : kd = 1 ∨ kd = 2 ∨ kd = 3) :
    Calls Try.prog 11 #[.pointer (some ⟨t, 0, none⟩), .agg #[.int .i64 kd, .int .i64 s]] w (DoesIt w B C t n now v k kd s) := by
  have h' := tab_again h (.cells #[.int .i64 kd, .int .i64 s] 32)
  rcases hkd with rfl | rfl | rfl
  · go_enter Try.func11, Try.ntmps11
    go_wp2_with fail
    refine (enter_any h' (by omega) s).mono ?_
    rintro e x ⟨rfl, hx, hb⟩
    go_wp2
    go_ret
    exact ⟨rfl, hx, apart_alloc hb⟩
  · go_enter Try.func11, Try.ntmps11
    go_wp2_with fail
    refine (refresh_any h' s).mono ?_
    rintro e x ⟨rfl, hx, hb⟩
    go_wp2
    go_ret
    exact ⟨rfl, hx, apart_alloc hb⟩
  · go_enter Try.func11, Try.ntmps11
    go_wp2_with fail
    refine (leave_any h' s).mono ?_
    rintro e x ⟨rfl, hx, hb⟩
    go_wp2
    go_ret
    exact ⟨rfl, hx, apart_alloc hb⟩
set_option maxHeartbeats 400000 in
theorem does_any {w : World} {B C t n now : Nat} {v : Nat → Nat} {k : Nat} (h : TabIs w B C t n now v k) (hk : k ≤ 1000) (kd s : Int) :
    Calls Try.prog 11 #[.pointer (some ⟨t, 0, none⟩), .agg #[.int .i64 kd, .int .i64 s]] w fun e w' => (∃ c, e = .returned (.int .i64 c)) ∧ TabIs w' B C t n (stepNow now kd) (stepV n now v kd s) (k + 1) ∧ Apart B C w w' := by
  by_cases h3 : kd = 1 ∨ kd = 2 ∨ kd = 3
  · refine (does_three h hk kd s h3).mono ?_
    rintro e w' ⟨rfl, h1, h2⟩
    have e1 : stepNow now kd = now := by simp [stepNow]; omega
    exact ⟨⟨_, rfl⟩, by rw [e1, stepV, if_pos h3]; exact h1, h2⟩
  · have h' := tab_again h (.cells #[.int .i64 kd, .int .i64 s] 32)
    have e1 : stepV n now v kd s = v := by rw [stepV, if_neg h3]
    rw [e1]
    by_cases h4 : kd = 4
    · subst h4
      clear h3 e1
      have e2 : stepNow now 4 = now + 1 := rfl
      rw [e2]
      go_enter Try.func11, Try.ntmps11
      go_wp2_with fail
      refine (bump_any h' (by omega)).mono ?_
      rintro e x ⟨rfl, hx, hb⟩
      go_wp2
      go_ret
      exact ⟨⟨_, rfl⟩, hx, apart_alloc hb⟩
    · have e2 : stepNow now kd = now := by simp [stepNow, h4]
      rw [e2]
      have g1 : (kd == 1) = false := by simp; omega
      have g2 : (kd == 2) = false := by simp; omega
      have g3 : (kd == 3) = false := by simp; omega
      have g4 : (kd == 4) = false := by simp; omega
      clear h3 e1 e2 h4
      go_enter Try.func11, Try.ntmps11
      go_wp2
      go_ret
      exact ⟨⟨_, rfl⟩, h'.more (by omega), apart_alloc (Apart.refl _ _ _)⟩
/-- A slice of calls that is read. -/
def Acts (w : World) (ao : Option Addr) (n : Nat) (kd sv : Nat → Int) : Prop :=
  ∀ j, j < n → ∃ b off, ao = some ⟨b, off, none⟩ ∧ w.cell? ⟨b, off + j * 2, none⟩ = some (.int .i64 (kd j)) ∧ w.cell? ⟨b, off + j * 2 + 1, none⟩ = some (.int .i64 (sv j))
theorem Acts.below {w w' : World} {ao : Option Addr} {n : Nat} {kd sv : Nat → Int} (h : Acts w ao n kd sv) (hb : Below w.heap.size w w') : Acts w' ao n kd sv := by
  intro j hj
  obtain ⟨b, off, h1, h2, h3⟩ := h j hj
  have hl : b < w.heap.size := World.block_lt_of_cell? w _ h2
  exact ⟨b, off, h1, by rw [hb.cell hl]; exact h2, by rw [hb.cell hl]; exact h3⟩
/-- What is told of an argument that is a slice of calls. -/
def IsActs (w : World) (v : Value) : Prop := ∃ ao len cap kd sv, v = .slice ao len cap ∧ len ≤ 9223372036854775807 ∧ Acts w ao len kd sv
theorem open_acts {H : Type} {enc : TypeId × Value → H} {W : World} {base : Nat} {v : Value} {d : DataW H} {p : List MemPlace} (hv : Value.okWide Try.prog W .any base 22 v)
    (h : DataW.Trod enc Try.prog W 0 (fun _ => true) true 22 v d p) : IsActs W v := by
  obtain ⟨ao, len, cap, rfl⟩ := okWide_slice Try.underlying22 hv
  obtain ⟨fuel, hf⟩ := h
  rcases Go.Deep.open_slice_pairs Try.underlying22 Try.underlying32 (by kernel_rfl) rfl rfl (by kernel_rfl) (by kernel_rfl) hf with ⟨hcs, _⟩ | ⟨a, l, c, m, n, V0, V1, D0, D1, P0, P1, hcs, _, hl, hm, hmm, _, hc⟩
  · simp [Value.cells] at hcs
    obtain ⟨rfl, rfl, rfl⟩ := hcs
    exact ⟨_, _, _, fun _ => 0, fun _ => 0, rfl, by decide, fun j hj => by omega⟩
  · simp [Value.cells] at hcs
    obtain ⟨rfl, rfl, rfl⟩ := hcs
    simp only [if_true] at hmm
    subst hmm
    obtain ⟨b, off, spot⟩ := a
    refine ⟨_, _, _, fun j => intOf (V0 j), fun j => intOf (V1 j), rfl, by unfold maxLen at hm; omega, fun j hj => ?_⟩
    obtain ⟨c0, c1, t0, t1⟩ := hc j (by omega)
    have hspot : spot = none := by simpa [Addr.add] using World.cell?_spot (hc 0 (by omega)).1
    subst hspot
    obtain ⟨z0, e0, _, _⟩ := DataW.trod_int Try.underlying3 t0
    obtain ⟨z1, e1, _, _⟩ := DataW.trod_int Try.underlying3 t1
    simp only [List.cons.injEq, and_true] at e0 e1
    rw [Go.WideShapes.add_plain] at c0 c1
    rw [e0] at c0
    rw [e1] at c1
    refine ⟨b, off, rfl, ?_, ?_⟩
    · rw [c0]; simp only [e0]; rfl
    · rw [Nat.add_assoc, c1]; simp only [e1]; rfl
end Go.Proofs.Ytlmkknlcdcajoaa
