/- Parts of the proof: Zu. -/
import Derived.Test.YtikpphbgjbfddaaJ1
import Derived.Deep.Slices
import Derived.ChangeArms
import Derived.ChangeSame
import Derived.OpenShut
namespace Go.Proofs.Ytikpphbgjbfddaa
set_option maxRecDepth 20000
open Go.ChangeShapes Go.WideShapes Go.RowKit
theorem u8z_cells : Try.prog.cellsOf 5 = 1 := by kernel_rfl
/-- What is told of an argument that is a slice of bytes. -/
def IsU8z (w : World) (v : Value) : Prop := ∃ ao len cap z, v = .slice ao len cap ∧ len ≤ 9223372036854775807 ∧ Sl .u8 w ao len z ∧ ∀ j, j < len → 0 ≤ z j ∧ z j ≤ 255
theorem open_u8z {H : Type} {enc : TypeId × Value → H} {W : World} {base : Nat} {v : Value} {d : DataW H} {p : List MemPlace} (hv : Value.okWide Try.prog W .any base 23 v)
    (h : DataW.Trod enc Try.prog W 0 (fun _ => true) true 23 v d p) : IsU8z W v := by
  obtain ⟨ao, len, cap, rfl⟩ := okWide_slice Try.underlying23 hv
  obtain ⟨fuel, hf⟩ := h
  rcases Go.Deep.open_slice1 Try.underlying23 u8z_cells hf with ⟨hcs, _⟩ | ⟨a, l, c, m, n, V, D, Pl, hcs, _, hl, hm, hmm, _, hc⟩
  · simp [Value.cells] at hcs
    obtain ⟨rfl, rfl, rfl⟩ := hcs
    exact ⟨_, _, _, fun _ => 0, rfl, by decide, fun j hj => by omega, fun j hj => by omega⟩
  · simp [Value.cells] at hcs
    obtain ⟨rfl, rfl, rfl⟩ := hcs
    simp only [if_true] at hmm
    subst hmm
    obtain ⟨b, off, spot⟩ := a
    have hone : ∀ i, i < m → W.cell? (Addr.add ⟨b, off, spot⟩ i) = some (.int .u8 (intOf (V i))) ∧ 0 ≤ intOf (V i) ∧ intOf (V i) ≤ 255 := by
      intro i hi
      obtain ⟨h1, h2⟩ := hc i hi
      obtain ⟨z, e, _, hwf⟩ := DataW.trod_int Try.underlying5 h2
      simp only [List.cons.injEq, and_true] at e
      have := bounds_u8 hwf
      rw [h1, e]
      exact ⟨rfl, by simp only [intOf]; omega, by simp only [intOf]; omega⟩
    by_cases h0 : len = 0
    · subst h0
      exact ⟨_, _, _, fun _ => 0, rfl, by decide, fun j hj => by omega, fun j hj => by omega⟩
    · have hspot : spot = none := by simpa [Addr.add] using World.cell?_spot (hone 0 (by omega)).1
      subst hspot
      refine ⟨_, _, _, fun j => intOf (V j), rfl, by unfold maxLen at hm; omega, fun j hj => ⟨b, off, rfl, ?_⟩, fun j hj => (hone j (by omega)).2⟩
      have := (hone j (by omega)).1
      rw [Go.WideShapes.add_plain] at this
      exact this
theorem u64z_cells : Try.prog.cellsOf 43 = 1 := by kernel_rfl
/-- What is told of an argument that is a slice of words. -/
def IsU64z (w : World) (v : Value) : Prop := ∃ ao len cap z, v = .slice ao len cap ∧ len ≤ 9223372036854775807 ∧ Sl .u64 w ao len z ∧ ∀ j, j < len → 0 ≤ z j ∧ z j ≤ 18446744073709551615
theorem open_u64z {H : Type} {enc : TypeId × Value → H} {W : World} {base : Nat} {v : Value} {d : DataW H} {p : List MemPlace} (hv : Value.okWide Try.prog W .any base 41 v)
    (h : DataW.Trod enc Try.prog W 0 (fun _ => true) true 41 v d p) : IsU64z W v := by
  obtain ⟨ao, len, cap, rfl⟩ := okWide_slice Try.underlying41 hv
  obtain ⟨fuel, hf⟩ := h
  rcases Go.Deep.open_slice1 Try.underlying41 u64z_cells hf with ⟨hcs, _⟩ | ⟨a, l, c, m, n, V, D, Pl, hcs, _, hl, hm, hmm, _, hc⟩
  · simp [Value.cells] at hcs
    obtain ⟨rfl, rfl, rfl⟩ := hcs
    exact ⟨_, _, _, fun _ => 0, rfl, by decide, fun j hj => by omega, fun j hj => by omega⟩
  · simp [Value.cells] at hcs
    obtain ⟨rfl, rfl, rfl⟩ := hcs
    simp only [if_true] at hmm
    subst hmm
    obtain ⟨b, off, spot⟩ := a
    have hone : ∀ i, i < m → W.cell? (Addr.add ⟨b, off, spot⟩ i) = some (.int .u64 (intOf (V i))) ∧ 0 ≤ intOf (V i) ∧ intOf (V i) ≤ 18446744073709551615 := by
      intro i hi
      obtain ⟨h1, h2⟩ := hc i hi
      obtain ⟨z, e, _, hwf⟩ := DataW.trod_int Try.underlying43 h2
      simp only [List.cons.injEq, and_true] at e
      have := bounds_u64 hwf
      rw [h1, e]
      exact ⟨rfl, by simp only [intOf]; omega, by simp only [intOf]; omega⟩
    by_cases h0 : len = 0
    · subst h0
      exact ⟨_, _, _, fun _ => 0, rfl, by decide, fun j hj => by omega, fun j hj => by omega⟩
    · have hspot : spot = none := by simpa [Addr.add] using World.cell?_spot (hone 0 (by omega)).1
      subst hspot
      refine ⟨_, _, _, fun j => intOf (V j), rfl, by unfold maxLen at hm; omega, fun j hj => ⟨b, off, rfl, ?_⟩, fun j hj => (hone j (by omega)).2⟩
      have := (hone j (by omega)).1
      rw [Go.WideShapes.add_plain] at this
      exact this
end Go.Proofs.Ytikpphbgjbfddaa
