/- A slice of bytes opened; lists of actions by their numbers. -/
import Derived.Test.YtodkbhboapledaaZf
namespace Go.Proofs.Ytodkbhboapledaa
open Go.ChangeShapes Go.WideShapes Go.RowKit
theorem u8_cells : Try.prog.cellsOf 5 = 1 := by kernel_rfl
/-- What is told of an argument that is a slice of bytes. -/
def IsU8s (w : World) (v : Value) : Prop := ∃ ao len cap z, v = .slice ao len cap ∧ len ≤ 9223372036854775807 ∧ Sl .u8 w ao len z ∧ ∀ j, j < len → 0 ≤ z j ∧ z j ≤ 255
theorem open_u8s {H : Type} {enc : TypeId × Value → H} {W : World} {base : Nat} {v : Value} {d : DataW H} {p : List MemPlace} (hv : Value.okWide Try.prog W .any base 44 v)
    (h : DataW.Trod enc Try.prog W 0 (fun _ => true) true 44 v d p) : IsU8s W v := by
  obtain ⟨ao, len, cap, rfl⟩ := okWide_slice Try.underlying44 hv
  obtain ⟨fuel, hf⟩ := h
  rcases Go.Deep.open_slice1 Try.underlying44 u8_cells hf with ⟨hcs, _⟩ | ⟨a, l, c, m, n, V, D, Pl, hcs, _, hl, hm, hmm, _, hc⟩
  · simp [Value.cells] at hcs
    obtain ⟨rfl, rfl, rfl⟩ := hcs
    exact ⟨_, _, _, fun _ => 0, rfl, by decide, fun j hj => by omega, fun j hj => by omega⟩
  · simp [Value.cells] at hcs
    obtain ⟨rfl, rfl, rfl⟩ := hcs
    simp only [if_true] at hmm
    subst hmm
    obtain ⟨b, off, spot⟩ := a
    have hone : ∀ i, i < m → W.cell? (Addr.add ⟨b, off, spot⟩ i) = some (.int .u8 (intOf (V i))) ∧ 0 ≤ intOf (V i) ∧ intOf (V i) ≤ 255 := by
      intro i hi
      obtain ⟨h1, h2⟩ := hc i hi
      obtain ⟨z, e, _, hwf⟩ := DataW.trod_int Try.underlying5 h2
      simp only [List.cons.injEq, and_true] at e
      have := bounds_u8 hwf
      rw [h1, e]
      exact ⟨rfl, by simp only [intOf]; omega, by simp only [intOf]; omega⟩
    by_cases h0 : len = 0
    · subst h0
      exact ⟨_, _, _, fun _ => 0, rfl, by decide, fun j hj => by omega, fun j hj => by omega⟩
    · have hspot : spot = none := by simpa [Addr.add] using World.cell?_spot (hone 0 (by omega)).1
      subst hspot
      refine ⟨_, _, _, fun j => intOf (V j), rfl, by unfold maxLen at hm; omega, fun j hj => ⟨b, off, rfl, ?_⟩, fun j hj => (hone j (by omega)).2⟩
      have := (hone j (by omega)).1
      rw [Go.WideShapes.add_plain] at this
      exact this
/-- The first i actions of a slice. -/
def takeZ (z : Nat → A3) (i : Nat) : List A3 := (List.range i).map z
theorem takeZ_length (z : Nat → A3) (i : Nat) : (takeZ z i).length = i := by simp [takeZ]
theorem takeZ_succ (z : Nat → A3) (i : Nat) : takeZ z (i + 1) = takeZ z i ++ [z i] := by simp [takeZ, List.range_succ]
theorem ready_rest_length (s : Int) (l : List A3) : (readyL s l).length + (restL s l).length = l.length := by
  induction l with
  | nil => rfl
  | cons a l ih =>
    unfold readyL restL at *
    by_cases h : a.e ≤ s <;> simp [h] <;> omega
theorem readyL_get (s : Int) (l : List A3) (i : Nat) (h : i < (readyL s l).length) : (getL (readyL s l) i).e ≤ s ∧ getL (readyL s l) i ∈ l := by
  have e : getL (readyL s l) i = (readyL s l)[i] := by simp [getL, List.getD_eq_getElem?_getD, h]
  have hm : getL (readyL s l) i ∈ readyL s l := by rw [e]; exact List.getElem_mem h
  generalize getL (readyL s l) i = a at *
  unfold readyL at hm
  rw [List.mem_filter] at hm
  exact ⟨by simpa using hm.2, hm.1⟩
theorem restL_above (s : Int) (l : List A3) : ∀ a ∈ restL s l, s < a.e := by
  intro a ha
  unfold restL at ha
  rw [List.mem_filter] at ha
  have := ha.2
  simp at this
  omega
end Go.Proofs.Ytodkbhboapledaa
