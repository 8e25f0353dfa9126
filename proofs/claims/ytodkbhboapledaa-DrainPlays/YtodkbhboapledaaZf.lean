/- Arguments opened: an action, a slice of actions. -/
import Derived.Test.YtodkbhboapledaaZe
import Derived.Deep.Slices
import Derived.ChangeArms
import Derived.ChangeSame
namespace Go.Proofs.Ytodkbhboapledaa
open Go.ChangeShapes Go.WideShapes Go.RowKit
theorem act_cells : Try.prog.cellsOf 33 = 3 := by kernel_rfl
theorem int_cells : Try.prog.cellsOf 3 = 1 := by kernel_rfl
theorem u64_cells : Try.prog.cellsOf 31 = 1 := by kernel_rfl
theorem list3 {α : Type} {l : List α} (h : l.length = 3) : ∃ a b c, l = [a, b, c] := by
  obtain _ | ⟨a, l⟩ := l; · simp at h
  obtain _ | ⟨b, l⟩ := l; · simp at h
  obtain _ | ⟨c, l⟩ := l; · simp at h
  obtain _ | ⟨g, l⟩ := l
  · exact ⟨a, b, c, rfl⟩
  · simp at h
/-- The cells of an action. -/
theorem act_of_trod {H : Type} {enc : TypeId × Value → H} {W : World} {base : Nat} {sp : Nat → Bool} {held : Bool} {fuel : Nat} {cs : List Value} {x : DataW H × List MemPlace}
    (h : DataW.trod enc Try.prog W base sp held fuel 33 cs = some x) (hl : cs.length = 3) : ∃ a : A3, cs = [.int .u64 a.e, .int .i64 a.k, .int .i64 a.p] := by
  obtain ⟨c0, c1, c2, rfl⟩ := list3 hl
  obtain ⟨xs, m, _, hx, _, hlen, hfs⟩ := DataW.trod_struct Try.underlying33 h
  obtain ⟨y0, y1, y2, rfl⟩ := list3 (l := xs) hlen
  have f0 := hfs 0 _ rfl
  have f1 := hfs 1 _ rfl
  have f2 := hfs 2 _ rfl
  simp [u64_cells] at f0
  simp [int_cells] at f1 f2
  obtain ⟨e, e0, _, _⟩ := DataW.trod_int Try.underlying31 f0
  obtain ⟨k, e1, _, _⟩ := DataW.trod_int Try.underlying3 f1
  obtain ⟨p, e2, _, _⟩ := DataW.trod_int Try.underlying3 f2
  cases e0; cases e1; cases e2
  exact ⟨⟨e, k, p⟩, rfl⟩
/-- What is told of an argument that is an action. -/
def IsAct (v : Value) : Prop := ∃ a : A3, v = a.val
theorem open_action {H : Type} {enc : TypeId × Value → H} {W : World} {base : Nat} {v : Value} {d : DataW H} {p : List MemPlace} (hv : Value.okWide Try.prog W .any base 33 v)
    (h : DataW.Trod enc Try.prog W 0 (fun _ => true) true 33 v d p) : IsAct v := by
  obtain ⟨cs, rfl, hsz⟩ := okWide_struct Try.underlying33 hv
  rw [act_cells] at hsz
  obtain ⟨l⟩ := cs
  obtain ⟨fuel, hf⟩ := h
  obtain ⟨a, e⟩ := act_of_trod (cs := l) (by simpa [Value.cells] using hf) (by simpa using hsz)
  exact ⟨a, by rw [e]; rfl⟩
/-- What is told of an argument that is a slice of actions. -/
def IsAs (w : World) (v : Value) : Prop := ∃ ao len cap z, v = .slice ao len cap ∧ len ≤ 9223372036854775807 ∧ As w ao len z
theorem open_actions {H : Type} {enc : TypeId × Value → H} {W : World} {base : Nat} {v : Value} {d : DataW H} {p : List MemPlace} (hv : Value.okWide Try.prog W .any base 27 v)
    (h : DataW.Trod enc Try.prog W 0 (fun _ => true) true 27 v d p) : IsAs W v := by
  obtain ⟨ao, len, cap, rfl⟩ := okWide_slice Try.underlying27 hv
  obtain ⟨fuel, hf⟩ := h
  rcases Go.Deep.open_slice Try.underlying27 hf with ⟨hcs, _⟩ | ⟨a, l, c, m, n, D, Pl, hcs, _, hl, hm, hmm, _, hc⟩
  · simp [Value.cells] at hcs
    obtain ⟨rfl, rfl, rfl⟩ := hcs
    exact ⟨_, _, _, fun _ => ⟨0, 0, 0⟩, rfl, by decide, fun j hj => by omega⟩
  · simp [Value.cells] at hcs
    obtain ⟨rfl, rfl, rfl⟩ := hcs
    simp only [if_true] at hmm
    subst hmm
    rw [act_cells] at hc
    obtain ⟨b, off, spot⟩ := a
    have hone : ∀ i, i < m → ∃ z : A3, W.cell? (Addr.add ⟨b, off, spot⟩ (i * 3)) = some (.int .u64 z.e) ∧ W.cell? ((Addr.add ⟨b, off, spot⟩ (i * 3)).add 1) = some (.int .i64 z.k) ∧ W.cell? ((Addr.add ⟨b, off, spot⟩ (i * 3)).add 2) = some (.int .i64 z.p) := by
      intro i hi
      obtain ⟨cs', h1, h2⟩ := hc i hi
      obtain ⟨_, hlen, hget⟩ := World.cells?_some h1
      obtain ⟨z, rfl⟩ := act_of_trod h2 hlen
      refine ⟨z, ?_, ?_, ?_⟩
      · have := hget 0 (by decide); rw [show (Addr.add (Addr.add ⟨b, off, spot⟩ (i * 3)) 0) = Addr.add ⟨b, off, spot⟩ (i * 3) by simp [Addr.add]] at this; exact this
      · exact hget 1 (by decide)
      · exact hget 2 (by decide)
    by_cases h0 : len = 0
    · subst h0
      exact ⟨_, _, _, fun _ => ⟨0, 0, 0⟩, rfl, by decide, fun j hj => by omega⟩
    · have hspot : spot = none := by
        obtain ⟨z, h1, _⟩ := hone 0 (by omega)
        simpa [Addr.add] using World.cell?_spot h1
      subst hspot
      obtain ⟨z, hz⟩ := Go.Deep.choose_lt hone
      refine ⟨_, _, _, z, rfl, by unfold maxLen at hm; omega, fun j hj => ⟨b, off, rfl, ?_⟩⟩
      obtain ⟨q0, q1, q2⟩ := hz j (by omega)
      simp only [Go.WideShapes.add_plain] at q0 q1 q2
      exact ⟨q0, q1, q2⟩
end Go.Proofs.Ytodkbhboapledaa
