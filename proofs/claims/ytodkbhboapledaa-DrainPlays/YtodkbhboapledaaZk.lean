/- A slice of calls opened. -/
import Derived.Test.YtodkbhboapledaaZj
namespace Go.Proofs.Ytodkbhboapledaa
open Go.ChangeShapes Go.WideShapes Go.RowKit
theorem call_cells : Try.prog.cellsOf 35 = 5 := by kernel_rfl
theorem bool_cells : Try.prog.cellsOf 4 = 1 := by kernel_rfl
/-- A call. -/
structure C7 where
  put : Bool
  a : A3
  s : Int
instance : Inhabited C7 := ⟨⟨false, ⟨0, 0, 0⟩, 0⟩⟩
theorem list5 {α : Type} {l : List α} (h : l.length = 5) : ∃ a b c d e, l = [a, b, c, d, e] := by
  obtain _ | ⟨a, l⟩ := l; · simp at h
  obtain _ | ⟨b, l⟩ := l; · simp at h
  obtain _ | ⟨c, l⟩ := l; · simp at h
  obtain _ | ⟨d, l⟩ := l; · simp at h
  obtain _ | ⟨e, l⟩ := l; · simp at h
  obtain _ | ⟨g, l⟩ := l
  · exact ⟨a, b, c, d, e, rfl⟩
  · simp at h
theorem call_of_trod {H : Type} {enc : TypeId × Value → H} {W : World} {base : Nat} {sp : Nat → Bool} {held : Bool} {fuel : Nat} {cs : List Value} {x : DataW H × List MemPlace}
    (h : DataW.trod enc Try.prog W base sp held fuel 35 cs = some x) (hl : cs.length = 5) : ∃ c : C7, cs = [.bool c.put, .int .u64 c.a.e, .int .i64 c.a.k, .int .i64 c.a.p, .int .u64 c.s] := by
  obtain ⟨c0, c1, c2, c3, c4, rfl⟩ := list5 hl
  obtain ⟨xs, m, _, hx, _, hlen, hfs⟩ := DataW.trod_struct Try.underlying35 h
  obtain ⟨y0, y1, y2, rfl⟩ := list3 (l := xs) hlen
  have f0 := hfs 0 _ rfl
  have f1 := hfs 1 _ rfl
  have f2 := hfs 2 _ rfl
  simp [bool_cells] at f0
  simp [act_cells] at f1
  simp [u64_cells] at f2
  obtain ⟨p, e0, _⟩ := DataW.trod_bool Try.underlying4 f0
  obtain ⟨a, e1⟩ := act_of_trod f1 rfl
  obtain ⟨s, e2, _, _⟩ := DataW.trod_int Try.underlying31 f2
  cases e0; cases e2
  simp only [List.cons.injEq, and_true] at e1
  obtain ⟨rfl, rfl, rfl⟩ := e1
  exact ⟨⟨p, a, s⟩, rfl⟩
/-- A slice of calls that is read. -/
def Cs (w : World) (ao : Option Addr) (n : Nat) (z : Nat → C7) : Prop :=
  ∀ j, j < n → ∃ b off, ao = some ⟨b, off, none⟩ ∧ w.cell? ⟨b, off + j * 5, none⟩ = some (.bool (z j).put) ∧ w.cell? ⟨b, off + j * 5 + 1, none⟩ = some (.int .u64 (z j).a.e) ∧ w.cell? ⟨b, off + j * 5 + 2, none⟩ = some (.int .i64 (z j).a.k) ∧ w.cell? ⟨b, off + j * 5 + 3, none⟩ = some (.int .i64 (z j).a.p) ∧ w.cell? ⟨b, off + j * 5 + 4, none⟩ = some (.int .u64 (z j).s)
theorem Cs.below {w w' : World} {ao : Option Addr} {n : Nat} {z : Nat → C7} (h : Cs w ao n z) (hb : Below w.heap.size w w') : Cs w' ao n z := by
  intro j hj
  obtain ⟨b, off, h1, h2, h3, h4, h5, h6⟩ := h j hj
  have hl : b < w.heap.size := World.block_lt_of_cell? w _ h2
  exact ⟨b, off, h1, by rw [hb.cell hl]; exact h2, by rw [hb.cell hl]; exact h3, by rw [hb.cell hl]; exact h4, by rw [hb.cell hl]; exact h5, by rw [hb.cell hl]; exact h6⟩
def IsCs (w : World) (v : Value) : Prop := ∃ ao len cap z, v = .slice ao len cap ∧ len ≤ 9223372036854775807 ∧ Cs w ao len z
theorem open_calls {H : Type} {enc : TypeId × Value → H} {W : World} {base : Nat} {v : Value} {d : DataW H} {p : List MemPlace} (hv : Value.okWide Try.prog W .any base 22 v)
    (h : DataW.Trod enc Try.prog W 0 (fun _ => true) true 22 v d p) : IsCs W v := by
  obtain ⟨ao, len, cap, rfl⟩ := okWide_slice Try.underlying22 hv
  obtain ⟨fuel, hf⟩ := h
  rcases Go.Deep.open_slice Try.underlying22 hf with ⟨hcs, _⟩ | ⟨a, l, c, m, n, D, Pl, hcs, _, hl, hm, hmm, _, hc⟩
  · simp [Value.cells] at hcs
    obtain ⟨rfl, rfl, rfl⟩ := hcs
    exact ⟨_, _, _, fun _ => default, rfl, by decide, fun j hj => by omega⟩
  · simp [Value.cells] at hcs
    obtain ⟨rfl, rfl, rfl⟩ := hcs
    simp only [if_true] at hmm
    subst hmm
    rw [call_cells] at hc
    obtain ⟨b, off, spot⟩ := a
    have hone : ∀ i, i < m → ∃ z : C7, W.cell? ((Addr.add ⟨b, off, spot⟩ (i * 5)).add 0) = some (.bool z.put) ∧ W.cell? ((Addr.add ⟨b, off, spot⟩ (i * 5)).add 1) = some (.int .u64 z.a.e) ∧ W.cell? ((Addr.add ⟨b, off, spot⟩ (i * 5)).add 2) = some (.int .i64 z.a.k) ∧ W.cell? ((Addr.add ⟨b, off, spot⟩ (i * 5)).add 3) = some (.int .i64 z.a.p) ∧ W.cell? ((Addr.add ⟨b, off, spot⟩ (i * 5)).add 4) = some (.int .u64 z.s) := by
      intro i hi
      obtain ⟨cs', h1, h2⟩ := hc i hi
      obtain ⟨_, hlen, hget⟩ := World.cells?_some h1
      obtain ⟨z, rfl⟩ := call_of_trod h2 hlen
      exact ⟨z, hget 0 (by decide), hget 1 (by decide), hget 2 (by decide), hget 3 (by decide), hget 4 (by decide)⟩
    by_cases h0 : len = 0
    · subst h0
      exact ⟨_, _, _, fun _ => default, rfl, by decide, fun j hj => by omega⟩
    · have hspot : spot = none := by
        obtain ⟨z, h1, _⟩ := hone 0 (by omega)
        simpa [Addr.add] using World.cell?_spot h1
      subst hspot
      obtain ⟨z, hz⟩ := Go.Deep.choose_lt hone
      refine ⟨_, _, _, z, rfl, by unfold maxLen at hm; omega, fun j hj => ⟨b, off, rfl, ?_⟩⟩
      have := hz j (by omega)
      simp only [Go.WideShapes.add_plain, Nat.add_zero] at this
      exact this
end Go.Proofs.Ytodkbhboapledaa
