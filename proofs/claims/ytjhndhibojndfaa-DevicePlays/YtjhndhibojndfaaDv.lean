/- Calls as arguments, opened. -/
import Derived.Test.YtjhndhibojndfaaDu
import Derived.Deep.Slices
import Derived.ChangeArms
import Derived.ChangeSame
import Derived.OpenShut
import Derived.ProofKit
namespace Go.Proofs.Ytjhndhibojndfaa
open Go.ChangeShapes Go.WideShapes Go.ChangeAt Go.RowKit
/-- A call. -/
structure AcT where
  kd : Int
  b : Bk
  s : ByteArray
  n : Int
  po : Option Addr
  np : Nat
  pc : Nat
  z : Nat → Int
instance : Inhabited AcT := ⟨⟨0, (0, 0), ⟨#[]⟩, 0, none, 0, 0, fun _ => 0⟩⟩
def AcT.cells (x : AcT) : List Value := [.int .i64 x.kd, .int .i64 x.b.1, .int .i64 x.b.2, .string x.s, .int .i64 x.n, .slice x.po x.np x.pc]
/-- What is told of a call in the world that it came in. -/
structure AcOk (w : World) (x : AcT) : Prop where
  b : okK x.b
  s : x.s.size ≤ 9223372036854775807
  n : okI x.n
  np : x.np ≤ 9223372036854775807
  sl : Sl .i64 w x.po x.np x.z
  z : ∀ j, j < x.np → x.z j ≤ 9223372036854775807
theorem int_cells : Try.prog.cellsOf 3 = 1 := by kernel_rfl
theorem str_cells : Try.prog.cellsOf 9 = 1 := by kernel_rfl
theorem ints_cells : Try.prog.cellsOf 33 = 1 := by kernel_rfl
theorem bk_cells : Try.prog.cellsOf 32 = 2 := by kernel_rfl
theorem act_cells : Try.prog.cellsOf 35 = 6 := by kernel_rfl
theorem list2 {α : Type} {l : List α} (h : l.length = 2) : ∃ a b, l = [a, b] := by
  match l, h with
  | [a, b], _ => exact ⟨a, b, rfl⟩
theorem list5 {α : Type} {l : List α} (h : l.length = 5) : ∃ a b c d e, l = [a, b, c, d, e] := by
  match l, h with
  | [a, b, c, d, e], _ => exact ⟨a, b, c, d, e, rfl⟩
theorem list6 {α : Type} {l : List α} (h : l.length = 6) : ∃ a b c d e f, l = [a, b, c, d, e, f] := by
  match l, h with
  | [a, b, c, d, e, f], _ => exact ⟨a, b, c, d, e, f, rfl⟩
theorem bk_of_trod {H : Type} {enc : TypeId × Value → H} {W : World} {base : Nat} {sp : Nat → Bool} {held : Bool} {fuel : Nat} {cs : List Value} {x : DataW H × List MemPlace}
    (h : DataW.trod enc Try.prog W base sp held fuel 32 cs = some x) (hl : cs.length = 2) : ∃ b : Bk, okK b ∧ cs = [.int .i64 b.1, .int .i64 b.2] := by
  obtain ⟨c0, c1, rfl⟩ := list2 hl
  obtain ⟨xs, m, _, hx, _, hlen, hfs⟩ := DataW.trod_struct Try.underlying32 h
  obtain ⟨y0, y1, rfl⟩ := list2 (l := xs) hlen
  have f0 := hfs 0 _ rfl
  have f1 := hfs 1 _ rfl
  simp [int_cells] at f0 f1
  obtain ⟨a, e0, _, w0⟩ := DataW.trod_int Try.underlying3 f0
  obtain ⟨n, e1, _, w1⟩ := DataW.trod_int Try.underlying3 f1
  cases e0; cases e1
  exact ⟨(a, n), ⟨w0, w1⟩, rfl⟩
theorem picks_of_trod {H : Type} {enc : TypeId × Value → H} {W : World} {base : Nat} {fuel : Nat} {v : Value} {x : DataW H × List MemPlace}
    (h : DataW.trod enc Try.prog W base (fun _ => true) true fuel 33 [v] = some x) : ∃ (po : Option Addr) (np pc : Nat) (z : Nat → Int), v = .slice po np pc ∧ np ≤ 9223372036854775807 ∧ Sl .i64 W po np z ∧ ∀ j, j < np → z j ≤ 9223372036854775807 := by
  rcases Go.Deep.open_slice1 Try.underlying33 int_cells h with ⟨hcs, _⟩ | ⟨a, l, c, m, n, V, D, Pl, hcs, _, hl, hm, hmm, _, hc⟩
  · simp only [List.cons.injEq, and_true] at hcs
    exact ⟨none, 0, 0, fun _ => 0, hcs, by decide, fun j hj => by omega, fun j hj => by omega⟩
  · simp only [List.cons.injEq, and_true] at hcs
    simp only [if_true] at hmm
    subst hmm
    obtain ⟨b, off, spot⟩ := a
    have hone : ∀ i, i < m → W.cell? (Addr.add ⟨b, off, spot⟩ i) = some (.int .i64 (intOf (V i))) ∧ intOf (V i) ≤ 9223372036854775807 := by
      intro i hi
      obtain ⟨h1, h2⟩ := hc i hi
      obtain ⟨z, e, _, hwf⟩ := DataW.trod_int Try.underlying3 h2
      simp only [List.cons.injEq, and_true] at e
      have := bounds_i64 hwf
      rw [h1, e]
      exact ⟨rfl, by simp only [intOf]; omega⟩
    by_cases h0 : l = 0
    · subst h0
      exact ⟨_, _, _, fun _ => 0, hcs, by decide, fun j hj => by omega, fun j hj => by omega⟩
    · have hspot : spot = none := by simpa [Addr.add] using World.cell?_spot (hone 0 (by omega)).1
      subst hspot
      refine ⟨_, _, _, fun j => intOf (V j), hcs, by unfold maxLen at hm; omega, fun j hj => ⟨b, off, rfl, ?_⟩, fun j hj => (hone j (by omega)).2⟩
      have := (hone j (by omega)).1
      rw [Go.WideShapes.add_plain] at this
      exact this
theorem act_of_trod {H : Type} {enc : TypeId × Value → H} {W : World} {base : Nat} {fuel : Nat} {cs : List Value} {x : DataW H × List MemPlace}
    (h : DataW.trod enc Try.prog W base (fun _ => true) true fuel 35 cs = some x) (hl : cs.length = 6) : ∃ a : AcT, AcOk W a ∧ cs = a.cells := by
  obtain ⟨c0, c1, c2, c3, c4, c5, rfl⟩ := list6 hl
  obtain ⟨xs, m, _, hx, _, hlen, hfs⟩ := DataW.trod_struct Try.underlying35 h
  obtain ⟨y0, y1, y2, y3, y4, rfl⟩ := list5 (l := xs) hlen
  have f0 := hfs 0 _ rfl
  have f1 := hfs 1 _ rfl
  have f2 := hfs 2 _ rfl
  have f3 := hfs 3 _ rfl
  have f4 := hfs 4 _ rfl
  simp [int_cells] at f0 f3
  simp [bk_cells] at f1
  simp [str_cells] at f2
  simp [ints_cells] at f4
  obtain ⟨kd, e0, _, _⟩ := DataW.trod_int Try.underlying3 f0
  obtain ⟨b, hb, e1⟩ := bk_of_trod f1 rfl
  obtain ⟨s, e2, _, hs⟩ := DataW.trod_string Try.underlying9 f2
  obtain ⟨n, e3, _, hn⟩ := DataW.trod_int Try.underlying3 f3
  obtain ⟨po, np, pc, z, e4, hnp, hsl, hz⟩ := picks_of_trod f4
  cases e0; cases e2; cases e3; cases e4
  simp only [List.cons.injEq, and_true] at e1
  obtain ⟨rfl, rfl⟩ := e1
  exact ⟨⟨kd, b, s, n, po, np, pc, z⟩, ⟨hb, by unfold maxLen at hs; exact hs, hn, hnp, hsl, hz⟩, rfl⟩
/-- A call as an argument. -/
def IsAct (w : World) (v : Value) : Prop := ∃ x : AcT, AcOk w x ∧ v = .agg #[.int .i64 x.kd, .int .i64 x.b.1, .int .i64 x.b.2, .string x.s, .int .i64 x.n, .slice x.po x.np x.pc]
set_option maxRecDepth 100000 in
theorem open_act11 {H : Type} {enc : TypeId × Value → H} {W : World} {base : Nat} {v : Value} {d : DataW H} {p : List MemPlace} (hv : Value.okWide Try.prog W .any base 35 v)
    (h : DataW.Trod enc Try.prog W 0 (fun _ => true) true 35 v d p) : IsAct W v := by
  obtain ⟨cs, rfl, hsz⟩ := okWide_struct Try.underlying35 hv
  rw [act_cells] at hsz
  obtain ⟨l⟩ := cs
  obtain ⟨fuel, hf⟩ := h
  obtain ⟨x, hx, e⟩ := act_of_trod (cs := l) (by simpa [Value.cells] using hf) (by simpa using hsz)
  exact ⟨x, hx, by rw [e]; rfl⟩
/-- A block as an argument. -/
def IsBk (v : Value) : Prop := ∃ b : Bk, okK b ∧ v = .agg #[.int .i64 b.1, .int .i64 b.2]
set_option maxRecDepth 100000 in
theorem open_bk {H : Type} {enc : TypeId × Value → H} {W : World} {base : Nat} {v : Value} {d : DataW H} {p : List MemPlace} (hv : Value.okWide Try.prog W .any base 32 v)
    (h : DataW.Trod enc Try.prog W 0 (fun _ => true) true 32 v d p) : IsBk v := by
  obtain ⟨cs, rfl, hsz⟩ := okWide_struct Try.underlying32 hv
  rw [bk_cells] at hsz
  obtain ⟨l⟩ := cs
  obtain ⟨fuel, hf⟩ := h
  obtain ⟨b, hb, e⟩ := bk_of_trod (cs := l) (by simpa [Value.cells] using hf) (by simpa using hsz)
  exact ⟨b, hb, by rw [e]⟩
/-- A slice of calls that is read. -/
def Acs (w : World) (ao : Option Addr) (n : Nat) (z : Nat → AcT) : Prop :=
  ∀ j, j < n → AcOk w (z j) ∧ ∃ b off, ao = some ⟨b, off, none⟩ ∧ w.cell? ⟨b, off + j * 6, none⟩ = some (.int .i64 (z j).kd) ∧ w.cell? ⟨b, off + j * 6 + 1, none⟩ = some (.int .i64 (z j).b.1) ∧ w.cell? ⟨b, off + j * 6 + 2, none⟩ = some (.int .i64 (z j).b.2) ∧
    w.cell? ⟨b, off + j * 6 + 3, none⟩ = some (.string (z j).s) ∧ w.cell? ⟨b, off + j * 6 + 4, none⟩ = some (.int .i64 (z j).n) ∧ w.cell? ⟨b, off + j * 6 + 5, none⟩ = some (.slice (z j).po (z j).np (z j).pc)
theorem AcOk.below {w w' : World} {x : AcT} (h : AcOk w x) (hb : Below w.heap.size w w') : AcOk w' x := ⟨h.b, h.s, h.n, h.np, h.sl.below hb, h.z⟩
theorem Acs.below {w w' : World} {ao : Option Addr} {n : Nat} {z : Nat → AcT} (h : Acs w ao n z) (hb : Below w.heap.size w w') : Acs w' ao n z := by
  intro j hj
  obtain ⟨h0, b, off, h1, h2, h3, h4, h5, h6, h7⟩ := h j hj
  refine ⟨h0.below hb, b, off, h1, ?_, ?_, ?_, ?_, ?_, ?_⟩
  · rw [hb.cell (World.block_lt_of_cell? w _ h2)]; exact h2
  · rw [hb.cell (World.block_lt_of_cell? w _ h3)]; exact h3
  · rw [hb.cell (World.block_lt_of_cell? w _ h4)]; exact h4
  · rw [hb.cell (World.block_lt_of_cell? w _ h5)]; exact h5
  · rw [hb.cell (World.block_lt_of_cell? w _ h6)]; exact h6
  · rw [hb.cell (World.block_lt_of_cell? w _ h7)]; exact h7
def IsActs (w : World) (v : Value) : Prop := ∃ ao len cap z, v = .slice ao len cap ∧ len ≤ 9223372036854775807 ∧ Acs w ao len z
set_option maxRecDepth 100000 in
theorem open_acts11 {H : Type} {enc : TypeId × Value → H} {W : World} {base : Nat} {v : Value} {d : DataW H} {p : List MemPlace} (hv : Value.okWide Try.prog W .any base 22 v)
    (h : DataW.Trod enc Try.prog W 0 (fun _ => true) true 22 v d p) : IsActs W v := by
  obtain ⟨ao, len, cap, rfl⟩ := okWide_slice Try.underlying22 hv
  obtain ⟨fuel, hf⟩ := h
  rcases Go.Deep.open_slice Try.underlying22 hf with ⟨hcs, _⟩ | ⟨a, l, c, m, n, D, Pl, hcs, _, hl, hm, hmm, _, hc⟩
  · simp [Value.cells] at hcs
    obtain ⟨rfl, rfl, rfl⟩ := hcs
    exact ⟨_, _, _, fun _ => default, rfl, by decide, fun j hj => by omega⟩
  · simp [Value.cells] at hcs
    obtain ⟨rfl, rfl, rfl⟩ := hcs
    simp only [if_true] at hmm
    subst hmm
    rw [act_cells] at hc
    obtain ⟨b, off, spot⟩ := a
    have hone : ∀ i, i < m → ∃ z : AcT, AcOk W z ∧ W.cell? ((Addr.add ⟨b, off, spot⟩ (i * 6)).add 0) = some (.int .i64 z.kd) ∧ W.cell? ((Addr.add ⟨b, off, spot⟩ (i * 6)).add 1) = some (.int .i64 z.b.1) ∧ W.cell? ((Addr.add ⟨b, off, spot⟩ (i * 6)).add 2) = some (.int .i64 z.b.2) ∧ W.cell? ((Addr.add ⟨b, off, spot⟩ (i * 6)).add 3) = some (.string z.s) ∧ W.cell? ((Addr.add ⟨b, off, spot⟩ (i * 6)).add 4) = some (.int .i64 z.n) ∧ W.cell? ((Addr.add ⟨b, off, spot⟩ (i * 6)).add 5) = some (.slice z.po z.np z.pc) := by
      intro i hi
      obtain ⟨cs', h1, h2⟩ := hc i hi
      obtain ⟨_, hlen, hget⟩ := World.cells?_some h1
      obtain ⟨z, hz, rfl⟩ := act_of_trod h2 hlen
      exact ⟨z, hz, hget 0 (by decide), hget 1 (by decide), hget 2 (by decide), hget 3 (by decide), hget 4 (by decide), hget 5 (by decide)⟩
    by_cases h0 : len = 0
    · subst h0
      exact ⟨_, _, _, fun _ => default, rfl, by decide, fun j hj => by omega⟩
    · have hspot : spot = none := by
        obtain ⟨z, _, h1, _⟩ := hone 0 (by omega)
        simpa [Addr.add] using World.cell?_spot h1
      subst hspot
      obtain ⟨z, hz⟩ := Go.Deep.choose_lt hone
      refine ⟨_, _, _, z, rfl, by unfold maxLen at hm; omega, fun j hj => ?_⟩
      obtain ⟨k0, k1⟩ := hz j (by omega)
      refine ⟨k0, b, off, rfl, ?_⟩
      simp only [Go.WideShapes.add_plain, Nat.add_zero] at k1
      exact k1
end Go.Proofs.Ytjhndhibojndfaa
