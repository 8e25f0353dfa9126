/- Calls of marks as arguments; how marks keep their order. -/
import Derived.Test.YtpnomcaionodjaaKc
import Derived.Deep.Slices
import Derived.Deep.RegionHeld3
import Derived.ChangeArms
import Derived.ChangeSame
import Derived.ProofKit
namespace Go.Proofs.Ytpnomcaionodjaa
open Go.ChangeShapes Go.WideShapes Go.ChangeAt Go.RowKit
structure Am where
  begin : Bool
  mark : Int
  to : Int
  tail : Int
instance : Inhabited Am := ⟨⟨false, 0, 0, 0⟩⟩
def Am.cells (x : Am) : List Value := [.bool x.begin, .int .i64 x.mark, .int .i64 x.to, .int .u8 x.tail]
structure AmOk (x : Am) : Prop where
  mark : -9223372036854775808 ≤ x.mark ∧ x.mark ≤ 9223372036854775807
  to : -9223372036854775808 ≤ x.to ∧ x.to ≤ 9223372036854775807
  tail : 0 ≤ x.tail ∧ x.tail ≤ 255
theorem Amcells_4 : Try.prog.cellsOf 4 = 1 := by kernel_rfl
theorem Amcells_3 : Try.prog.cellsOf 3 = 1 := by kernel_rfl
theorem Amcells_5 : Try.prog.cellsOf 5 = 1 := by kernel_rfl
theorem Amcells : Try.prog.cellsOf 31 = 4 := by kernel_rfl
theorem Amlist {α : Type} {l : List α} (h : l.length = 4) : ∃ c0 c1 c2 c3, l = [c0, c1, c2, c3] := by
  match l, h with
  | [c0, c1, c2, c3], _ => exact ⟨c0, c1, c2, c3, rfl⟩
theorem Am_of_trod {H : Type} {enc : TypeId × Value → H} {W : World} {base : Nat} {sp : Nat → Bool} {held : Bool} {fuel : Nat} {cs : List Value} {x : DataW H × List MemPlace}
    (h : DataW.trod enc Try.prog W base sp held fuel 31 cs = some x) (hl : cs.length = 4) : ∃ a : Am, AmOk a ∧ cs = a.cells := by
  obtain ⟨c0, c1, c2, c3, rfl⟩ := Amlist hl
  obtain ⟨xs, m, _, hx, _, hlen, hfs⟩ := DataW.trod_struct Try.underlying31 h
  obtain ⟨y0, y1, y2, y3, rfl⟩ := Amlist (l := xs) hlen
  have f0 := hfs 0 _ rfl
  have f1 := hfs 1 _ rfl
  have f2 := hfs 2 _ rfl
  have f3 := hfs 3 _ rfl
  simp [Amcells_4] at f0
  simp [Amcells_3] at f1
  simp [Amcells_3] at f2
  simp [Amcells_5] at f3
  obtain ⟨v0, e0, _⟩ := DataW.trod_bool Try.underlying4 f0
  obtain ⟨v1, e1, _, w1⟩ := DataW.trod_int Try.underlying3 f1
  obtain ⟨v2, e2, _, w2⟩ := DataW.trod_int Try.underlying3 f2
  obtain ⟨v3, e3, _, w3⟩ := DataW.trod_int Try.underlying5 f3
  cases e0; cases e1; cases e2; cases e3
  exact ⟨⟨v0, v1, v2, v3⟩, ⟨bounds_i64 w1, bounds_i64 w2, bounds_u8 w3⟩, rfl⟩
/-- A call as an argument. -/
def IsAm (_ : World) (v : Value) : Prop := ∃ x : Am, AmOk x ∧ v = .agg #[.bool x.begin, .int .i64 x.mark, .int .i64 x.to, .int .u8 x.tail]
set_option maxRecDepth 100000 in
theorem open_Am {H : Type} {enc : TypeId × Value → H} {W : World} {base : Nat} {v : Value} {d : DataW H} {p : List MemPlace} (hv : Value.okWide Try.prog W .any base 31 v)
    (h : DataW.Trod enc Try.prog W 0 (fun _ => true) true 31 v d p) : IsAm W v := by
  obtain ⟨cs, rfl, hsz⟩ := okWide_struct Try.underlying31 hv
  rw [Amcells] at hsz
  obtain ⟨l⟩ := cs
  obtain ⟨fuel, hf⟩ := h
  obtain ⟨x, hx, e⟩ := Am_of_trod (cs := l) (by simpa [Value.cells] using hf) (by simpa using hsz)
  exact ⟨x, hx, by rw [e]; rfl⟩
/-- A call in memory. -/
structure AmAt (w : World) (b off : Nat) (x : Am) : Prop where
  c0 : w.cell? ⟨b, off, none⟩ = some (.bool x.begin)
  c1 : w.cell? ⟨b, off + 1, none⟩ = some (.int .i64 x.mark)
  c2 : w.cell? ⟨b, off + 2, none⟩ = some (.int .i64 x.to)
  c3 : w.cell? ⟨b, off + 3, none⟩ = some (.int .u8 x.tail)
theorem AmAt.lt {w : World} {b off : Nat} {x : Am} (h : AmAt w b off x) : b < w.heap.size := World.block_lt_of_cell? w _ h.c0
theorem AmAt.below {w w' : World} {b off : Nat} {x : Am} (h : AmAt w b off x) (hb : Below w.heap.size w w') : AmAt w' b off x :=
  ⟨by rw [hb.cell h.lt]; exact h.c0, by rw [hb.cell h.lt]; exact h.c1, by rw [hb.cell h.lt]; exact h.c2, by rw [hb.cell h.lt]; exact h.c3⟩
theorem AmAt.under {w w' : World} {b off B : Nat} {x : Am} (h : AmAt w b off x) (hb : Below B w w') (hB : b < B) : AmAt w' b off x :=
  ⟨by rw [hb.cell hB]; exact h.c0, by rw [hb.cell hB]; exact h.c1, by rw [hb.cell hB]; exact h.c2, by rw [hb.cell hB]; exact h.c3⟩
/-- A slice of calls that is read. -/
def Ams (w : World) (ao : Option Addr) (n : Nat) (z : Nat → Am) : Prop := ∀ j, j < n → AmOk (z j) ∧ ∃ b off, ao = some ⟨b, off, none⟩ ∧ AmAt w b (off + j * 4) (z j)
theorem Ams.below {w w' : World} {ao : Option Addr} {n : Nat} {z : Nat → Am} (h : Ams w ao n z) (hb : Below w.heap.size w w') : Ams w' ao n z := fun j hj => by
  obtain ⟨h0, b, off, h1, h2⟩ := h j hj
  exact ⟨h0, b, off, h1, h2.below hb⟩
def IsAms (w : World) (v : Value) : Prop := ∃ ao len cap z, v = .slice ao len cap ∧ len ≤ 9223372036854775807 ∧ Ams w ao len z
set_option maxRecDepth 100000 in
theorem open_Ams {H : Type} {enc : TypeId × Value → H} {W : World} {base : Nat} {v : Value} {d : DataW H} {p : List MemPlace} (hv : Value.okWide Try.prog W .any base 22 v)
    (h : DataW.Trod enc Try.prog W 0 (fun _ => true) true 22 v d p) : IsAms W v := by
  obtain ⟨ao, len, cap, rfl⟩ := okWide_slice Try.underlying22 hv
  obtain ⟨fuel, hf⟩ := h
  rcases Go.Deep.open_slice Try.underlying22 hf with ⟨hcs, _⟩ | ⟨a, l, c, m, n, D, Pl, hcs, _, hl, hm, hmm, _, hc⟩
  · simp [Value.cells] at hcs
    obtain ⟨rfl, rfl, rfl⟩ := hcs
    exact ⟨_, _, _, fun _ => default, rfl, by decide, fun j hj => by omega⟩
  · simp [Value.cells] at hcs
    obtain ⟨rfl, rfl, rfl⟩ := hcs
    simp only [if_true] at hmm
    subst hmm
    rw [Amcells] at hc
    obtain ⟨b, off, spot⟩ := a
    have hone : ∀ i, i < m → ∃ z : Am, AmOk z ∧ W.cell? ((Addr.add ⟨b, off, spot⟩ (i * 4)).add 0) = some (.bool z.begin) ∧ W.cell? ((Addr.add ⟨b, off, spot⟩ (i * 4)).add 1) = some (.int .i64 z.mark) ∧ W.cell? ((Addr.add ⟨b, off, spot⟩ (i * 4)).add 2) = some (.int .i64 z.to) ∧ W.cell? ((Addr.add ⟨b, off, spot⟩ (i * 4)).add 3) = some (.int .u8 z.tail) := by
      intro i hi
      obtain ⟨cs', h1, h2⟩ := hc i hi
      obtain ⟨_, hlen, hget⟩ := World.cells?_some h1
      obtain ⟨z, hz, rfl⟩ := Am_of_trod h2 hlen
      exact ⟨z, hz, hget 0 (by decide), hget 1 (by decide), hget 2 (by decide), hget 3 (by decide)⟩
    by_cases h0 : len = 0
    · subst h0
      exact ⟨_, _, _, fun _ => default, rfl, by decide, fun j hj => by omega⟩
    · have hspot : spot = none := by
        obtain ⟨z, _, h1, _⟩ := hone 0 (by omega)
        simpa [Addr.add] using World.cell?_spot h1
      subst hspot
      obtain ⟨z, hz⟩ := Go.Deep.choose_lt hone
      refine ⟨_, _, _, z, rfl, by unfold maxLen at hm; omega, fun j hj => ?_⟩
      obtain ⟨k0, k1⟩ := hz j (by omega)
      refine ⟨k0, b, off, rfl, ?_⟩
      simp only [Go.WideShapes.add_plain, Nat.add_zero] at k1
      obtain ⟨a0, a1, a2, a3⟩ := k1
      exact ⟨a0, a1, a2, a3⟩
/-- Marks of the law: in order, at most the tail, while nothing was begun. -/
theorem ord_zero : OrdM (fun _ => 0) := by simp [OrdM]
theorem ord_begin {v : Nat → Nat} (h : OrdM v) (p : Int) : OrdM (beginV v p) := by
  unfold beginV
  split
  · simp [OrdM]
  · exact h
theorem raise_as (v : Nat → Nat) (i to T : Int) : raiseV v i to T = v ∨ ∃ j y : Nat, j < 5 ∧ i = (j : Int) ∧ to = (y : Int) ∧ v j < y ∧ (y : Int) ≤ mostN v j T ∧ raiseV v i to T = upM v j y := by
  unfold raiseV
  by_cases h : raiseE v i to T = 0
  · right
    rw [if_pos h]
    unfold raiseE at h
    by_cases h1 : i < 0 ∨ 5 ≤ i
    · rw [if_pos h1] at h; exact absurd h (by decide)
    rw [if_neg h1] at h
    by_cases h2 : to ≤ (v i.toNat : Int)
    · rw [if_pos h2] at h; exact absurd h (by decide)
    rw [if_neg h2] at h
    by_cases h3 : mostN v i.toNat T < to
    · rw [if_pos h3] at h; exact absurd h (by decide)
    exact ⟨i.toNat, to.toNat, by omega, by omega, by omega, by omega, by omega, rfl⟩
  · left; rw [if_neg h]
theorem ord_raise {v : Nat → Nat} (h : OrdM v) (i to T : Int) : OrdM (raiseV v i to T) := by
  rcases raise_as v i to T with e | ⟨j, y, hj, rfl, rfl, hlt, hle, e⟩
  · rw [e]; exact h
  · rw [e]
    obtain ⟨h1, h2, h3, h4⟩ := h
    unfold mostN at hle
    have hj' : j = 0 ∨ j = 1 ∨ j = 2 ∨ j = 3 ∨ j = 4 := by omega
    rcases hj' with rfl | rfl | rfl | rfl | rfl <;> simp [OrdM, upM] at * <;> omega
end Go.Proofs.Ytpnomcaionodjaa
