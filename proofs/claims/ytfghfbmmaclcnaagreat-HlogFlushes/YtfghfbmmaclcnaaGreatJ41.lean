/- Parts of the proof: Vy. -/
import Derived.Test.YtfghfbmmaclcnaaGreatJ40
import Derived.Deep.Slices
import Derived.Deep.RegionHeld3
import Derived.ChangeArms
import Derived.ChangeSame
import Derived.ProofKit
namespace Go.Proofs.YtfghfbmmaclcnaaGreat
set_option maxRecDepth 20000
open Go.ChangeShapes Go.WideShapes Go.ChangeAt Go.RowKit
structure Cg where
  bits : Int
  frames : Int
  space : Int
  buckets : Int
  spare : Int
  sess : Int
instance : Inhabited Cg := ⟨⟨0, 0, 0, 0, 0, 0⟩⟩
def Cg.cells (x : Cg) : List Value := [.int .i64 x.bits, .int .i64 x.frames, .int .i64 x.space, .int .i64 x.buckets, .int .i64 x.spare, .int .i64 x.sess]
structure CgOk (x : Cg) : Prop where
  bits : -9223372036854775808 ≤ x.bits ∧ x.bits ≤ 9223372036854775807
  frames : -9223372036854775808 ≤ x.frames ∧ x.frames ≤ 9223372036854775807
  space : -9223372036854775808 ≤ x.space ∧ x.space ≤ 9223372036854775807
  buckets : -9223372036854775808 ≤ x.buckets ∧ x.buckets ≤ 9223372036854775807
  spare : -9223372036854775808 ≤ x.spare ∧ x.spare ≤ 9223372036854775807
  sess : -9223372036854775808 ≤ x.sess ∧ x.sess ≤ 9223372036854775807
theorem Cgcells_3 : Tryz.prog.cellsOf 3 = 1 := by kernel_rfl
theorem Cgcells : Tryz.prog.cellsOf 23 = 6 := by kernel_rfl
theorem Cglist {α : Type} {l : List α} (h : l.length = 6) : ∃ c0 c1 c2 c3 c4 c5, l = [c0, c1, c2, c3, c4, c5] := by
  match l, h with
  | [c0, c1, c2, c3, c4, c5], _ => exact ⟨c0, c1, c2, c3, c4, c5, rfl⟩
theorem Cg_of_trod {H : Type} {enc : TypeId × Value → H} {W : World} {base : Nat} {sp : Nat → Bool} {held : Bool} {fuel : Nat} {cs : List Value} {x : DataW H × List MemPlace}
    (h : DataW.trod enc Tryz.prog W base sp held fuel 23 cs = some x) (hl : cs.length = 6) : ∃ a : Cg, CgOk a ∧ cs = a.cells := by
  obtain ⟨c0, c1, c2, c3, c4, c5, rfl⟩ := Cglist hl
  obtain ⟨xs, m, _, hx, _, hlen, hfs⟩ := DataW.trod_struct Tryz.underlying23 h
  obtain ⟨y0, y1, y2, y3, y4, y5, rfl⟩ := Cglist (l := xs) hlen
  have f0 := hfs 0 _ rfl
  have f1 := hfs 1 _ rfl
  have f2 := hfs 2 _ rfl
  have f3 := hfs 3 _ rfl
  have f4 := hfs 4 _ rfl
  have f5 := hfs 5 _ rfl
  simp [Cgcells_3] at f0
  simp [Cgcells_3] at f1
  simp [Cgcells_3] at f2
  simp [Cgcells_3] at f3
  simp [Cgcells_3] at f4
  simp [Cgcells_3] at f5
  obtain ⟨v0, e0, _, w0⟩ := DataW.trod_int Tryz.underlying3 f0
  obtain ⟨v1, e1, _, w1⟩ := DataW.trod_int Tryz.underlying3 f1
  obtain ⟨v2, e2, _, w2⟩ := DataW.trod_int Tryz.underlying3 f2
  obtain ⟨v3, e3, _, w3⟩ := DataW.trod_int Tryz.underlying3 f3
  obtain ⟨v4, e4, _, w4⟩ := DataW.trod_int Tryz.underlying3 f4
  obtain ⟨v5, e5, _, w5⟩ := DataW.trod_int Tryz.underlying3 f5
  cases e0; cases e1; cases e2; cases e3; cases e4; cases e5
  exact ⟨⟨v0, v1, v2, v3, v4, v5⟩, ⟨bounds_i64 w0, bounds_i64 w1, bounds_i64 w2, bounds_i64 w3, bounds_i64 w4, bounds_i64 w5⟩, rfl⟩
/-- A call as an argument. -/
def IsCg (_ : World) (v : Value) : Prop := ∃ x : Cg, CgOk x ∧ v = .agg #[.int .i64 x.bits, .int .i64 x.frames, .int .i64 x.space, .int .i64 x.buckets, .int .i64 x.spare, .int .i64 x.sess]
set_option maxRecDepth 100000 in
theorem open_Cg {H : Type} {enc : TypeId × Value → H} {W : World} {base : Nat} {v : Value} {d : DataW H} {p : List MemPlace} (hv : Value.okWide Tryz.prog W .any base 23 v)
    (h : DataW.Trod enc Tryz.prog W 0 (fun _ => true) true 23 v d p) : IsCg W v := by
  obtain ⟨cs, rfl, hsz⟩ := okWide_struct Tryz.underlying23 hv
  rw [Cgcells] at hsz
  obtain ⟨l⟩ := cs
  obtain ⟨fuel, hf⟩ := h
  obtain ⟨x, hx, e⟩ := Cg_of_trod (cs := l) (by simpa [Value.cells] using hf) (by simpa using hsz)
  exact ⟨x, hx, by rw [e]; rfl⟩
/-- A call in memory. -/
structure CgAt (w : World) (b off : Nat) (x : Cg) : Prop where
  c0 : w.cell? ⟨b, off, none⟩ = some (.int .i64 x.bits)
  c1 : w.cell? ⟨b, off + 1, none⟩ = some (.int .i64 x.frames)
  c2 : w.cell? ⟨b, off + 2, none⟩ = some (.int .i64 x.space)
  c3 : w.cell? ⟨b, off + 3, none⟩ = some (.int .i64 x.buckets)
  c4 : w.cell? ⟨b, off + 4, none⟩ = some (.int .i64 x.spare)
  c5 : w.cell? ⟨b, off + 5, none⟩ = some (.int .i64 x.sess)
theorem CgAt.lt {w : World} {b off : Nat} {x : Cg} (h : CgAt w b off x) : b < w.heap.size := World.block_lt_of_cell? w _ h.c0
theorem CgAt.below {w w' : World} {b off : Nat} {x : Cg} (h : CgAt w b off x) (hb : Below w.heap.size w w') : CgAt w' b off x :=
  ⟨by rw [hb.cell h.lt]; exact h.c0, by rw [hb.cell h.lt]; exact h.c1, by rw [hb.cell h.lt]; exact h.c2, by rw [hb.cell h.lt]; exact h.c3, by rw [hb.cell h.lt]; exact h.c4, by rw [hb.cell h.lt]; exact h.c5⟩
theorem CgAt.under {w w' : World} {b off B : Nat} {x : Cg} (h : CgAt w b off x) (hb : Below B w w') (hB : b < B) : CgAt w' b off x :=
  ⟨by rw [hb.cell hB]; exact h.c0, by rw [hb.cell hB]; exact h.c1, by rw [hb.cell hB]; exact h.c2, by rw [hb.cell hB]; exact h.c3, by rw [hb.cell hB]; exact h.c4, by rw [hb.cell hB]; exact h.c5⟩
end Go.Proofs.YtfghfbmmaclcnaaGreat
