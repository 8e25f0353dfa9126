/- An Entry as an argument. -/
import Derived.Test.YtjhpolclljmjiaaNe
import Derived.Deep.Slices
import Derived.Deep.RegionHeld3
import Derived.ChangeArms
import Derived.ChangeSame
import Derived.ProofKit
namespace Go.Proofs.Ytjhpolclljmjiaa
set_option maxRecDepth 20000
open Go.ChangeShapes Go.WideShapes Go.ChangeAt Go.RowKit
structure Et where
  addr : Int
  tag : Int
  fresh : Bool
instance : Inhabited Et := ⟨⟨0, 0, false⟩⟩
def Et.cells (x : Et) : List Value := [.int .u64 x.addr, .int .u64 x.tag, .bool x.fresh]
structure EtOk (x : Et) : Prop where
  addr : 0 ≤ x.addr ∧ x.addr ≤ 18446744073709551615
  tag : 0 ≤ x.tag ∧ x.tag ≤ 18446744073709551615
theorem Etcells_4 : Try.prog.cellsOf 4 = 1 := by kernel_rfl
theorem Etcells_22 : Try.prog.cellsOf 22 = 1 := by kernel_rfl
theorem Etcells : Try.prog.cellsOf 24 = 3 := by kernel_rfl
theorem Etlist {α : Type} {l : List α} (h : l.length = 3) : ∃ c0 c1 c2, l = [c0, c1, c2] := by
  match l, h with
  | [c0, c1, c2], _ => exact ⟨c0, c1, c2, rfl⟩
theorem Et_of_trod {H : Type} {enc : TypeId × Value → H} {W : World} {base : Nat} {sp : Nat → Bool} {held : Bool} {fuel : Nat} {cs : List Value} {x : DataW H × List MemPlace}
    (h : DataW.trod enc Try.prog W base sp held fuel 24 cs = some x) (hl : cs.length = 3) : ∃ a : Et, EtOk a ∧ cs = a.cells := by
  obtain ⟨c0, c1, c2, rfl⟩ := Etlist hl
  obtain ⟨xs, m, _, hx, _, hlen, hfs⟩ := DataW.trod_struct Try.underlying24 h
  obtain ⟨y0, y1, y2, rfl⟩ := Etlist (l := xs) hlen
  have f0 := hfs 0 _ rfl
  have f1 := hfs 1 _ rfl
  have f2 := hfs 2 _ rfl
  simp [Etcells_22] at f0
  simp [Etcells_22] at f1
  simp [Etcells_4] at f2
  obtain ⟨v0, e0, _, w0⟩ := DataW.trod_int Try.underlying22 f0
  obtain ⟨v1, e1, _, w1⟩ := DataW.trod_int Try.underlying22 f1
  obtain ⟨v2, e2, _⟩ := DataW.trod_bool Try.underlying4 f2
  cases e0; cases e1; cases e2
  exact ⟨⟨v0, v1, v2⟩, ⟨bounds_u64 w0, bounds_u64 w1⟩, rfl⟩
/-- A call as an argument. -/
def IsEt (_ : World) (v : Value) : Prop := ∃ x : Et, EtOk x ∧ v = .agg #[.int .u64 x.addr, .int .u64 x.tag, .bool x.fresh]
set_option maxRecDepth 100000 in
theorem open_Et {H : Type} {enc : TypeId × Value → H} {W : World} {base : Nat} {v : Value} {d : DataW H} {p : List MemPlace} (hv : Value.okWide Try.prog W .any base 24 v)
    (h : DataW.Trod enc Try.prog W 0 (fun _ => true) true 24 v d p) : IsEt W v := by
  obtain ⟨cs, rfl, hsz⟩ := okWide_struct Try.underlying24 hv
  rw [Etcells] at hsz
  obtain ⟨l⟩ := cs
  obtain ⟨fuel, hf⟩ := h
  obtain ⟨x, hx, e⟩ := Et_of_trod (cs := l) (by simpa [Value.cells] using hf) (by simpa using hsz)
  exact ⟨x, hx, by rw [e]; rfl⟩
/-- A call in memory. -/
structure EtAt (w : World) (b off : Nat) (x : Et) : Prop where
  c0 : w.cell? ⟨b, off, none⟩ = some (.int .u64 x.addr)
  c1 : w.cell? ⟨b, off + 1, none⟩ = some (.int .u64 x.tag)
  c2 : w.cell? ⟨b, off + 2, none⟩ = some (.bool x.fresh)
theorem EtAt.lt {w : World} {b off : Nat} {x : Et} (h : EtAt w b off x) : b < w.heap.size := World.block_lt_of_cell? w _ h.c0
theorem EtAt.below {w w' : World} {b off : Nat} {x : Et} (h : EtAt w b off x) (hb : Below w.heap.size w w') : EtAt w' b off x :=
  ⟨by rw [hb.cell h.lt]; exact h.c0, by rw [hb.cell h.lt]; exact h.c1, by rw [hb.cell h.lt]; exact h.c2⟩
theorem EtAt.under {w w' : World} {b off B : Nat} {x : Et} (h : EtAt w b off x) (hb : Below B w w') (hB : b < B) : EtAt w' b off x :=
  ⟨by rw [hb.cell hB]; exact h.c0, by rw [hb.cell hB]; exact h.c1, by rw [hb.cell hB]; exact h.c2⟩
theorem IsEt.nats {w : World} {v : Value} (h : IsEt w v) : ∃ (a t : Nat) (f : Bool), a < 18446744073709551616 ∧ t < 18446744073709551616 ∧ v = enV a t f := by
  obtain ⟨⟨x, y, f⟩, ⟨h1, h2⟩, rfl⟩ := h
  refine ⟨x.toNat, y.toNat, f, by simp only at h1; omega, by simp only at h2; omega, ?_⟩
  simp only at h1 h2
  simp only [enV]
  rw [show ((x.toNat : Nat) : Int) = x by omega, show ((y.toNat : Nat) : Int) = y by omega]
end Go.Proofs.Ytjhpolclljmjiaa
