/- What a law's loop keeps of a device and of a block that stands in a box. -/
import Derived.Test.YtjhndhibojndfaaDx
namespace Go.Proofs.Ytjhndhibojndfaa
open Go.RowKit
structure LsR (w : World) (t : Nat) (b : Bk) (d : Dv) (x : World) : Prop where
  dv : DvIs x t d
  bel : Below w.heap.size w x
  c0 : x.cell? ⟨w.heap.size, 0, none⟩ = some (.int .i64 b.1)
  c1 : x.cell? ⟨w.heap.size, 1, none⟩ = some (.int .i64 b.2)
  lt : w.heap.size < t
theorem LsR.step {w : World} {t : Nat} {b : Bk} {d d' : Dv} {x y : World} (h : LsR w t b d x) (hd : DvIs y t d') (hk : Keeps (InD t) x y) : LsR w t b d' y := by
  have hn : ¬ InD t w.heap.size := fun hi => by have := hi.1; have := h.lt; omega
  exact ⟨hd, h.bel.trans (keeps_low hk (Nat.le_of_lt h.lt) h.bel.size), by rw [hk.cell (World.block_lt_of_cell? x _ h.c0) hn]; exact h.c0, by rw [hk.cell (World.block_lt_of_cell? x _ h.c1) hn]; exact h.c1, h.lt⟩
theorem LsR.below {w : World} {t : Nat} {b : Bk} {d : Dv} {x y : World} (h : LsR w t b d x) (hb : Below x.heap.size x y) : LsR w t b d y := h.step (h.dv.below hb) (Below.keeps hb)
theorem LsR.alloc {w : World} {t : Nat} {b : Bk} {d : Dv} {x : World} (h : LsR w t b d x) (o : Obj) : LsR w t b d (x.alloc o) := h.below ((Below.refl _ _).alloc (Nat.le_refl _) o)
theorem Sl.low {k : IntKind} {w : World} {ao : Option Addr} {n : Nat} {z : Nat → Int} (h : Sl k w ao n z) (hn : 0 < n) (g off : Nat) (e : ao = some ⟨g, off, none⟩) : g < w.heap.size := by
  obtain ⟨b, off', h1, h2⟩ := h 0 hn
  rw [e] at h1
  cases h1
  exact World.block_lt_of_cell? w _ h2
/-- The cells of a call in a box, in a world in which the device has turned. -/
theorem box6 {x y : World} {a b c d e f : Value} {T : TypeId} {t : Nat} (hk : Keeps (InD t) (x.alloc (.cells #[a, b, c, d, e, f] T)) y) (ht : t + 3 < x.heap.size) :
    y.cell? ⟨x.heap.size, 0, none⟩ = some a ∧ y.cell? ⟨x.heap.size, 1, none⟩ = some b ∧ y.cell? ⟨x.heap.size, 2, none⟩ = some c ∧ y.cell? ⟨x.heap.size, 3, none⟩ = some d ∧ y.cell? ⟨x.heap.size, 4, none⟩ = some e ∧ y.cell? ⟨x.heap.size, 5, none⟩ = some f := by
  have hn : ¬ InD t x.heap.size := fun h => by have := h.2; omega
  refine ⟨?_, ?_, ?_, ?_, ?_, ?_⟩ <;> rw [hk.cell (by simp) hn] <;> simp
end Go.Proofs.Ytjhndhibojndfaa
