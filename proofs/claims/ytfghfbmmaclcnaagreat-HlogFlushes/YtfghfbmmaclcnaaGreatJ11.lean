/- Parts of the proof: So. -/
import Derived.Test.YtfghfbmmaclcnaaGreatJ4
import Derived.Shelf.Sort.Plain
import Derived.Shelf.Slices.In.SortNone
import Derived.Shelf.Lay
import Derived.Ground.NamesProg
namespace Go.Proofs
set_option maxRecDepth 20000
open Go.Shelf Go.RowKit Go.Lib Go.Sort
shelf_lay Lays.n189 Nm 189 at Tryz as Tryz.sortInts
end Go.Proofs
namespace Go.Proofs.YtfghfbmmaclcnaaGreat
open Go.Shelf Go.RowKit Go.Lib Go.Sort
theorem keeps_row {α : Type} [Inhabited α] (enc : α → Value) (w : World) (n g off : Nat) (d : Array α) (os : Array Obj) : Keeps (fun k => k = g) w (grow (putRow enc (Sort.ahead w n) g off d) os) :=
  ⟨rfl, rfl, rfl, by simp, fun k hk hne => by
    rw [heap_grow_old _ _ (by simpa using hk)]
    simp [putRow, mapBlock, Array.getElem?_modify, Ne.symm hne]⟩
/-- slices.Sort of whole numbers. -/
theorem sort_ints (g cap : Nat) (zs : List Int) (w : World) (hH : Holds (Value.int .i64) w g 0 zs.toArray) (hg : g < w.heap.size) (hsz : zs.length < 4611686018427387904) :
    Calls Tryz.prog 58 #[.slice (some ⟨g, 0, none⟩) zs.length cap] w fun e w' => e = .returned (.tuple #[]) ∧ Holds (Value.int .i64) w' g 0 (zs.mergeSort fun x y => decide (x ≤ y)).toArray ∧ Keeps (fun k => k = g) w w' := by
  have h := Any.slices_Sort_int Tryz.sortInts g 0 cap zs w hH hg hsz
  change Calls Tryz.prog 58 _ _ _ at h
  refine h.mono ?_
  rintro e w' ⟨rfl, n, os, rfl⟩
  exact ⟨rfl, holds_grow _ _ _ _ _ _ (by simpa using hg) (holds_putRow _ _ _ _ zs.toArray _ hH (by simp)), keeps_row _ _ _ _ _ _ _⟩
theorem sort_none (p : Option Addr) (cap : Nat) (w : World) :
    Calls Tryz.prog 58 #[.slice p 0 cap] w fun e w' => e = .returned (.tuple #[]) ∧ w' = w := by
  have h := calls_of_every_depth fun D => AnyS.slices_Sort_int_none_in Tryz.sortInts D p cap w
  exact h
end Go.Proofs.YtfghfbmmaclcnaaGreat
