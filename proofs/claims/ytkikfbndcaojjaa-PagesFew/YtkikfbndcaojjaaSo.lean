/- Sorting whole numbers, off the shelf. -/
import Derived.Test.YtkikfbndcaojjaaWx
import Derived.Shelf.Sort.Plain
import Derived.Shelf.Slices.In.SortNone
import Derived.Shelf.Lay
import Derived.Ground.NamesProg
namespace Go.Proofs
open Go.Shelf Go.RowKit Go.Lib Go.Sort
shelf_lay Lays.n189 Nm 189 at Try as Try.sortInts
end Go.Proofs
namespace Go.Proofs.Ytkikfbndcaojjaa
open Go.Shelf Go.RowKit Go.Lib Go.Sort
theorem keeps_row {α : Type} [Inhabited α] (enc : α → Value) (w : World) (n g off : Nat) (d : Array α) (os : Array Obj) : Keeps (fun k => k = g) w (grow (putRow enc (Sort.ahead w n) g off d) os) :=
  ⟨rfl, rfl, rfl, by simp, fun k hk hne => by
    rw [heap_grow_old _ _ (by simpa using hk)]
    simp [putRow, mapBlock, Array.getElem?_modify, Ne.symm hne]⟩
/-- slices.Sort of whole numbers. -/
theorem sort_ints (g cap : Nat) (zs : List Int) (w : World) (hH : Holds (Value.int .i64) w g 0 zs.toArray) (hg : g < w.heap.size) (hsz : zs.length < 4611686018427387904) :
    Calls Try.prog 29 #[.slice (some ⟨g, 0, none⟩) zs.length cap] w fun e w' => e = .returned (.tuple #[]) ∧ Holds (Value.int .i64) w' g 0 (zs.mergeSort fun x y => decide (x ≤ y)).toArray ∧ Keeps (fun k => k = g) w w' := by
  have h := Any.slices_Sort_int Try.sortInts g 0 cap zs w hH hg hsz
  change Calls Try.prog 29 _ _ _ at h
  refine h.mono ?_
  rintro e w' ⟨rfl, n, os, rfl⟩
  exact ⟨rfl, holds_grow _ _ _ _ _ _ (by simpa using hg) (holds_putRow _ _ _ _ zs.toArray _ hH (by simp)), keeps_row _ _ _ _ _ _ _⟩
theorem sort_none (p : Option Addr) (cap : Nat) (w : World) :
    Calls Try.prog 29 #[.slice p 0 cap] w fun e w' => e = .returned (.tuple #[]) ∧ w' = w := by
  have h := calls_of_every_depth fun D => AnyS.slices_Sort_int_none_in Try.sortInts D p cap w
  exact h
end Go.Proofs.Ytkikfbndcaojjaa
