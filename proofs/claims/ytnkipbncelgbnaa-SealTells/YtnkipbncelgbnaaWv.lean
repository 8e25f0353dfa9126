/- A string as new bytes that are written one by one ([]byte(s)). -/
import Derived.Test.YtnkipbncelgbnaaWu
import Derived.Laws.IdiomStrings
namespace Go.Proofs.Ytnkipbncelgbnaa
open Go.RowKit

/-- The bytes l lie in block g, and may be written. -/
def Bl (w : World) (g : Nat) (l : List UInt8) : Prop := ∀ j b, l[j]? = some b → w.cell? ⟨g, j, none⟩ = some (.int .u8 (b.toNat : Int)) ∧ w.frozen? ⟨g, j, none⟩ = false
theorem Bl.set {w : World} {g : Nat} {l : List UInt8} (h : Bl w g l) (j : Nat) (c : UInt8) : Bl (w.setCell ⟨g, j, none⟩ (.int .u8 (c.toNat : Int))) g (l.set j c) := by
  intro i b hi
  rw [World.frozen?_setCell]
  rw [List.getElem?_set] at hi
  by_cases e : j = i
  · subst e
    rw [if_pos rfl] at hi
    by_cases hl : j < l.length
    · rw [if_pos hl] at hi
      have hb : c = b := by simpa using hi
      subst hb
      obtain ⟨h1, h2⟩ := h j _ (List.getElem?_eq_getElem hl)
      exact ⟨World.cell?_setCell_same _ _ _ h1, h2⟩
    · rw [if_neg hl] at hi; cases hi
  · rw [if_neg e] at hi
    obtain ⟨h1, h2⟩ := h i b hi
    exact ⟨by rw [World.cell?_setCell_other _ _ _ _ (by intro x; exact e (by injection x))]; exact h1, h2⟩
theorem Bl.made (w : World) (e : TypeId) (l : List UInt8) (cap : Nat) :
    Bl (w.drew.alloc (.cells (bytesRow (strL l) cap) e ((bytesRow (strL l) cap).size, (bytesRow (strL l) cap).size + 1))) w.heap.size l := by
  intro j b hj
  have hjl : j < l.length := (List.getElem?_eq_some_iff.1 hj).1
  have hjs : j < (strL l).data.size := by show j < l.toArray.size; simpa using hjl
  have hb : (strL l).data[j] = b := by
    have := (List.getElem?_eq_some_iff.1 hj).2
    simpa [strL] using this
  refine ⟨?_, ?_⟩
  · have := World.cell?_alloc_mark w.drew (bytesRow (strL l) cap) e ((bytesRow (strL l) cap).size, (bytesRow (strL l) cap).size + 1) j
    rw [bytesRow_at _ _ _ hjs, hb] at this
    exact this
  · have := World.frozen?_alloc_mark w.drew (bytesRow (strL l) cap) e (bytesRow (strL l) cap).size ((bytesRow (strL l) cap).size + 1) j
    refine this.trans ?_
    have hsz : j < (bytesRow (strL l) cap).size := by unfold bytesRow; rw [Array.size_append, Array.size_map]; omega
    rw [decide_eq_false (by omega), Bool.false_and]
theorem Bl.back {w : World} {g : Nat} {l : List UInt8} (h : Bl w g l) (n cap : Nat) (hn : n = l.length) :
    (convert 33 9 (.slice (some ⟨g, 0, none⟩) n cap)).run Try.prog w = .ok (.string (strL l)) w := by
  subst hn
  exact run_convert_bytes_back (P := Try.prog) w 33 9 5 ⟨g, 0, none⟩ cap l Try.underlying33 Try.underlying5 Try.underlying9 (fun j hj => by
    rw [Go.WideShapes.add_plain, Nat.zero_add]
    exact (h j _ (List.getElem?_eq_getElem hj)).1)
end Go.Proofs.Ytnkipbncelgbnaa
