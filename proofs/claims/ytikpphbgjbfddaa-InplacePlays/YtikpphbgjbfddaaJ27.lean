/- Parts of the proof: Rb. -/
import Derived.Test.YtikpphbgjbfddaaJ6
import Derived.Test.YtikpphbgjbfddaaJ26
namespace Go.Proofs.Ytikpphbgjbfddaa
set_option maxRecDepth 20000
open Go.RowKit
/-- A record as a value. -/
def recV (p : Nat) (t i : Bool) (k v : ByteArray) : Value := .agg #[.int .u64 (p : Int), .bool t, .bool i, .string k, .string v]
theorem cell_arg5 {w x : World} {a b c d e : Value} {T : TypeId} (hb : Below (w.alloc (.cells #[a, b, c, d, e] T)).heap.size (w.alloc (.cells #[a, b, c, d, e] T)) x) :
    x.cell? ⟨w.heap.size, 0, none⟩ = some a ∧ x.cell? ⟨w.heap.size, 1, none⟩ = some b ∧ x.cell? ⟨w.heap.size, 2, none⟩ = some c ∧ x.cell? ⟨w.heap.size, 3, none⟩ = some d ∧ x.cell? ⟨w.heap.size, 4, none⟩ = some e := by
  refine ⟨?_, ?_, ?_, ?_, ?_⟩ <;> rw [hb.cell (by simp)] <;> simp
/-- What Right tells. -/
def rightE (p : Nat) (t : Bool) (k v : Nat) : Nat := if 281474976710656 ≤ p ∨ k = 0 ∨ t = true ∧ 0 < v then 1 else if 64 < k ∨ 128 < v then 5 else 0
end Go.Proofs.Ytikpphbgjbfddaa
