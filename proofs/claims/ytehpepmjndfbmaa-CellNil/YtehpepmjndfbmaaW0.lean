/- What every walk uses: spelling of endings, hidden equations. -/
import Derived.Test.YtehpepmjndfbmaaRows
import Derived.WalkKit
import Derived.WalkSpells
import Derived.WalkLawsBesides
import Derived.Deep.QuietTactic
import Derived.BigQuiet
import Derived.WalkSmall
import Derived.OpenShut
import Derived.ChangeOld
import Derived.Below
namespace Go.Proofs.Ytehpepmjndfbmaa
open Go.RowKit
theorem nat_of_wf {a : Int} (h : (Lit.int .u64 a).wf = true) : ∃ n : Nat, a = (n : Int) ∧ n < 18446744073709551616 := by
  have := bounds_u64 h
  exact ⟨a.toNat, by omega, by omega⟩
theorem below_drewN' {w w' : World} (h : ∃ k, w' = w.drewN k) : Below w.heap.size w w' := by
  obtain ⟨k, rfl⟩ := h
  exact below_drewN (Below.refl _ _) k
theorem ret_int {k : IntKind} {a b : Int} (h : a = b) : Ending.returned (.int k a) = .returned (.int k b) := by rw [h]
theorem hide {p : Prop} (h : p) : Hid p := h
theorem ret_two {k l : IntKind} {a b c d : Int} (h : a = b) (h' : c = d) : Ending.returned (.tuple #[.int k a, .int l c]) = .returned (.tuple #[.int k b, .int l d]) := by rw [h, h']
theorem ret_bool {a b : Bool} (h : a = b) : Ending.returned (.bool a) = .returned (.bool b) := by rw [h]
theorem take_snoc (s : ByteArray) (k : Nat) (h : k < s.size) : s.data.toList.take (k + 1) = s.data.toList.take k ++ [s[k]] := by
  rw [List.take_succ_eq_append_getElem (by simpa using h)]; rfl
/-- A slice that is read: its first n numbers are z 0, z 1, .. -/
def Sl (k : IntKind) (w : World) (ao : Option Addr) (n : Nat) (z : Nat → Int) : Prop :=
  ∀ j, j < n → ∃ b off, ao = some ⟨b, off, none⟩ ∧ w.cell? ⟨b, off + j, none⟩ = some (.int k (z j))
theorem Sl.below {k : IntKind} {w w' : World} {ao : Option Addr} {n : Nat} {z : Nat → Int} (h : Sl k w ao n z) (hb : Below w.heap.size w w') : Sl k w' ao n z := by
  intro j hj
  obtain ⟨b, off, h1, h2⟩ := h j hj
  exact ⟨b, off, h1, by rw [hb.cell (p := ⟨b, off + j, none⟩) (World.block_lt_of_cell? w _ h2)]; exact h2⟩
theorem Sl.drew {k : IntKind} {w : World} {ao : Option Addr} {n : Nat} {z : Nat → Int} (h : Sl k w ao n z) (m : Nat) : Sl k (w.drewN m) ao n z := h
theorem Sl.mono {k : IntKind} {w : World} {ao : Option Addr} {n m : Nat} {z : Nat → Int} (h : Sl k w ao n z) (hm : m ≤ n) : Sl k w ao m z := fun j hj => h j (by omega)
end Go.Proofs.Ytehpepmjndfbmaa
