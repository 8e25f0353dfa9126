/- Parts of the proof: Hd. -/
import Derived.Test.YtikpphbgjbfddaaJ2
import Derived.Test.YtikpphbgjbfddaaJ4
import Derived.Handy
namespace Go.Proofs.Ytikpphbgjbfddaa
set_option maxRecDepth 20000
open Go.RowKit
/-- A struct of three cells, written whole. -/
theorem set_three {x : World} {b : Nat} {u0 u1 u2 : Value} (d0 : x.cell? ⟨b, 0, none⟩ = some u0) (d1 : x.cell? ⟨b, 1, none⟩ = some u1) (d2 : x.cell? ⟨b, 2, none⟩ = some u2) (a0 a1 a2 : Value) :
    (((x.setCell ⟨b, 0, none⟩ a0).setCell ⟨b, 1, none⟩ a1).setCell ⟨b, 2, none⟩ a2).cell? ⟨b, 0, none⟩ = some a0 ∧
    (((x.setCell ⟨b, 0, none⟩ a0).setCell ⟨b, 1, none⟩ a1).setCell ⟨b, 2, none⟩ a2).cell? ⟨b, 1, none⟩ = some a1 ∧
    (((x.setCell ⟨b, 0, none⟩ a0).setCell ⟨b, 1, none⟩ a1).setCell ⟨b, 2, none⟩ a2).cell? ⟨b, 2, none⟩ = some a2 := by
  have n01 : (⟨b, 0, none⟩ : Addr) ≠ ⟨b, 1, none⟩ := by simp
  have n02 : (⟨b, 0, none⟩ : Addr) ≠ ⟨b, 2, none⟩ := by simp
  have n12 : (⟨b, 1, none⟩ : Addr) ≠ ⟨b, 2, none⟩ := by simp
  refine ⟨?_, ?_, ?_⟩
  · rw [World.cell?_setCell_other _ _ _ _ (by first | exact n02 | exact n02.symm), World.cell?_setCell_other _ _ _ _ (by first | exact n01 | exact n01.symm)]
    exact World.cell?_setCell_same _ _ _ d0
  · rw [World.cell?_setCell_other _ _ _ _ (by first | exact n12 | exact n12.symm)]
    exact World.cell?_setCell_same _ _ _ (by rw [World.cell?_setCell_other _ _ _ _ (by first | exact n01 | exact n01.symm)]; exact d1)
  · exact World.cell?_setCell_same _ _ _ (by rw [World.cell?_setCell_other _ _ _ _ (by first | exact n12 | exact n12.symm), World.cell?_setCell_other _ _ _ _ (by first | exact n02 | exact n02.symm)]; exact d2)
def hdV (p : Nat) (t i : Bool) : Value := .agg #[.int .u64 (p : Int), .bool t, .bool i]
set_option maxHeartbeats 1000000 in
theorem rpack_yes (p : Nat) (t i : Bool) (w : World) (hp : p < 281474976710656) :
    Calls Try.prog 95 #[hdV p t i] w fun e w' => e = .returned (.tuple #[.int .u64 (packN p t i : Int), .int .i64 0]) ∧ Below w.heap.size w w' := by
  have hp' : (p : Int) < 281474976710656 := by omega
  obtain ⟨A, hA⟩ : ∃ A : Nat, (p : Int) + 281474976710656 = (A : Int) := ⟨p + 281474976710656, by omega⟩
  obtain ⟨B, hB⟩ : ∃ B : Nat, (p : Int) + 562949953421312 = (B : Int) := ⟨p + 562949953421312, by omega⟩
  obtain ⟨C, hC⟩ : ∃ C : Nat, (A : Int) + 562949953421312 = (C : Int) := ⟨A + 562949953421312, by omega⟩
  have l1 : A < 1125899906842624 := by omega
  have l2 : B < 1125899906842624 := by omega
  have l3 : C < 1125899906842624 := by omega
  have H0 : Hid ((packN p false false : Int) = p) := by simp only [Hid, packN, bitN, T48, Bool.false_eq_true, if_false]; omega
  have H1 : Hid ((packN p true false : Int) = A) := by simp only [Hid, packN, bitN, T48, Bool.false_eq_true, if_false, if_true]; omega
  have H2 : Hid ((packN p false true : Int) = B) := by simp only [Hid, packN, bitN, T48, Bool.false_eq_true, if_false, if_true]; omega
  have H3 : Hid ((packN p true true : Int) = C) := by simp only [Hid, packN, bitN, T48, if_true]; omega
  have hd : decide (281474976710656 ≤ (p : Int)) = false := by rw [decide_eq_false_iff_not]; omega
  clear hp hp'
  unfold hdV
  cases t <;> cases i
  all_goals
    go_enter Try.func95, Try.ntmps95
    go_wp2
    go_ret2
    exact ⟨ret_two (by first | exact H0.out.symm | exact H1.out.symm | exact H2.out.symm | exact H3.out.symm) rfl, (Below.refl _ _).alloc (Nat.le_refl _) _⟩
set_option maxHeartbeats 1000000 in
theorem rpack_no (p : Nat) (t i : Bool) (w : World) (hp : 281474976710656 ≤ p) :
    Calls Try.prog 95 #[hdV p t i] w fun e w' => e = .returned (.tuple #[.int .u64 0, .int .i64 1]) ∧ Below w.heap.size w w' := by
  have hp' : 281474976710656 ≤ (p : Int) := by omega
  clear hp
  unfold hdV
  go_enter Try.func95, Try.ntmps95
  go_wp2
  go_ret2
  exact ⟨rfl, (Below.refl _ _).alloc (Nat.le_refl _) _⟩
end Go.Proofs.Ytikpphbgjbfddaa
