/- Plain arithmetic of tables of epochs: what a call keeps. -/
import Derived.Test.YtlmkknlcdcajoaaYe
namespace Go.Proofs.Ytlmkknlcdcajoaa
/-- Nobody saw an epoch that isn't yet. -/
def Inv (n now : Nat) (v : Nat → Nat) : Prop := ∀ i, i < n → v i ≤ now
theorem doesV_cases (n now : Nat) (v : Nat → Nat) (kd s : Int) (i : Nat) : doesV n now v kd s i = v i ∨ doesV n now v kd s i = now ∨ doesV n now v kd s i = 0 := by
  unfold doesV
  split
  · unfold updN
    split
    · split
      · exact .inr (.inr rfl)
      · exact .inr (.inl rfl)
    · exact .inl rfl
  · exact .inl rfl
theorem stepV_cases (n now : Nat) (v : Nat → Nat) (kd s : Int) (i : Nat) : stepV n now v kd s i = v i ∨ stepV n now v kd s i = now ∨ stepV n now v kd s i = 0 := by
  unfold stepV
  split
  · exact doesV_cases n now v kd s i
  · exact .inl rfl
theorem stepNow_le (now : Nat) (kd : Int) : now ≤ stepNow now kd := by unfold stepNow; split <;> omega
theorem Inv.step {n now : Nat} {v : Nat → Nat} (h : Inv n now v) (kd s : Int) : Inv n (stepNow now kd) (stepV n now v kd s) := by
  intro i hi
  have h1 := h i hi
  have h2 := stepNow_le now kd
  rcases stepV_cases n now v kd s i with e | e | e <;> rw [e] <;> omega
theorem least_step (n now : Nat) (v : Nat → Nat) (kd s : Int) : leastN now v n ≤ leastN (stepNow now kd) (stepV n now v kd s) n := by
  refine le_leastN _ _ _ _ (Nat.le_trans (leastN_le_now now v n) (stepNow_le now kd)) ?_
  intro i hi hv
  rcases stepV_cases n now v kd s i with e | e | e
  · rw [e] at hv ⊢; exact leastN_le now v n i hi hv
  · rw [e]; exact leastN_le_now now v n
  · exact absurd e hv
end Go.Proofs.Ytlmkknlcdcajoaa
