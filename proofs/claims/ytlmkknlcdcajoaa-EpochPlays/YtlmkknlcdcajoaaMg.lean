/- Plain arithmetic of tables of epochs: who is in, the least that they saw, and how both go on. -/
import Derived.Test.YtlmkknlcdcajoaaYb
namespace Go.Proofs.Ytlmkknlcdcajoaa
/-- Who of the first n is in, rising. -/
def inL (v : Nat → Nat) : Nat → List Nat
  | 0 => []
  | n + 1 => if v n = 0 then inL v n else inL v n ++ [n]
/-- The least epoch that one of the first n saw, or the present one. -/
def leastN (now : Nat) (v : Nat → Nat) : Nat → Nat
  | 0 => now
  | n + 1 => if v n = 0 then leastN now v n else min (leastN now v n) (v n)
def foldL (now : Nat) (v : Nat → Nat) (l : List Nat) : Nat := l.foldl (fun a s => min a (v s)) now
theorem foldL_snoc (now : Nat) (v : Nat → Nat) (l : List Nat) (x : Nat) : foldL now v (l ++ [x]) = min (foldL now v l) (v x) := by simp [foldL]
theorem foldL_in (now : Nat) (v : Nat → Nat) (n : Nat) : foldL now v (inL v n) = leastN now v n := by
  induction n with
  | zero => rfl
  | succ n ih =>
    by_cases h : v n = 0
    · simp [inL, leastN, h, ih]
    · simp only [inL, leastN, if_neg h, foldL_snoc, ih]
theorem inL_length (v : Nat → Nat) (n : Nat) : (inL v n).length ≤ n := by
  induction n with
  | zero => simp [inL]
  | succ n ih =>
    by_cases h : v n = 0
    · simp [inL, h]; omega
    · simp [inL, h]; omega
theorem mem_inL (v : Nat → Nat) (n i : Nat) : i ∈ inL v n ↔ i < n ∧ v i ≠ 0 := by
  induction n with
  | zero => simp [inL]
  | succ n ih =>
    by_cases h : v n = 0
    · simp only [inL, if_pos h, ih]
      constructor
      · rintro ⟨a, b⟩; exact ⟨by omega, b⟩
      · rintro ⟨a, b⟩
        refine ⟨?_, b⟩
        by_cases e : i = n
        · subst e; exact absurd h b
        · omega
    · simp only [inL, if_neg h, List.mem_append, ih, List.mem_singleton]
      constructor
      · rintro (⟨a, b⟩ | rfl)
        · exact ⟨by omega, b⟩
        · exact ⟨by omega, h⟩
      · rintro ⟨a, b⟩
        by_cases e : i = n
        · exact .inr e
        · exact .inl ⟨by omega, b⟩
theorem inL_get (v : Nat → Nat) (n j : Nat) (hj : j < (inL v n).length) : (inL v n).getD j 0 < n ∧ v ((inL v n).getD j 0) ≠ 0 := by
  rw [← mem_inL, List.getD_eq_getElem?_getD, List.getElem?_eq_getElem hj]
  exact List.getElem_mem hj
theorem leastN_le_now (now : Nat) (v : Nat → Nat) (n : Nat) : leastN now v n ≤ now := by
  induction n with
  | zero => exact Nat.le_refl _
  | succ n ih =>
    by_cases h : v n = 0
    · simp [leastN, h, ih]
    · simp only [leastN, if_neg h]; omega
theorem leastN_le (now : Nat) (v : Nat → Nat) (n i : Nat) (hi : i < n) (hv : v i ≠ 0) : leastN now v n ≤ v i := by
  induction n with
  | zero => omega
  | succ n ih =>
    by_cases e : i = n
    · subst e; simp only [leastN, if_neg hv]; omega
    · have := ih (by omega)
      by_cases h : v n = 0
      · simp [leastN, h, this]
      · simp only [leastN, if_neg h]; omega
theorem le_leastN (now : Nat) (v : Nat → Nat) (n m : Nat) (h0 : m ≤ now) (h : ∀ i, i < n → v i ≠ 0 → m ≤ v i) : m ≤ leastN now v n := by
  induction n with
  | zero => exact h0
  | succ n ih =>
    have := ih (fun i hi => h i (by omega))
    by_cases e : v n = 0
    · simp [leastN, e, this]
    · have := h n (by omega) e
      simp only [leastN, if_neg e]; omega
theorem leastN_pos (now : Nat) (v : Nat → Nat) (n : Nat) (h : 1 ≤ now) : 1 ≤ leastN now v n := le_leastN now v n 1 h (fun i _ hv => by omega)
theorem inL_more (v : Nat → Nat) (j n : Nat) (h : j ≤ n) : ∃ l, inL v n = inL v j ++ l := by
  induction n with
  | zero => have : j = 0 := by omega
            subst this; exact ⟨[], by simp⟩
  | succ n ih =>
    by_cases e : j = n + 1
    · subst e; exact ⟨[], by simp⟩
    · obtain ⟨l, hl⟩ := ih (by omega)
      by_cases hv : v n = 0
      · exact ⟨l, by simp [inL, hv, hl]⟩
      · exact ⟨l ++ [n], by simp [inL, hv, hl]⟩
theorem inL_at (v : Nat → Nat) (n j : Nat) (hj : j < n) (hv : v j ≠ 0) : (inL v j).length < (inL v n).length ∧ (inL v n).getD (inL v j).length 0 = j := by
  obtain ⟨l, hl⟩ := inL_more v (j + 1) n (by omega)
  have e : inL v (j + 1) = inL v j ++ [j] := by simp [inL, hv]
  rw [hl, e]
  constructor
  · simp only [List.length_append, List.length_singleton]; omega
  · simp [List.getD_eq_getElem?_getD, List.append_assoc]
end Go.Proofs.Ytlmkknlcdcajoaa
