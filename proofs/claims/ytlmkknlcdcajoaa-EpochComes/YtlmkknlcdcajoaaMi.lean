/- Plain arithmetic of tables of epochs: those who were in, one by one, refresh or leave. -/
import Derived.Test.YtlmkknlcdcajoaaMh
namespace Go.Proofs.Ytlmkknlcdcajoaa
theorem inL_lt (v : Nat → Nat) (n j : Nat) (hj : j < (inL v n).length) : (inL v n).getD j 0 < n := (inL_get v n j hj).1
theorem inL_rise (v : Nat → Nat) (n : Nat) : ∀ j k, j < k → k < (inL v n).length → (inL v n).getD j 0 < (inL v n).getD k 0 := by
  induction n with
  | zero => intro j k _ hk; simp [inL] at hk
  | succ n ih =>
    intro j k hjk hk
    by_cases h : v n = 0
    · have e : inL v (n + 1) = inL v n := by simp [inL, h]
      rw [e] at hk ⊢
      exact ih j k hjk hk
    · have e : inL v (n + 1) = inL v n ++ [n] := by simp [inL, h]
      rw [e] at hk ⊢
      simp only [List.length_append, List.length_singleton] at hk
      by_cases hk' : k < (inL v n).length
      · have := ih j k hjk hk'
        simp only [List.getD_eq_getElem?_getD] at this ⊢
        rw [List.getElem?_append_left hk', List.getElem?_append_left (by omega)]; exact this
      · have ek : k = (inL v n).length := by omega
        subst ek
        have hj := inL_lt v n j hjk
        simp only [List.getD_eq_getElem?_getD] at hj ⊢
        rw [List.getElem?_append_left hjk, List.getElem?_append_right (Nat.le_refl _)]
        simpa using hj
theorem inL_idx (v : Nat → Nat) (n i : Nat) (hi : i < n) (hv : v i ≠ 0) : ∃ j, j < (inL v n).length ∧ (inL v n).getD j 0 = i := by
  obtain ⟨j, hj, e⟩ := List.getElem_of_mem ((mem_inL v n i).2 ⟨hi, hv⟩)
  exact ⟨j, hj, by rw [List.getD_eq_getElem?_getD, List.getElem?_eq_getElem hj]; exact e⟩
/-- Of those who were in, the first k have refreshed or left; the others saw what they had seen. -/
def Done (L : List Nat) (n now : Nat) (v u : Nat → Nat) (k : Nat) : Prop :=
  ∀ i, i < n → ((∃ j, j < k ∧ L.getD j 0 = i) → u i = 0 ∨ u i = now + 1) ∧ ((∀ j, j < k → L.getD j 0 ≠ i) → u i = v i)
theorem Done.zero (L : List Nat) (n now : Nat) (v : Nat → Nat) : Done L n now v v 0 := fun i _ => ⟨fun ⟨j, hj, _⟩ => by omega, fun _ => rfl⟩
theorem Done.cur {n now : Nat} {v u : Nat → Nat} {k : Nat} (h : Done (inL v n) n now v u k) (hk : k < (inL v n).length) : u ((inL v n).getD k 0) = v ((inL v n).getD k 0) := by
  refine (h _ (inL_lt v n k hk)).2 ?_
  intro j hj e
  have := inL_rise v n j k hj hk
  omega
theorem Done.next {L : List Nat} {n now : Nat} {v u : Nat → Nat} {k : Nat} (h : Done L n now v u k) (y : Nat) (hy : y = 0 ∨ y = now + 1) : Done L n now v (updN u (L.getD k 0) y) (k + 1) := by
  intro i hi
  constructor
  · rintro ⟨j, hj, e⟩
    by_cases e2 : i = L.getD k 0
    · rw [e2, updN_same]; exact hy
    · rw [updN_other _ _ _ _ e2]
      refine (h i hi).1 ⟨j, ?_, e⟩
      by_cases e3 : j = k
      · subst e3; exact absurd e.symm e2
      · omega
  · intro hn
    have e2 : i ≠ L.getD k 0 := fun e => hn k (by omega) e.symm
    rw [updN_other _ _ _ _ e2]
    exact (h i hi).2 (fun j hj => hn j (by omega))
theorem Done.least_lt {n now : Nat} {v u : Nat → Nat} {k : Nat} (h : Done (inL v n) n now v u k) (hI : Inv n now v) (hk : k < (inL v n).length) : leastN (now + 1) u n ≤ now := by
  have h1 := inL_get v n k hk
  have h2 := h.cur hk
  have h3 := hI _ h1.1
  have h4 := leastN_le (now + 1) u n _ h1.1 (by rw [h2]; exact h1.2)
  omega
theorem Done.all {n now : Nat} {v u : Nat → Nat} (h : Done (inL v n) n now v u (inL v n).length) : leastN (now + 1) u n = now + 1 := by
  refine Nat.le_antisymm (leastN_le_now _ _ _) (le_leastN _ _ _ _ (Nat.le_refl _) ?_)
  intro i hi hu
  by_cases e : v i = 0
  · have := (h i hi).2 (fun j hj ej => by have := inL_get v n j hj; rw [ej] at this; exact this.2 e)
    omega
  · rcases (h i hi).1 (inL_idx v n i hi e) with e1 | e1 <;> omega
/-- What a leave or a refresh of one who is in does. -/
theorem doesV_turn {n now : Nat} {u : Nat → Nat} {s : Nat} (hs : s < n) (hu : u s ≠ 0) (kd : Int) (h1 : kd ≠ 1) : doesV n now u kd (s : Int) = updN u s (if kd = 3 then 0 else now) := by
  have he : doesE n u kd (s : Int) = 0 := by rw [doesE_in hs]; simp [hu, h1]
  simp [doesV, he]
end Go.Proofs.Ytlmkknlcdcajoaa
