/- No two pages in one frame; the pages of one frame closed one by one. -/
import Derived.Test.YtkikfbndcaojjaaQl
namespace Go.Proofs.Ytkikfbndcaojjaa
open Go.RowKit
section
variable {n s : Nat} {F F' : Nat → Option Pg} {K : List (Nat × Nat)} {V : Nat → Nat → Int}
theorem Lk.apart (h : Lk n s F K V) {i j : Nat} (hij : i < j) (hj : j < K.length) : (getK K i).1 % n ≠ (getK K j).1 % n := by
  intro e
  obtain ⟨v, h1, -⟩ := h.fwd _ (getK_mem (show i < K.length by omega))
  obtain ⟨u, h2, -⟩ := h.fwd _ (getK_mem hj)
  have h3 := srt_lt h.srt hij hj
  rw [e, h2] at h1
  simp only [Option.some.injEq, Prod.mk.injEq] at h1
  omega
/-- Of the first j pages, those in P's frame are closed. -/
def Cl (n P : Nat) (F F' : Nat → Option Pg) (K : List (Nat × Nat)) (j : Nat) : Prop :=
  ((∀ i, i < j → (getK K i).1 % n ≠ P % n) ∧ F' (P % n) = F (P % n)) ∨ (F' (P % n) = none ∧ ∃ i, i < j ∧ (getK K i).1 % n = P % n)
theorem Cl.start (n P : Nat) (F : Nat → Option Pg) (K : List (Nat × Nat)) : Cl n P F F K 0 := .inl ⟨fun i hi => by omega, rfl⟩
theorem Cl.pass {P j : Nat} (h : Cl n P F F' K j) (hne : (getK K j).1 % n ≠ P % n) : Cl n P F F' K (j + 1) := by
  rcases h with ⟨h1, h2⟩ | ⟨h1, i, h2, h3⟩
  · refine .inl ⟨fun i hi => ?_, h2⟩
    by_cases e : i = j
    · subst e; exact hne
    · exact h1 i (by omega)
  · exact .inr ⟨h1, i, by omega, h3⟩
theorem Cl.there {P j : Nat} (h : Cl n P F F' K j) (l : Lk n s F K V) (hj : j < K.length) (he : (getK K j).1 % n = P % n) : ∃ v, F' ((getK K j).1 % n) = some ((getK K j).1, v) := by
  rcases h with ⟨_, h2⟩ | ⟨_, i, h2, h3⟩
  · obtain ⟨v, h1, -⟩ := l.fwd _ (getK_mem hj)
    rw [he] at h1
    exact ⟨v, by rw [he, h2, h1]⟩
  · exact absurd (h3.trans he.symm) (l.apart h2 hj)
theorem Cl.shut {P j : Nat} (he : (getK K j).1 % n = P % n) : Cl n P F (updF F' ((getK K j).1 % n) none) K (j + 1) := .inr ⟨by rw [he]; simp [updF], j, by omega, he⟩
theorem Cl.done {P : Nat} (h : Cl n P F F' K K.length) (l : Lk n s F K V) : F' (P % n) = none := by
  rcases h with ⟨h1, h2⟩ | ⟨h1, _⟩
  · rw [h2]
    cases hF : F (P % n) with
    | none => rfl
    | some x =>
      obtain ⟨p, v⟩ := x
      obtain ⟨e, y, hy, ey⟩ := l.bwd _ (Nat.mod_lt _ l.n0) p v hF
      obtain ⟨i, hi, ei⟩ := mem_getK hy
      exact absurd (by rw [ei, ey]; exact e) (h1 i hi)
  · exact h1
end
section
variable {B D t m n : Nat} {bits : Int} {c : Nat} {F : Nat → Option Pg} {K : List (Nat × Nat)} {V : Nat → Nat → Int} {S M : Nat → Prop} {vl : Value} {w : World}
/-- In: its row is new. -/
theorem in_at (h : Bh B D t m n bits c F K V S M vl w) (l : Lk n (sizeN bits) F K V) : Calls Try.prog 10 #[.pointer (some ⟨t, 0, none⟩)] w fun e w' => ∃ ao cap, e = .returned (.slice ao K.length cap) ∧ Below w.heap.size w w' ∧ ∀ j, j < K.length → ∃ b off, ao = some ⟨b, off, none⟩ ∧ w.heap.size ≤ b ∧ w'.cell? ⟨b, off + j, none⟩ = some (.int .i64 ((getK K j).1 : Int)) := by
  obtain ⟨fb, g, o, hp⟩ := h.pb
  refine (pb_in_at hp ((K.map Prod.fst).map fun (p : Nat) => (p : Int)) l.sorted.symm).mono ?_
  rintro e w' ⟨ao, cap, rfl, hs, b, hnew⟩
  refine ⟨ao, cap, by simp, b, fun j hj => ?_⟩
  obtain ⟨b', off, e1, e2⟩ := hs j (by simpa using hj)
  refine ⟨b', off, e1, hnew (by simp; omega) _ _ e1, ?_⟩
  rw [e2]
  simp [List.getD_eq_getElem?_getD, getK, hj]
end
end Go.Proofs.Ytkikfbndcaojjaa
