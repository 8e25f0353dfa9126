/- Parts of the proof: Jz. -/
import Derived.Test.YtikpphbgjbfddaaJ1
import Derived.Test.YtikpphbgjbfddaaJ37
namespace Go.Proofs.Ytikpphbgjbfddaa
set_option maxRecDepth 20000
open Go.RowKit
/-- Of a list of words. -/
def EmL (n N : Nat) (l : List Nat) : Prop := Empty (fun j => l.getD j 0) n N
theorem emL_nil (n N : Nat) : EmL n N [] := fun k _ _ => by simp [byteAt]
theorem EmL.set {n N i : Nat} {c l : List Nat} (h : EmL n N c) (k : EmL n N l) : EmL n N (c.set i (l.getD i 0)) := by
  intro j h1 h2
  have a := h j h1 h2
  have b := k j h1 h2
  unfold byteAt at a b ⊢
  simp only [List.getD_eq_getElem?_getD, List.getElem?_set] at a b ⊢
  by_cases e : i = j / 8
  · subst e
    rw [if_pos rfl]
    by_cases q : j / 8 < c.length
    · rw [if_pos q]; simpa using b
    · rw [if_neg q]; simp
  · rw [if_neg e]; exact a
theorem EmL.snoc {n N i : Nat} {g c : List Nat} (h : EmL n N g) (k : EmL n N c) (hi : g.length = i) : EmL n N (g ++ [c.getD i 0]) := by
  intro j h1 h2
  have a := h j h1 h2
  have b := k j h1 h2
  unfold byteAt at a b ⊢
  simp only [List.getD_eq_getElem?_getD] at a b ⊢
  by_cases e : j / 8 < g.length
  · rw [List.getElem?_append_left e]; exact a
  · rw [List.getElem?_append_right (by omega)]
    by_cases q : j / 8 = i
    · rw [q, hi, Nat.sub_self]; rw [q] at b; simpa using b
    · rw [List.getElem?_eq_none (by simp; omega)]; simp
theorem emL_words (s : ByteArray) : EmL s.size (wordsFor s.size) (wordsL s.data.toList (wordsFor s.size)) := by
  intro j h1 h2
  have h := empty_words s.data.toList (wordsFor s.size) j h1 h2
  unfold byteAt at h ⊢
  have hg : (wordsL s.data.toList (wordsFor s.size)).getD (j / 8) 0 = wordAt s.data.toList (j / 8) := by
    have : j / 8 < wordsFor s.size := by omega
    simp [wordsL, List.getD_eq_getElem?_getD, this]
  simp only [hg]; exact h
theorem WkFresh.gt0 {N : Nat} {x : Wk} (h : WkFresh N x) : [] = x.gt := by
  rcases h with e | ⟨_, n, _, e⟩ | ⟨l, _, _, e⟩ <;> subst e <;> rfl
theorem wk_em {n N : Nat} {c : Ce} {x : Wk} (hx : WkOk N x) (h1 : EmL n N c.l) (h2 : EmL n N x.l) (h3 : EmL n N x.gt) : EmL n N (wkMove c x).2.1.l ∧ EmL n N (wkMove c x).2.2.gt := by
  unfold wkMove
  split
  · exact ⟨h1, h3⟩
  · split
    · rename_i hr
      split
      · split
        · exact ⟨h1, h3⟩
        · exact ⟨h1, emL_nil _ _⟩
      · rename_i h0
        split
        · exact ⟨h1, h3.snoc h1 (by have := hx.rgt hr (by omega); omega)⟩
        · split
          · exact ⟨h1, h3⟩
          · exact ⟨h1, h3⟩
    · split
      · split
        · exact ⟨h1, h3⟩
        · exact ⟨h1, h3⟩
      · split
        · exact ⟨h1, h3⟩
        · split
          · exact ⟨h1.set h2, h3⟩
          · exact ⟨h1, h3⟩
end Go.Proofs.Ytikpphbgjbfddaa
