/- Parts of the proof: Ji. -/
import Derived.Test.YtikpphbgjbfddaaJ9
namespace Go.Proofs.Ytikpphbgjbfddaa
set_option maxRecDepth 20000
open Go.RowKit
/-- What a move does to the lock: nothing; it is taken; it is freed. -/
theorem wk_lock (c : Ce) (x : Wk) :
    ((wkMove c x).2.2.holds = x.holds ∧ (wkMove c x).2.1.lk = c.lk ∧ (wkMove c x).2.1.ct = c.ct ∧ (x.holds = true → (wkMove c x).2.2.tk = x.tk)) ∨
    (x.holds = false ∧ c.lk = false ∧ (wkMove c x).2.2.holds = true ∧ (wkMove c x).2.1.lk = true ∧ (wkMove c x).2.1.ct = c.ct ∧ (wkMove c x).2.2.tk = c.ct) ∨
    (x.holds = true ∧ (wkMove c x).2.2.holds = false ∧ (wkMove c x).2.1.lk = false) := by
  unfold wkMove
  by_cases hd : x.dn = true
  · rw [if_pos hd]; exact .inl ⟨rfl, rfl, rfl, fun _ => rfl⟩
  · rw [if_neg hd]
    have hd' : x.dn = false := by simpa using hd
    by_cases hr : x.rd = true
    · rw [if_pos hr]
      have hh : x.holds = false := by unfold Wk.holds; rw [hr]; rfl
      left
      split
      · split
        · exact ⟨rfl, rfl, rfl, fun _ => rfl⟩
        · exact ⟨by unfold Wk.holds; simp only [hr]; rfl, rfl, rfl, fun _ => rfl⟩
      · split
        · exact ⟨by unfold Wk.holds; simp only [hr]; rfl, rfl, rfl, fun _ => rfl⟩
        · split
          · exact ⟨by unfold Wk.holds; simp only [hr]; rfl, rfl, rfl, fun _ => rfl⟩
          · exact ⟨by unfold Wk.holds; simp only [hr]; rfl, rfl, rfl, fun _ => rfl⟩
    · rw [if_neg hr]
      have hr' : x.rd = false := by simpa using hr
      by_cases h0 : x.mv = 0
      · rw [if_pos h0]
        by_cases hl : c.lk = true
        · rw [if_pos hl]; exact .inl ⟨rfl, rfl, rfl, fun _ => rfl⟩
        · rw [if_neg hl]
          exact .inr (.inl ⟨by simp [Wk.holds, h0], by simpa using hl, by simp [Wk.holds, hr', hd'], rfl, rfl, rfl⟩)
      · rw [if_neg h0]
        have hp : 0 < x.mv := by omega
        split
        · exact .inl ⟨by simp [Wk.holds, hr', hd', hp], rfl, rfl, fun _ => rfl⟩
        · split
          · exact .inl ⟨by simp [Wk.holds, hr', hd', hp], rfl, rfl, fun _ => rfl⟩
          · exact .inr (.inr ⟨by simp [Wk.holds, hr', hd', hp], by simp [Wk.holds], rfl⟩)
/-- One of many gets another state. -/
def wkUpd (xs : Nat → Wk) (i : Nat) (x : Wk) : Nat → Wk := fun j => if j = i then x else xs j
theorem wkUpd_same (xs : Nat → Wk) (i : Nat) (x : Wk) : wkUpd xs i x i = x := if_pos rfl
theorem wkUpd_ne {xs : Nat → Wk} {i j : Nat} {x : Wk} (h : j ≠ i) : wkUpd xs i x j = xs j := if_neg h
/-- What is known of k of them at a record. -/
structure ScOk (N : Nat) (c : Ce) (xs : Nat → Wk) (k : Nat) : Prop where
  ce : CeOk N c
  wk : ∀ j, j < k → WkOk N (xs j)
  one : ∀ i, i < k → ∀ j, j < k → (xs i).holds = true → (xs j).holds = true → i = j
  lk : c.lk = true ↔ ∃ j, j < k ∧ (xs j).holds = true
  tk : ∀ j, j < k → (xs j).holds = true → (xs j).tk = c.ct
theorem ScOk.move {N : Nat} {c : Ce} {xs : Nat → Wk} {k : Nat} (h : ScOk N c xs k) {i : Nat} (hi : i < k) : ScOk N (wkMove c (xs i)).2.1 (wkUpd xs i (wkMove c (xs i)).2.2) k := by
  obtain ⟨k1, k2⟩ := wk_keeps h.ce (h.wk i hi)
  have hw : ∀ j, j < k → WkOk N (wkUpd xs i (wkMove c (xs i)).2.2 j) := fun j hj => by
    by_cases e : j = i
    · subst e; rw [wkUpd_same]; exact k2
    · rw [wkUpd_ne e]; exact h.wk j hj
  rcases wk_lock c (xs i) with ⟨a1, a2, a3, a4⟩ | ⟨a1, a2, a3, a4, a5, a6⟩ | ⟨a1, a2, a3⟩
  · have hs : ∀ j, (wkUpd xs i (wkMove c (xs i)).2.2 j).holds = (xs j).holds := fun j => by
      by_cases e : j = i
      · subst e; rw [wkUpd_same, a1]
      · rw [wkUpd_ne e]
    refine ⟨k1, hw, fun a ha b hb p q => h.one a ha b hb (by rw [← hs]; exact p) (by rw [← hs]; exact q), ?_, fun j hj p => ?_⟩
    · rw [a2, h.lk]
      exact ⟨fun ⟨j, hj, p⟩ => ⟨j, hj, by rw [hs]; exact p⟩, fun ⟨j, hj, p⟩ => ⟨j, hj, by rw [← hs]; exact p⟩⟩
    · rw [hs] at p
      rw [a3]
      by_cases e : j = i
      · subst e; rw [wkUpd_same, a4 p]; exact h.tk j hj p
      · rw [wkUpd_ne e]; exact h.tk j hj p
  · have hno : ∀ j, j < k → (xs j).holds = false := fun j hj => by
      cases e : (xs j).holds with
      | false => rfl
      | true => have := h.lk.2 ⟨j, hj, e⟩; rw [a2] at this; cases this
    have hs : ∀ j, j < k → (wkUpd xs i (wkMove c (xs i)).2.2 j).holds = true → j = i := fun j hj p => by
      by_cases e : j = i
      · exact e
      · rw [wkUpd_ne e, hno j hj] at p; cases p
    refine ⟨k1, hw, fun a ha b hb p q => (hs a ha p).trans (hs b hb q).symm, ⟨fun _ => ⟨i, hi, by rw [wkUpd_same]; exact a3⟩, fun _ => a4⟩, fun j hj p => ?_⟩
    have := hs j hj p
    subst this
    rw [wkUpd_same, a6, a5]
  · have hs : ∀ j, j < k → (wkUpd xs i (wkMove c (xs i)).2.2 j).holds = false := fun j hj => by
      by_cases e : j = i
      · subst e; rw [wkUpd_same]; exact a2
      · rw [wkUpd_ne e]
        cases q : (xs j).holds with
        | false => rfl
        | true => exact absurd (h.one j hj i hi q a1) e
    have no : ∀ j, j < k → (wkUpd xs i (wkMove c (xs i)).2.2 j).holds = true → False := fun j hj p => Bool.noConfusion ((hs j hj).symm.trans p)
    exact ⟨k1, hw, fun a ha _ _ p _ => (no a ha p).elim, ⟨fun p => Bool.noConfusion (a3.symm.trans p), fun ⟨j, hj, p⟩ => (no j hj p).elim⟩, fun j hj p => (no j hj p).elim⟩
end Go.Proofs.Ytikpphbgjbfddaa
