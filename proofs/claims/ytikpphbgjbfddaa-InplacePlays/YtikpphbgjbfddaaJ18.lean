/- Parts of the proof: Jj. -/
import Derived.Test.YtikpphbgjbfddaaJ7
namespace Go.Proofs.Ytikpphbgjbfddaa
set_option maxRecDepth 20000
open Go.RowKit
theorem wk_fix (c : Ce) (x : Wk) : (wkMove c x).2.2.rd = x.rd ∧ (wkMove c x).2.2.ad = x.ad ∧ (wkMove c x).2.2.n = x.n := by
  unfold wkMove
  repeat' split
  all_goals exact ⟨rfl, rfl, rfl⟩
/-- Where somebody at a number stands: S is the sum of what is done. -/
structure SumI (S : Nat) (c : Ce) (x : Wk) : Prop where
  h1 : x.holds = true → x.mv = 1 → c.l = [S]
  h2 : x.holds = true → x.mv = 2 → c.l = [S] ∧ x.l = [sumW S x.n]
  h3 : x.holds = true → x.mv = 3 → c.l = [sumW S x.n]
theorem SumI.none {S : Nat} {c : Ce} {x : Wk} (h : x.holds = false) : SumI S c x :=
  ⟨fun e => Bool.noConfusion (h.symm.trans e), fun e => Bool.noConfusion (h.symm.trans e), fun e => Bool.noConfusion (h.symm.trans e)⟩
structure SumOk (S : Nat) (c : Ce) (xs : Nat → Wk) (k : Nat) : Prop where
  sc : ScOk 1 c xs k
  s : S < 18446744073709551616
  ad : ∀ j, j < k → (xs j).rd = false → (xs j).ad = true
  rn : ∀ j, j < k → (xs j).rd = true → (xs j).n = 0
  fr : c.lk = false → c.l = [S]
  hs : ∀ j, j < k → SumI S c (xs j)
/-- The sum behind a move. -/
def sumNext (S : Nat) (c : Ce) (x : Wk) : Nat := if (wkMove c x).1 = 2 ∧ x.dn = false then sumW S x.n else S
theorem sumW_zero {S : Nat} (h : S < 18446744073709551616) : sumW S 0 = S := Nat.mod_eq_of_lt h
theorem SumOk.put {S S' r : Nat} {c c' : Ce} {xs : Nat → Wk} {k i : Nat} {x' : Wk} (h : SumOk S c xs k) (hi : i < k) (hm : wkMove c (xs i) = (r, c', x')) (hS : S' < 18446744073709551616) (hfr : c'.lk = false → c'.l = [S']) (hx : SumI S' c' x') (ho : ∀ j, j < k → j ≠ i → SumI S' c' (xs j)) :
    SumOk S' (wkMove c (xs i)).2.1 (wkUpd xs i (wkMove c (xs i)).2.2) k := by
  have hf := wk_fix c (xs i)
  have hsc := h.sc.move hi
  rw [hm] at hf hsc ⊢
  refine ⟨hsc, hS, fun j hj e => ?_, fun j hj e => ?_, hfr, fun j hj => ?_⟩
  · by_cases q : j = i
    · subst q; rw [wkUpd_same] at e ⊢; rw [hf.2.1]; exact h.ad j hj (hf.1.symm.trans e)
    · rw [wkUpd_ne q] at e ⊢; exact h.ad j hj e
  · by_cases q : j = i
    · subst q; rw [wkUpd_same] at e ⊢; rw [hf.2.2]; exact h.rn j hj (hf.1.symm.trans e)
    · rw [wkUpd_ne q] at e ⊢; exact h.rn j hj e
  · by_cases q : j = i
    · subst q; rw [wkUpd_same]; exact hx
    · rw [wkUpd_ne q]; exact ho j hj q
theorem SumOk.move {S : Nat} {c : Ce} {xs : Nat → Wk} {k i : Nat} (h : SumOk S c xs k) (hi : i < k) : SumOk (sumNext S c (xs i)) (wkMove c (xs i)).2.1 (wkUpd xs i (wkMove c (xs i)).2.2) k := by
  have hI := h.hs i hi
  have hoth : ∀ j, j < k → j ≠ i → SumI S c (xs j) := fun j hj _ => h.hs j hj
  unfold sumNext
  by_cases hd : (xs i).dn = true
  · have hm : wkMove c (xs i) = (2, c, xs i) := by unfold wkMove; rw [if_pos hd]
    rw [if_neg (fun e => by rw [hd] at e; exact Bool.noConfusion e.2)]
    exact h.put hi hm h.s h.fr hI hoth
  · have hd' : (xs i).dn = false := by simpa using hd
    by_cases hr : (xs i).rd = true
    · have hS : (if (wkMove c (xs i)).1 = 2 ∧ (xs i).dn = false then sumW S (xs i).n else S) = S := by
        split
        · rw [h.rn i hi hr]; exact sumW_zero h.s
        · rfl
      rw [hS]
      have hn : (wkMove c (xs i)).2.2.holds = false := by unfold Wk.holds; rw [(wk_fix c (xs i)).1, hr]; rfl
      have hcc : (wkMove c (xs i)).2.1 = c := by
        unfold wkMove; rw [if_neg hd, if_pos hr]
        repeat' split
        all_goals rfl
      exact h.put hi (r := (wkMove c (xs i)).1) (c' := (wkMove c (xs i)).2.1) (x' := (wkMove c (xs i)).2.2) rfl h.s (by rw [hcc]; exact h.fr) (.none hn) (by rw [hcc]; exact hoth)
    · have hr' : (xs i).rd = false := by simpa using hr
      have ha := h.ad i hi hr'
      by_cases h0 : (xs i).mv = 0
      · by_cases hl : c.lk = true
        · have hm : wkMove c (xs i) = (3, c, xs i) := by unfold wkMove; rw [if_neg hd, if_neg hr, if_pos h0, if_pos hl]
          rw [if_neg (by rw [hm]; intro e; have e1 := e.1; simp only at e1; omega)]
          exact h.put hi hm h.s h.fr hI hoth
        · have hm : wkMove c (xs i) = (1, { c with lk := true }, { xs i with mv := 1, tk := c.ct }) := by unfold wkMove; rw [if_neg hd, if_neg hr, if_pos h0, if_neg hl]
          have hl' : c.lk = false := by simpa using hl
          rw [if_neg (by rw [hm]; intro e; have e1 := e.1; simp only at e1; omega)]
          refine h.put hi hm h.s (fun e => Bool.noConfusion e) ⟨fun _ _ => h.fr hl', fun _ e => (by simp only at e; omega), fun _ e => (by simp only at e; omega)⟩ (fun j hj _ => .none ?_)
          cases q : (xs j).holds with
          | false => rfl
          | true => exact absurd (h.sc.lk.2 ⟨j, hj, q⟩) hl
      · obtain ⟨-, n2, n3, n4⟩ := (h.sc.wk i hi).adn ha
        have hh : (xs i).holds = true := by
          have : 0 < (xs i).mv := by omega
          simp [Wk.holds, hr', hd', this]
        have hno : ∀ j, j < k → j ≠ i → (xs j).holds = false := fun j hj e => by
          cases q : (xs j).holds with
          | false => rfl
          | true => exact absurd (h.sc.one j hj i hi q hh) e
        have hlk : c.lk = true := h.sc.lk.2 ⟨i, hi, hh⟩
        by_cases h1 : (xs i).mv = 1
        · have hc := hI.h1 hh h1
          have hm : wkMove c (xs i) = (1, c, { xs i with l := [sumW (c.l.getD 0 0) (xs i).n], mv := 2 }) := by unfold wkMove; rw [if_neg hd, if_neg hr, if_neg h0, if_pos ⟨ha, h1⟩]
          rw [if_neg (by rw [hm]; intro e; have e1 := e.1; simp only at e1; omega)]
          exact h.put hi hm h.s h.fr ⟨fun _ e => (by simp only at e; omega), fun _ _ => ⟨hc, by rw [hc]; rfl⟩, fun _ e => (by simp only at e; omega)⟩ (fun j hj e => .none (hno j hj e))
        · have hll := n3 (by omega)
          have hat : (xs i).at = (xs i).mv - 2 := by unfold Wk.at; rw [if_pos ha]; omega
          by_cases h2 : (xs i).mv = 2
          · obtain ⟨hc, hl⟩ := hI.h2 hh h2
            have hm : wkMove c (xs i) = (1, { c with l := c.l.set (xs i).at ((xs i).l.getD (xs i).at 0) }, { xs i with mv := (xs i).mv + 1 }) := by
              unfold wkMove; rw [if_neg hd, if_neg hr, if_neg h0, if_neg (fun e => h1 e.2), if_pos (by omega)]
            rw [if_neg (by rw [hm]; intro e; have e1 := e.1; simp only at e1; omega)]
            have e0 : (xs i).at = 0 := by omega
            have hcs : c.l.set (xs i).at ((xs i).l.getD (xs i).at 0) = [sumW S (xs i).n] := by rw [e0, hc, hl]; rfl
            exact h.put hi hm h.s (fun e => Bool.noConfusion (hlk.symm.trans e)) ⟨fun _ e => (by simp only at e; omega), fun _ e => (by simp only at e; omega), fun _ _ => hcs⟩ (fun j hj e => .none (hno j hj e))
          · have hc := hI.h3 hh (by omega)
            have hm : wkMove c (xs i) = (2, { c with lk := false, ct := (c.ct + 1) % 4294967296 }, { xs i with dn := true }) := by
              unfold wkMove; rw [if_neg hd, if_neg hr, if_neg h0, if_neg (fun e => h1 e.2), if_neg (by omega)]
            rw [if_pos (by rw [hm]; exact ⟨rfl, hd'⟩)]
            exact h.put hi hm (sumW_lt _ _) (fun _ => hc) (.none (by simp [Wk.holds])) (fun j hj e => .none (hno j hj e))
end Go.Proofs.Ytikpphbgjbfddaa
