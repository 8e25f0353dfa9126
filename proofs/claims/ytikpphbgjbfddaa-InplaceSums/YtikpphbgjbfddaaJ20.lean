/- Parts of the proof: Jk. -/
import Derived.Test.YtikpphbgjbfddaaJ18
namespace Go.Proofs.Ytikpphbgjbfddaa
set_option maxRecDepth 20000
open Go.RowKit
/-- At most so many moves are left. -/
def wkLeft (c : Ce) (x : Wk) : Nat := if x.rd = true then (if x.mv = 0 ∨ x.sn = c.ct then 3 - x.mv else 6 - x.mv) else 4 - x.mv
theorem wkLeft_le (c : Ce) (x : Wk) : wkLeft c x ≤ 6 := by
  unfold wkLeft
  repeat' split
  all_goals omega
theorem wk_alone {c : Ce} {x : Wk} (hc : CeOk 1 c) (hx : WkOk 1 x) (hd : x.dn = false) (had : x.rd = false → x.ad = true) (hl : x.holds = true ∨ c.lk = false) :
    (wkMove c x).1 = 2 ∨ (wkLeft (wkMove c x).2.1 (wkMove c x).2.2 < wkLeft c x ∧ (wkMove c x).2.2.dn = false ∧ ((wkMove c x).2.2.holds = true ∨ (wkMove c x).2.1.lk = false)) := by
  have hlen := hc.len
  have hd' : ¬ x.dn = true := by rw [hd]; decide
  by_cases hr : x.rd = true
  · have hk : c.lk = false := by
      rcases hl with e | e
      · unfold Wk.holds at e; rw [hr] at e; exact Bool.noConfusion e
      · exact e
    have hk' : ¬ c.lk = true := by rw [hk]; decide
    have hm := hx.rmv hr
    by_cases h0 : x.mv = 0
    · rw [show wkMove c x = (1, c, { x with sn := c.ct, gt := [], mv := 1 }) by unfold wkMove; rw [if_neg hd', if_pos hr, if_pos h0, if_neg hk']]
      refine .inr ⟨?_, hd, .inr hk⟩
      unfold wkLeft
      simp only [if_pos hr]
      rw [if_pos (.inr trivial), if_pos (.inl h0), h0]
      omega
    · by_cases hi : x.mv - 1 < c.l.length
      · rw [show wkMove c x = (1, c, { x with gt := x.gt ++ [c.l.getD (x.mv - 1) 0], mv := x.mv + 1 }) by unfold wkMove; rw [if_neg hd', if_pos hr, if_neg h0, if_pos hi]]
        refine .inr ⟨?_, hd, .inr hk⟩
        unfold wkLeft
        simp only [if_pos hr]
        by_cases hs : x.sn = c.ct
        · rw [if_pos (.inr hs), if_pos (.inr hs)]; omega
        · rw [if_neg (fun e => e.elim (fun q => by omega) hs), if_neg (fun e => e.elim h0 hs)]; omega
      · by_cases hs : x.sn = c.ct
        · left
          have : ¬ (c.lk = true ∨ c.ct ≠ x.sn) := fun e => e.elim hk' (fun q => q hs.symm)
          rw [show wkMove c x = (2, c, { x with dn := true }) by unfold wkMove; rw [if_neg hd', if_pos hr, if_neg h0, if_neg hi, if_neg this]]
        · have : c.lk = true ∨ c.ct ≠ x.sn := .inr (fun e => hs e.symm)
          rw [show wkMove c x = (3, c, { x with mv := 0 }) by unfold wkMove; rw [if_neg hd', if_pos hr, if_neg h0, if_neg hi, if_pos this]]
          refine .inr ⟨?_, hd, .inr hk⟩
          unfold wkLeft
          simp only [if_pos hr]
          rw [if_pos (.inl trivial), if_neg (fun e => e.elim h0 hs)]
          omega
  · have hr' : x.rd = false := by simpa using hr
    have ha := had hr'
    obtain ⟨-, n2, n3, -⟩ := hx.adn ha
    by_cases h0 : x.mv = 0
    · have hk : c.lk = false := by
        rcases hl with e | e
        · unfold Wk.holds at e; rw [h0] at e; simp at e
        · exact e
      have hk' : ¬ c.lk = true := by rw [hk]; decide
      rw [show wkMove c x = (1, { c with lk := true }, { x with mv := 1, tk := c.ct }) by unfold wkMove; rw [if_neg hd', if_neg hr, if_pos h0, if_neg hk']]
      refine .inr ⟨?_, hd, .inl (by simp [Wk.holds, hr', hd])⟩
      unfold wkLeft
      simp only [if_neg hr]
      omega
    · have hp : 0 < x.mv := by omega
      by_cases h1 : x.mv = 1
      · rw [show wkMove c x = (1, c, { x with l := [sumW (c.l.getD 0 0) x.n], mv := 2 }) by unfold wkMove; rw [if_neg hd', if_neg hr, if_neg h0, if_pos ⟨ha, h1⟩]]
        refine .inr ⟨?_, hd, .inl (by simp [Wk.holds, hr', hd])⟩
        unfold wkLeft
        simp only [if_neg hr]
        omega
      · have hll := n3 (by omega)
        have hat : x.at = x.mv - 2 := by unfold Wk.at; rw [if_pos ha]; omega
        by_cases h2 : x.mv = 2
        · rw [show wkMove c x = (1, { c with l := c.l.set x.at (x.l.getD x.at 0) }, { x with mv := x.mv + 1 }) by unfold wkMove; rw [if_neg hd', if_neg hr, if_neg h0, if_neg (fun e => h1 e.2), if_pos (by omega)]]
          refine .inr ⟨?_, hd, .inl (by simp [Wk.holds, hr', hd])⟩
          unfold wkLeft
          simp only [if_neg hr]
          omega
        · left
          rw [show wkMove c x = (2, { c with lk := false, ct := (c.ct + 1) % 4294967296 }, { x with dn := true }) by unfold wkMove; rw [if_neg hd', if_neg hr, if_neg h0, if_neg (fun e => h1 e.2), if_neg (by omega)]]
end Go.Proofs.Ytikpphbgjbfddaa
