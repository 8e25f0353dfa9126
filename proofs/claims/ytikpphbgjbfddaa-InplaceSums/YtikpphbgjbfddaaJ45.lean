/- Parts of the proof: Sd. -/
import Derived.Test.YtikpphbgjbfddaaJ44
namespace Go.Proofs.Ytikpphbgjbfddaa
set_option maxRecDepth 20000
open Go.RowKit
theorem su_free {S K : Nat} {c : Ce} {xs : Nat → Wk} (h : SumOk S c xs K) (hn : ∀ j, j < K → (xs j).holds = false) : c.lk = false := by
  cases e : c.lk with
  | false => rfl
  | true =>
    obtain ⟨j, hj, q⟩ := h.sc.lk.1 e
    rw [hn j hj] at q
    cases q
theorem dn_holds {x : Wk} (h : x.dn = true) : x.holds = false := by unfold Wk.holds; rw [h]; simp
/-- Behind jj of his moves. -/
def RunQ (S0 nq r jj : Nat) (cp : Ce) (x : Wk) (S' : Nat) : Prop := (r ≠ 2 ∧ x.dn = false ∧ S' = S0 ∧ (x.holds = true ∨ cp.lk = false) ∧ jj + wkLeft cp x ≤ 6) ∨ (r = 2 ∧ x.dn = true ∧ S' = sumW S0 nq)
theorem run_start {S0 nq : Nat} {cp : Ce} {x : Wk} (hd : x.dn = false) (hl : x.holds = true ∨ cp.lk = false) : RunQ S0 nq 0 0 cp x S0 := .inl ⟨by decide, hd, rfl, hl, by have := wkLeft_le cp x; omega⟩
theorem run_step {S0 S' nq K q jj : Nat} {cp : Ce} {xp : Nat → Wk} (hs : SumOk S' cp xp K) (hq : q < K) (hn : (xp q).n = nq) (hd : (xp q).dn = false) (hS : S' = S0) (hl : (xp q).holds = true ∨ cp.lk = false) (hj : jj + wkLeft cp (xp q) ≤ 6) :
    RunQ S0 nq (wkMove cp (xp q)).1 (jj + 1) (wkMove cp (xp q)).2.1 (wkMove cp (xp q)).2.2 (sumNext S' cp (xp q)) := by
  rcases wk_alone hs.sc.ce (hs.sc.wk q hq) hd (hs.ad q hq) hl with e | ⟨e1, e2, e3⟩
  · exact .inr ⟨e, wk_two.1 e, by rw [sum_new hd e, hn, hS]⟩
  · have e4 : (wkMove cp (xp q)).1 ≠ 2 := fun e => by rw [wk_two.1 e] at e2; cases e2
    exact .inl ⟨e4, e2, by rw [sum_old (.inr e4), hS], e3, by omega⟩
theorem hold_any {X : InPred} (C : InProg X) {w : World} {o : Nat → Nat} {B k : Nat} {d : Sn} {vls vgs : Nat → Value} {cp cr : Ce} {xp xr : Nat → Wk} (h : ScA X w o B d k vls vgs cp xp cr xr) {q : Nat} (hq : q < d.K) (hrd : (xp q).rd = d.rd q) :
    Calls Try.prog 14 #[ptrV (d.fa q)] w fun e w' => e = .returned (.bool (xp q).holds) ∧ Below w.heap.size w w' := by
  cases hr : d.rd q with
  | true =>
    rw [show d.fa q = none by unfold Sn.fa; rw [if_pos hr]]
    rw [show (xp q).holds = false by unfold Wk.holds; rw [hrd, hr]; rfl]
    exact C.holds0 w
  | false =>
    rw [show d.fa q = some (d.pw q) by unfold Sn.fa; rw [if_neg (by rw [hr]; decide)]]
    exact C.holds (h.p.pr q hq) (by rw [hrd, hr])
/-- What holds between the k-th and the next of a turn. -/
def TurnQ (d : Sn) (xp : Nat → Wk) (tu q : Nat) : Prop := (tu = 0 → ∀ j, j < q → (xp j).holds = false) ∧ (tu = 1 → (∀ j, j < d.K → (xp j).holds = false) ∧ ∀ j, j < q → (xp j).dn = true)
theorem TurnQ.pass {d : Sn} {xp : Nat → Wk} {tu q : Nat} (h : TurnQ d xp tu q) (h0 : tu = 0 → (xp q).holds = false) (h1 : tu = 1 → (xp q).dn = true) : TurnQ d xp tu (q + 1) := by
  refine ⟨fun e j hj => ?_, fun e => ⟨(h.2 e).1, fun j hj => ?_⟩⟩
  · by_cases q' : j = q
    · subst q'; exact h0 e
    · exact h.1 e j (by omega)
  · by_cases q' : j = q
    · subst q'; exact h1 e
    · exact (h.2 e).2 j (by omega)
theorem TurnQ.run {d : Sn} {xp xp' : Nat → Wk} {tu q : Nat} (h : TurnQ d xp tu q) (ho : ∀ i, i ≠ q → xp' i = xp i) (hd : (xp' q).dn = true) : TurnQ d xp' tu (q + 1) := by
  refine ⟨fun e j hj => ?_, fun e => ⟨fun j hj => ?_, fun j hj => ?_⟩⟩
  · by_cases q' : j = q
    · subst q'; exact dn_holds hd
    · rw [ho j q']; exact h.1 e j (by omega)
  · by_cases q' : j = q
    · subst q'; exact dn_holds hd
    · rw [ho j q']; exact (h.2 e).1 j hj
  · by_cases q' : j = q
    · subst q'; exact hd
    · rw [ho j q']; exact (h.2 e).2 j (by omega)
theorem dn_run {xp xp' : Nat → Wk} {q : Nat} (ho : ∀ i, i ≠ q → xp' i = xp i) (hd : (xp' q).dn = true) : ∀ i, (if i = q then true else dnS xp i) = dnS xp' i := fun i => by
  unfold dnS
  by_cases e : i = q
  · subst e; rw [if_pos rfl, hd]
  · rw [if_neg e, ho i e]
end Go.Proofs.Ytikpphbgjbfddaa
