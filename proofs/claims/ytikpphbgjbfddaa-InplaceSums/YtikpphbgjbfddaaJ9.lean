/- Parts of the proof: Ja. -/
import Derived.Test.YtikpphbgjbfddaaJ1
namespace Go.Proofs.Ytikpphbgjbfddaa
set_option maxRecDepth 20000
open Go.RowKit
/-- A lock (does somebody write? the count) and a value's words. -/
structure Ce where
  lk : Bool
  ct : Nat
  l : List Nat
/-- Somebody at a record: tk is the count that its lock had when it was taken. -/
structure Wk where
  rd : Bool
  ad : Bool
  n : Nat
  l : List Nat
  mv : Nat
  dn : Bool
  sn : Nat
  gt : List Nat
  tk : Nat
/-- Which word a writer writes next. -/
def Wk.at (x : Wk) : Nat := x.mv - 1 - (if x.ad = true then 1 else 0)
def Wk.holds (x : Wk) : Bool := !x.rd && decide (0 < x.mv) && !x.dn
/-- A sum of words. -/
def sumW (a b : Nat) : Nat := (a + b) % 18446744073709551616
def wkMove (c : Ce) (x : Wk) : Nat × Ce × Wk :=
  if x.dn = true then (2, c, x)
  else if x.rd = true then
    if x.mv = 0 then (if c.lk = true then (3, c, x) else (1, c, { x with sn := c.ct, gt := [], mv := 1 }))
    else if x.mv - 1 < c.l.length then (1, c, { x with gt := x.gt ++ [c.l.getD (x.mv - 1) 0], mv := x.mv + 1 })
    else if c.lk = true ∨ c.ct ≠ x.sn then (3, c, { x with mv := 0 })
    else (2, c, { x with dn := true })
  else if x.mv = 0 then (if c.lk = true then (3, c, x) else (1, { c with lk := true }, { x with mv := 1, tk := c.ct }))
  else if x.ad = true ∧ x.mv = 1 then (1, c, { x with l := [sumW (c.l.getD 0 0) x.n], mv := 2 })
  else if x.at < x.l.length then (1, { c with l := c.l.set x.at (x.l.getD x.at 0) }, { x with mv := x.mv + 1 })
  else (2, { c with lk := false, ct := (c.ct + 1) % 4294967296 }, { x with dn := true })
/-- All words of a list are words. -/
def AllW (l : List Nat) : Prop := ∀ x ∈ l, x < 18446744073709551616
theorem AllW.get {l : List Nat} (h : AllW l) (i : Nat) : l.getD i 0 < 18446744073709551616 := by
  rw [List.getD_eq_getElem?_getD]
  cases e : l[i]? with
  | none => decide
  | some x => exact h x (List.mem_of_getElem? e)
theorem AllW.set {l : List Nat} (h : AllW l) (i x : Nat) (hx : x < 18446744073709551616) : AllW (l.set i x) := fun y hy => by
  rcases List.mem_or_eq_of_mem_set hy with e | e
  · exact h y e
  · omega
theorem AllW.snoc {l : List Nat} (h : AllW l) {x : Nat} (hx : x < 18446744073709551616) : AllW (l ++ [x]) := fun y hy => by
  rcases List.mem_append.1 hy with e | e
  · exact h y e
  · have := List.mem_singleton.1 e; omega
theorem sumW_lt (a b : Nat) : sumW a b < 18446744073709551616 := Nat.mod_lt _ (by decide)
/-- What is known of a lock and N words. -/
structure CeOk (N : Nat) (c : Ce) : Prop where
  len : c.l.length = N
  all : AllW c.l
  ct : c.ct < 4294967296
/-- What is known of somebody at them. -/
structure WkOk (N : Nat) (x : Wk) : Prop where
  n : x.n < 18446744073709551616
  all : AllW x.l
  got : AllW x.gt
  sn : x.sn < 4294967296
  one : ¬ (x.rd = true ∧ x.ad = true)
  rmv : x.rd = true → x.mv ≤ N + 1
  rgt : x.rd = true → 0 < x.mv → x.gt.length + 1 = x.mv
  few : x.gt.length ≤ N
  rdn : x.rd = true → x.dn = true → x.mv = N + 1
  wln : x.rd = false → x.ad = false → x.l.length = N ∧ x.mv ≤ N + 1
  adn : x.ad = true → N = 1 ∧ x.mv ≤ 3 ∧ (1 < x.mv → x.l.length = 1) ∧ (x.mv ≤ 1 → x.l = [])
/-- The number that a move tells, and what is known behind it. -/
theorem wk_keeps {N : Nat} {c : Ce} {x : Wk} (hc : CeOk N c) (hx : WkOk N x) : CeOk N (wkMove c x).2.1 ∧ WkOk N (wkMove c x).2.2 := by
  obtain ⟨h1, h2, h3⟩ := hc
  obtain ⟨k1, k2, k3, k4, k5, k6, k7, k7', k8, k9, k10⟩ := hx
  unfold wkMove
  split
  · exact ⟨⟨h1, h2, h3⟩, k1, k2, k3, k4, k5, k6, k7, k7', k8, k9, k10⟩
  · rename_i hd
    split
    · rename_i hr
      split
      · split
        · exact ⟨⟨h1, h2, h3⟩, k1, k2, k3, k4, k5, k6, k7, k7', k8, k9, k10⟩
        · refine ⟨⟨h1, h2, h3⟩, k1, k2, fun y hy => absurd hy (by simp), h3, k5, fun _ => by simp, fun _ _ => rfl, by simp, fun _ e => absurd e hd, fun e => absurd (hr.symm.trans e) (by decide), fun e => absurd ⟨hr, e⟩ k5⟩
      · rename_i h0
        have g := k7 hr (by omega)
        split
        · rename_i hl
          refine ⟨⟨h1, h2, h3⟩, k1, k2, k3.snoc (h2.get _), k4, k5, fun _ => by simp only; omega, fun _ _ => by simp only [List.length_append, List.length_singleton]; omega, by simp only [List.length_append, List.length_singleton]; omega, fun _ e => absurd e hd, fun e => absurd (hr.symm.trans e) (by decide), fun e => absurd ⟨hr, e⟩ k5⟩
        · split
          · exact ⟨⟨h1, h2, h3⟩, k1, k2, k3, k4, k5, fun _ => by simp, fun _ e => absurd e (by simp), k7', fun _ e => absurd e hd, fun e => absurd (hr.symm.trans e) (by decide), fun e => absurd ⟨hr, e⟩ k5⟩
          · exact ⟨⟨h1, h2, h3⟩, k1, k2, k3, k4, k5, k6, k7, k7', fun _ _ => by have := k6 hr; simp only; omega, k9, k10⟩
    · rename_i hr
      split
      · split
        · exact ⟨⟨h1, h2, h3⟩, k1, k2, k3, k4, k5, k6, k7, k7', k8, k9, k10⟩
        · rename_i h0 _
          refine ⟨⟨h1, h2, h3⟩, k1, k2, k3, k4, k5, fun e => absurd e hr, fun e => absurd e hr, k7', fun e => absurd e hr, fun a b => ⟨(k9 a b).1, by simp⟩, fun e => ⟨(k10 e).1, by simp, fun e' => absurd e' (by simp), fun _ => (k10 e).2.2.2 (by omega)⟩⟩
      · rename_i h0
        split
        · rename_i ha
          refine ⟨⟨h1, h2, h3⟩, k1, fun y hy => by rw [List.mem_singleton.1 hy]; exact sumW_lt _ _, k3, k4, k5, fun e => absurd e hr, fun e => absurd e hr, k7', fun e => absurd e hr, fun a b => absurd (ha.1.symm.trans b) (by decide), fun e => ⟨(k10 e).1, by simp, fun _ => rfl, fun e' => absurd e' (by simp)⟩⟩
        · rename_i ha
          split
          · rename_i hl
            refine ⟨⟨by simpa using h1, h2.set _ _ (k2.get _), h3⟩, k1, k2, k3, k4, k5, fun e => absurd e hr, fun e => absurd e hr, k7', fun e => absurd e hr, fun a b => ?_, fun e => ?_⟩
            · have := k9 a b
              unfold Wk.at at hl
              rw [if_neg (by rw [b]; decide)] at hl
              exact ⟨this.1, by simp only; omega⟩
            · have := k10 e
              unfold Wk.at at hl
              rw [if_pos e] at hl
              have h1' : x.mv ≠ 1 := fun q => ha ⟨e, q⟩
              have := this.2.2.1 (by omega)
              exact ⟨(k10 e).1, by simp only; omega, fun _ => this, fun q => absurd q (by simp only; omega)⟩
          · exact ⟨⟨h1, h2, Nat.mod_lt _ (by decide)⟩, k1, k2, k3, k4, k5, fun e => absurd e hr, fun e => absurd e hr, k7', fun e => absurd e hr, k9, k10⟩
end Go.Proofs.Ytikpphbgjbfddaa
