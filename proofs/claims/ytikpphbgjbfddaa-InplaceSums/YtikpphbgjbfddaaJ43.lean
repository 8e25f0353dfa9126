/- Parts of the proof: Sa. -/
import Derived.Test.YtikpphbgjbfddaaJ41
import Derived.Test.YtikpphbgjbfddaaJ42
namespace Go.Proofs.Ytikpphbgjbfddaa
set_option maxRecDepth 20000
open Go.RowKit
theorem wk_two {c : Ce} {x : Wk} : (wkMove c x).1 = 2 ↔ (wkMove c x).2.2.dn = true := by
  unfold wkMove
  by_cases hd : x.dn = true
  · rw [if_pos hd]; exact ⟨fun _ => hd, fun _ => rfl⟩
  · rw [if_neg hd]
    by_cases hr : x.rd = true
    · rw [if_pos hr]
      by_cases h0 : x.mv = 0
      · rw [if_pos h0]
        by_cases hl : c.lk = true
        · rw [if_pos hl]; exact ⟨fun e => absurd e (by simp), fun e => absurd e hd⟩
        · rw [if_neg hl]; exact ⟨fun e => absurd e (by simp), fun e => absurd e hd⟩
      · rw [if_neg h0]
        by_cases h1 : x.mv - 1 < c.l.length
        · rw [if_pos h1]; exact ⟨fun e => absurd e (by simp), fun e => absurd e hd⟩
        · rw [if_neg h1]
          by_cases h2 : c.lk = true ∨ c.ct ≠ x.sn
          · rw [if_pos h2]; exact ⟨fun e => absurd e (by simp), fun e => absurd e hd⟩
          · rw [if_neg h2]; exact ⟨fun _ => rfl, fun _ => rfl⟩
    · rw [if_neg hr]
      by_cases h0 : x.mv = 0
      · rw [if_pos h0]
        by_cases hl : c.lk = true
        · rw [if_pos hl]; exact ⟨fun e => absurd e (by simp), fun e => absurd e hd⟩
        · rw [if_neg hl]; exact ⟨fun e => absurd e (by simp), fun e => absurd e hd⟩
      · rw [if_neg h0]
        by_cases h1 : x.ad = true ∧ x.mv = 1
        · rw [if_pos h1]; exact ⟨fun e => absurd e (by simp), fun e => absurd e hd⟩
        · rw [if_neg h1]
          by_cases h2 : x.at < x.l.length
          · rw [if_pos h2]; exact ⟨fun e => absurd e (by simp), fun e => absurd e hd⟩
          · rw [if_neg h2]; exact ⟨fun _ => rfl, fun _ => rfl⟩
theorem wk_still {c : Ce} {x : Wk} (h : x.dn = true) : wkMove c x = (2, c, x) := by unfold wkMove; rw [if_pos h]
theorem sum_old {S : Nat} {c : Ce} {x : Wk} (h : x.dn = true ∨ (wkMove c x).1 ≠ 2) : sumNext S c x = S := by
  unfold sumNext
  rw [if_neg (fun e => h.elim (fun q => by rw [q] at e; exact Bool.noConfusion e.2) (fun q => q e.1))]
theorem sum_new {S : Nat} {c : Ce} {x : Wk} (h : x.dn = false) (h2 : (wkMove c x).1 = 2) : sumNext S c x = sumW S x.n := by
  unfold sumNext
  rw [if_pos ⟨h2, h⟩]
theorem sumOk_fresh {n K : Nat} {xs : Nat → Wk} (hn : n < 18446744073709551616) (h : ∀ j, j < K → WkFresh 1 (xs j)) (ha : ∀ j, j < K → (xs j).rd = false → (xs j).ad = true) : SumOk n ⟨false, 0, [n]⟩ xs K := by
  refine ⟨scOk_fresh ⟨rfl, fun x hx => ?_, show (0 : Nat) < _ by decide⟩ rfl h, hn, ha, fun j hj e => ?_, fun _ => rfl, fun j hj => .none (h j hj).ok.2⟩
  · have := List.mem_singleton.1 hx; omega
  · rcases h j hj with e1 | ⟨_, m, _, e1⟩ | ⟨l, _, _, e1⟩
    · rw [e1]; rfl
    · rw [e1] at e; cases e
    · rw [e1] at e; cases e
/-- Who is done. -/
def dnS (xs : Nat → Wk) : Nat → Bool := fun j => (xs j).dn
/-- What holds between the moves. -/
structure SuOk (X : InPred) (w0 w : World) (d : Sn) (k : Nat) (o : Nat → Nat) (vls vgs : Nat → Value) (cp : Ce) (xp : Nat → Wk) (cr : Ce) (xr : Nat → Wk) (S : Nat) : Prop where
  a : ScA X w o w0.heap.size d k vls vgs cp xp cr xr
  s : SumOk S cp xp d.K
  rp : ∀ j, j < d.K → (xp j).rd = d.rd j
  rr : ∀ j, j < d.K → (xr j).rd = d.rd j
  nn : ∀ j, j < d.K → (xp j).n = (xr j).n
  n1 : d.N = 1
  cl : cr.l.length = 1
  bel : Below w0.heap.size w0 w
section
variable {X : InPred} {w0 w w' : World} {d : Sn} {k : Nat} {o : Nat → Nat} {vls vgs : Nat → Value} {cp cr : Ce} {xp xr : Nat → Wk} {S : Nat}
theorem SuOk.below (C : InProg X) (h : SuOk X w0 w d k o vls vgs cp xp cr xr S) (hb : Below w.heap.size w w') : SuOk X w0 w' d k o vls vgs cp xp cr xr S :=
  ⟨h.a.below C hb, h.s, h.rp, h.rr, h.nn, h.n1, h.cl, h.bel.trans (hb.mono h.bel.size)⟩
theorem ScA.other (C : InProg X) {B : Nat} {R : Nat → Prop} (h : ScA X w o B d k vls vgs cp xp cr xr) (hk : Keeps R w w') (hR : ∀ i, R i → o i = 0) : ScA X w' o B d k vls vgs cp xp cr xr :=
  ⟨h.p.keep C hk (fun i hi e => by have := hR i e; rcases hi with hi | ⟨j, _, hi⟩ <;> omega), h.r.keep hk (fun i hi e => by have := hR i e; rcases hi with hi | ⟨j, _, hi⟩ <;> omega), h.s.keep hk (fun e => by have := hR _ e; have := h.os; omega) (fun g hg e => by have := hR _ e; have := h.ov g hg; omega), h.os, h.ov, h.bs.keep hk, h.up⟩
/-- Something that is nobody's is written. -/
theorem SuOk.other (C : InProg X) {R : Nat → Prop} (h : SuOk X w0 w d k o vls vgs cp xp cr xr S) (hk : Keeps R w w') (hR : ∀ i, R i → o i = 0) (hR0 : ∀ i, R i → w0.heap.size ≤ i) : SuOk X w0 w' d k o vls vgs cp xp cr xr S :=
  ⟨h.a.other C hk hR, h.s, h.rp, h.rr, h.nn, h.n1, h.cl, h.bel.trans (hk.below h.bel.size hR0)⟩
/-- One of them has moved. -/
theorem SuOk.step (h : SuOk X w0 w d k o vls vgs cp xp cr xr S) {j : Nat} (hj : j < d.K) {o' : Nat → Nat} {k' : Nat} (ha : ScA X w' o' w0.heap.size d k' vls vgs (wkMove cp (xp j)).2.1 (wkUpd xp j (wkMove cp (xp j)).2.2) cr xr) (hk : Keeps (fun i => o i = 4 + 2 * j ∨ o i = 1) w w') :
    SuOk X w0 w' d k' o' vls vgs (wkMove cp (xp j)).2.1 (wkUpd xp j (wkMove cp (xp j)).2.2) cr xr (sumNext S cp (xp j)) := by
  refine ⟨ha, h.s.move hj, fun i hi => ?_, h.rr, fun i hi => ?_, h.n1, h.cl, h.bel.trans (hk.below h.bel.size (fun i hi => (h.a.bs.ge i (by omega)).1))⟩
  · by_cases e : i = j
    · subst e; rw [wkUpd_same, (wk_fix cp (xp i)).1]; exact h.rp i hi
    · rw [wkUpd_ne e]; exact h.rp i hi
  · by_cases e : i = j
    · subst e; rw [wkUpd_same, (wk_fix cp (xp i)).2.2]; exact h.nn i hi
    · rw [wkUpd_ne e]; exact h.nn i hi
theorem su_move (C : InProg X) (h : SuOk X w0 w d k o vls vgs cp xp cr xr S) {j : Nat} (hj : j < d.K) (hk : k ≤ 100000) :
    Calls Try.prog 8 #[.pointer (some ⟨d.sx, 0, none⟩), .int .i64 (j : Int)] w fun e w' => e = .returned (.tuple #[.int .i64 ((wkMove cp (xp j)).1 : Int), .int .i64 0]) ∧ ∃ o', SuOk X w0 w' d (k + 1) o' vls vgs (wkMove cp (xp j)).2.1 (wkUpd xp j (wkMove cp (xp j)).2.2) cr xr (sumNext S cp (xp j)) ∧ (∀ i, i < w.heap.size → o' i = o i) ∧ Keeps (fun i => o i = 4 + 2 * j ∨ o i = 1) w w' := by
  refine (sc_move C h.a hj (by rw [h.n1]; exact h.s.sc.ce) (by rw [h.n1]; exact h.s.sc.wk j hj) (h.rp j hj) (h.rr j hj) hk (fun hh => ⟨h.s.sc.lk.2 ⟨j, hj, hh⟩, h.s.sc.tk j hj hh⟩)).mono ?_
  rintro e w' ⟨rfl, ha, hk'⟩
  exact ⟨rfl, _, h.step hj ha hk', fun i hi => oNew_old hi, hk'⟩
end
/-- The row of who is over. -/
structure OvIs (w : World) (go K : Nat) (f : Nat → Bool) : Prop where
  cs : ∀ j, j < K → w.cell? ⟨go, j, none⟩ = some (.bool (f j))
  fs : ∀ j, j < K → w.frozen? ⟨go, j, none⟩ = false
  lt : go < w.heap.size
theorem OvIs.keep {w w' : World} {go K : Nat} {f : Nat → Bool} {R : Nat → Prop} (h : OvIs w go K f) (hk : Keeps R w w') (hg : ¬ R go) : OvIs w' go K f :=
  ⟨fun j hj => by rw [hk.cell (p := ⟨go, j, none⟩) h.lt hg]; exact h.cs j hj, fun j hj => by rw [hk.frozen (p := ⟨go, j, none⟩) h.lt hg]; exact h.fs j hj, Nat.lt_of_lt_of_le h.lt hk.size⟩
theorem OvIs.set {w : World} {go K : Nat} {f : Nat → Bool} (h : OvIs w go K f) (i : Nat) (b : Bool) : OvIs (w.setCell ⟨go, i, none⟩ (.bool b)) go K (fun j => if j = i then b else f j) := by
  refine ⟨fun j hj => ?_, fun j hj => by rw [World.frozen?_setCell]; exact h.fs j hj, by simpa [World.setCell] using h.lt⟩
  by_cases e : j = i
  · subst e; rw [if_pos rfl]; exact World.cell?_setCell_same _ _ _ (h.cs j hj)
  · rw [if_neg e, World.cell?_setCell_other _ _ _ _ (fun q => e (by cases q; rfl))]; exact h.cs j hj
theorem OvIs.congr {w : World} {go K : Nat} {f f' : Nat → Bool} (h : OvIs w go K f) (he : ∀ j, j < K → f j = f' j) : OvIs w go K f' := ⟨fun j hj => by rw [← he j hj]; exact h.cs j hj, h.fs, h.lt⟩
/-- All of it: the scene, and who is over. -/
structure SuAll (X : InPred) (w0 w : World) (d : Sn) (go k : Nat) (o : Nat → Nat) (vls vgs : Nat → Value) (cp : Ce) (xp : Nat → Wk) (cr : Ce) (xr : Nat → Wk) (S : Nat) (f : Nat → Bool) : Prop where
  u : SuOk X w0 w d k o vls vgs cp xp cr xr S
  v : OvIs w go d.K f
  og : o go = 0
  ge : w0.heap.size ≤ go
section
variable {X : InPred} {w0 w w' : World} {d : Sn} {go k : Nat} {o : Nat → Nat} {vls vgs : Nat → Value} {cp cr : Ce} {xp xr : Nat → Wk} {S : Nat} {f : Nat → Bool}
theorem SuAll.below (C : InProg X) (h : SuAll X w0 w d go k o vls vgs cp xp cr xr S f) (hb : Below w.heap.size w w') : SuAll X w0 w' d go k o vls vgs cp xp cr xr S f :=
  ⟨h.u.below C hb, h.v.keep (Below.keeps (S := fun _ => False) hb) id, h.og, h.ge⟩
theorem SuAll.set (C : InProg X) (h : SuAll X w0 w d go k o vls vgs cp xp cr xr S f) (i : Nat) (b : Bool) : SuAll X w0 (w.setCell ⟨go, i, none⟩ (.bool b)) d go k o vls vgs cp xp cr xr S (fun j => if j = i then b else f j) :=
  ⟨h.u.other C (one_keeps w ⟨go, i, none⟩ (.bool b)) (fun q e => by cases e; exact h.og) (fun q e => by cases e; exact h.ge), h.v.set i b, h.og, h.ge⟩
theorem sa_move (C : InProg X) (h : SuAll X w0 w d go k o vls vgs cp xp cr xr S f) {j : Nat} (hj : j < d.K) (hk : k ≤ 100000) :
    Calls Try.prog 8 #[.pointer (some ⟨d.sx, 0, none⟩), .int .i64 (j : Int)] w fun e w' => e = .returned (.tuple #[.int .i64 ((wkMove cp (xp j)).1 : Int), .int .i64 0]) ∧ ∃ o', SuAll X w0 w' d go (k + 1) o' vls vgs (wkMove cp (xp j)).2.1 (wkUpd xp j (wkMove cp (xp j)).2.2) cr xr (sumNext S cp (xp j)) f := by
  refine (su_move C h.u hj hk).mono ?_
  rintro e w' ⟨rfl, o', h1, h2, h3⟩
  have hg := h.og
  exact ⟨rfl, o', h1, h.v.keep h3 (fun e => by omega), by rw [h2 go h.v.lt]; exact hg, h.ge⟩
theorem SuAll.tell (h : SuAll X w0 w d go k o vls vgs cp xp cr xr S f) {S' : Nat} {f' : Nat → Bool} (hS : S = S') (he : ∀ j, j < d.K → f j = f' j) : SuAll X w0 w d go k o vls vgs cp xp cr xr S' f' := by
  subst hS
  exact ⟨h.u, h.v.congr he, h.og, h.ge⟩
end
theorem dn_upd {xp : Nat → Wk} {j : Nat} {x : Wk} (h : x.dn = (xp j).dn) : ∀ i, dnS xp i = dnS (wkUpd xp j x) i := fun i => by
  unfold dnS
  by_cases e : i = j
  · subst e; rw [wkUpd_same, h]
  · rw [wkUpd_ne e]
theorem dn_set {xp : Nat → Wk} {j : Nat} {x : Wk} (h : x.dn = true) : ∀ i, (if i = j then true else dnS xp i) = dnS (wkUpd xp j x) i := fun i => by
  unfold dnS
  by_cases e : i = j
  · subst e; rw [wkUpd_same, if_pos rfl, h]
  · rw [wkUpd_ne e, if_neg e]
theorem wk_not_two {c : Ce} {x : Wk} (h : (wkMove c x).1 ≠ 2) : x.dn = false ∧ (wkMove c x).2.2.dn = false := by
  refine ⟨?_, ?_⟩
  · cases e : x.dn with
    | false => rfl
    | true => exact absurd (by rw [wk_still e]) h
  · cases e : (wkMove c x).2.2.dn with
    | false => rfl
    | true => exact absurd (wk_two.2 e) h
end Go.Proofs.Ytikpphbgjbfddaa
