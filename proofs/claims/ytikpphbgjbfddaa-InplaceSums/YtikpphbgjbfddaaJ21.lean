/- Parts of the proof: Sa Sb Sd. -/
import Derived.Test.YtikpphbgjbfddaaJ5
import Derived.Test.YtikpphbgjbfddaaJ19
import Derived.Test.YtikpphbgjbfddaaJ20
import Derived.Deep.AppendLies
import Derived.Deep.OwnRows
namespace Go.Proofs.Ytikpphbgjbfddaa
set_option maxRecDepth 20000
open Go.RowKit
theorem wk_two {c : Ce} {x : Wk} : (wkMove c x).1 = 2 ↔ (wkMove c x).2.2.dn = true := by
  unfold wkMove
  by_cases hd : x.dn = true
  · rw [if_pos hd]; exact ⟨fun _ => hd, fun _ => rfl⟩
  · rw [if_neg hd]
    by_cases hr : x.rd = true
    · rw [if_pos hr]
      by_cases h0 : x.mv = 0
      · rw [if_pos h0]
        by_cases hl : c.lk = true
        · rw [if_pos hl]; exact ⟨fun e => absurd e (by simp), fun e => absurd e hd⟩
        · rw [if_neg hl]; exact ⟨fun e => absurd e (by simp), fun e => absurd e hd⟩
      · rw [if_neg h0]
        by_cases h1 : x.mv - 1 < c.l.length
        · rw [if_pos h1]; exact ⟨fun e => absurd e (by simp), fun e => absurd e hd⟩
        · rw [if_neg h1]
          by_cases h2 : c.lk = true ∨ c.ct ≠ x.sn
          · rw [if_pos h2]; exact ⟨fun e => absurd e (by simp), fun e => absurd e hd⟩
          · rw [if_neg h2]; exact ⟨fun _ => rfl, fun _ => rfl⟩
    · rw [if_neg hr]
      by_cases h0 : x.mv = 0
      · rw [if_pos h0]
        by_cases hl : c.lk = true
        · rw [if_pos hl]; exact ⟨fun e => absurd e (by simp), fun e => absurd e hd⟩
        · rw [if_neg hl]; exact ⟨fun e => absurd e (by simp), fun e => absurd e hd⟩
      · rw [if_neg h0]
        by_cases h1 : x.ad = true ∧ x.mv = 1
        · rw [if_pos h1]; exact ⟨fun e => absurd e (by simp), fun e => absurd e hd⟩
        · rw [if_neg h1]
          by_cases h2 : x.at < x.l.length
          · rw [if_pos h2]; exact ⟨fun e => absurd e (by simp), fun e => absurd e hd⟩
          · rw [if_neg h2]; exact ⟨fun _ => rfl, fun _ => rfl⟩
theorem wk_still {c : Ce} {x : Wk} (h : x.dn = true) : wkMove c x = (2, c, x) := by unfold wkMove; rw [if_pos h]
theorem sum_old {S : Nat} {c : Ce} {x : Wk} (h : x.dn = true ∨ (wkMove c x).1 ≠ 2) : sumNext S c x = S := by
  unfold sumNext
  rw [if_neg (fun e => h.elim (fun q => by rw [q] at e; exact Bool.noConfusion e.2) (fun q => q e.1))]
theorem sum_new {S : Nat} {c : Ce} {x : Wk} (h : x.dn = false) (h2 : (wkMove c x).1 = 2) : sumNext S c x = sumW S x.n := by
  unfold sumNext
  rw [if_pos ⟨h2, h⟩]
theorem sumOk_fresh {n K : Nat} {xs : Nat → Wk} (hn : n < 18446744073709551616) (h : ∀ j, j < K → WkFresh 1 (xs j)) (ha : ∀ j, j < K → (xs j).rd = false → (xs j).ad = true) : SumOk n ⟨false, 0, [n]⟩ xs K := by
  refine ⟨scOk_fresh ⟨rfl, fun x hx => ?_, show (0 : Nat) < _ by decide⟩ rfl h, hn, ha, fun j hj e => ?_, fun _ => rfl, fun j hj => .none (h j hj).ok.2⟩
  · have := List.mem_singleton.1 hx; omega
  · rcases h j hj with e1 | ⟨_, m, _, e1⟩ | ⟨l, _, _, e1⟩
    · rw [e1]; rfl
    · rw [e1] at e; cases e
    · rw [e1] at e; cases e
/-- Who is done. -/
def dnS (xs : Nat → Wk) : Nat → Bool := fun j => (xs j).dn
/-- What holds between the moves. -/
structure SuOk (X : InPred) (w0 w : World) (d : Sn) (k : Nat) (o : Nat → Nat) (vls vgs : Nat → Value) (cp : Ce) (xp : Nat → Wk) (cr : Ce) (xr : Nat → Wk) (S : Nat) : Prop where
  a : ScA X w o w0.heap.size d k vls vgs cp xp cr xr
  s : SumOk S cp xp d.K
  rp : ∀ j, j < d.K → (xp j).rd = d.rd j
  rr : ∀ j, j < d.K → (xr j).rd = d.rd j
  nn : ∀ j, j < d.K → (xp j).n = (xr j).n
  n1 : d.N = 1
  cl : cr.l.length = 1
  bel : Below w0.heap.size w0 w
section
variable {X : InPred} {w0 w w' : World} {d : Sn} {k : Nat} {o : Nat → Nat} {vls vgs : Nat → Value} {cp cr : Ce} {xp xr : Nat → Wk} {S : Nat}
theorem SuOk.below (C : InProg X) (h : SuOk X w0 w d k o vls vgs cp xp cr xr S) (hb : Below w.heap.size w w') : SuOk X w0 w' d k o vls vgs cp xp cr xr S :=
  ⟨h.a.below C hb, h.s, h.rp, h.rr, h.nn, h.n1, h.cl, h.bel.trans (hb.mono h.bel.size)⟩
theorem ScA.other (C : InProg X) {B : Nat} {R : Nat → Prop} (h : ScA X w o B d k vls vgs cp xp cr xr) (hk : Keeps R w w') (hR : ∀ i, R i → o i = 0) : ScA X w' o B d k vls vgs cp xp cr xr :=
  ⟨h.p.keep C hk (fun i hi e => by have := hR i e; rcases hi with hi | ⟨j, _, hi⟩ <;> omega), h.r.keep hk (fun i hi e => by have := hR i e; rcases hi with hi | ⟨j, _, hi⟩ <;> omega), h.s.keep hk (fun e => by have := hR _ e; have := h.os; omega) (fun g hg e => by have := hR _ e; have := h.ov g hg; omega), h.os, h.ov, h.bs.keep hk, h.up⟩
/-- Something that is nobody's is written. -/
theorem SuOk.other (C : InProg X) {R : Nat → Prop} (h : SuOk X w0 w d k o vls vgs cp xp cr xr S) (hk : Keeps R w w') (hR : ∀ i, R i → o i = 0) (hR0 : ∀ i, R i → w0.heap.size ≤ i) : SuOk X w0 w' d k o vls vgs cp xp cr xr S :=
  ⟨h.a.other C hk hR, h.s, h.rp, h.rr, h.nn, h.n1, h.cl, h.bel.trans (hk.below h.bel.size hR0)⟩
/-- One of them has moved. -/
theorem SuOk.step (h : SuOk X w0 w d k o vls vgs cp xp cr xr S) {j : Nat} (hj : j < d.K) {o' : Nat → Nat} {k' : Nat} (ha : ScA X w' o' w0.heap.size d k' vls vgs (wkMove cp (xp j)).2.1 (wkUpd xp j (wkMove cp (xp j)).2.2) cr xr) (hk : Keeps (fun i => o i = 4 + 2 * j ∨ o i = 1) w w') :
    SuOk X w0 w' d k' o' vls vgs (wkMove cp (xp j)).2.1 (wkUpd xp j (wkMove cp (xp j)).2.2) cr xr (sumNext S cp (xp j)) := by
  refine ⟨ha, h.s.move hj, fun i hi => ?_, h.rr, fun i hi => ?_, h.n1, h.cl, h.bel.trans (hk.below h.bel.size (fun i hi => (h.a.bs.ge i (by omega)).1))⟩
  · by_cases e : i = j
    · subst e; rw [wkUpd_same, (wk_fix cp (xp i)).1]; exact h.rp i hi
    · rw [wkUpd_ne e]; exact h.rp i hi
  · by_cases e : i = j
    · subst e; rw [wkUpd_same, (wk_fix cp (xp i)).2.2]; exact h.nn i hi
    · rw [wkUpd_ne e]; exact h.nn i hi
theorem su_move (C : InProg X) (h : SuOk X w0 w d k o vls vgs cp xp cr xr S) {j : Nat} (hj : j < d.K) (hk : k ≤ 100000) :
    Calls Try.prog 8 #[.pointer (some ⟨d.sx, 0, none⟩), .int .i64 (j : Int)] w fun e w' => e = .returned (.tuple #[.int .i64 ((wkMove cp (xp j)).1 : Int), .int .i64 0]) ∧ ∃ o', SuOk X w0 w' d (k + 1) o' vls vgs (wkMove cp (xp j)).2.1 (wkUpd xp j (wkMove cp (xp j)).2.2) cr xr (sumNext S cp (xp j)) ∧ (∀ i, i < w.heap.size → o' i = o i) ∧ Keeps (fun i => o i = 4 + 2 * j ∨ o i = 1) w w' := by
  refine (sc_move C h.a hj (by rw [h.n1]; exact h.s.sc.ce) (by rw [h.n1]; exact h.s.sc.wk j hj) (h.rp j hj) (h.rr j hj) hk (fun hh => ⟨h.s.sc.lk.2 ⟨j, hj, hh⟩, h.s.sc.tk j hj hh⟩)).mono ?_
  rintro e w' ⟨rfl, ha, hk'⟩
  exact ⟨rfl, _, h.step hj ha hk', fun i hi => oNew_old hi, hk'⟩
end
/-- The row of who is over. -/
structure OvIs (w : World) (go K : Nat) (f : Nat → Bool) : Prop where
  cs : ∀ j, j < K → w.cell? ⟨go, j, none⟩ = some (.bool (f j))
  fs : ∀ j, j < K → w.frozen? ⟨go, j, none⟩ = false
  lt : go < w.heap.size
theorem OvIs.keep {w w' : World} {go K : Nat} {f : Nat → Bool} {R : Nat → Prop} (h : OvIs w go K f) (hk : Keeps R w w') (hg : ¬ R go) : OvIs w' go K f :=
  ⟨fun j hj => by rw [hk.cell (p := ⟨go, j, none⟩) h.lt hg]; exact h.cs j hj, fun j hj => by rw [hk.frozen (p := ⟨go, j, none⟩) h.lt hg]; exact h.fs j hj, Nat.lt_of_lt_of_le h.lt hk.size⟩
theorem OvIs.set {w : World} {go K : Nat} {f : Nat → Bool} (h : OvIs w go K f) (i : Nat) (b : Bool) : OvIs (w.setCell ⟨go, i, none⟩ (.bool b)) go K (fun j => if j = i then b else f j) := by
  refine ⟨fun j hj => ?_, fun j hj => by rw [World.frozen?_setCell]; exact h.fs j hj, by simpa [World.setCell] using h.lt⟩
  by_cases e : j = i
  · subst e; rw [if_pos rfl]; exact World.cell?_setCell_same _ _ _ (h.cs j hj)
  · rw [if_neg e, World.cell?_setCell_other _ _ _ _ (fun q => e (by cases q; rfl))]; exact h.cs j hj
theorem OvIs.congr {w : World} {go K : Nat} {f f' : Nat → Bool} (h : OvIs w go K f) (he : ∀ j, j < K → f j = f' j) : OvIs w go K f' := ⟨fun j hj => by rw [← he j hj]; exact h.cs j hj, h.fs, h.lt⟩
/-- All of it: the scene, and who is over. -/
structure SuAll (X : InPred) (w0 w : World) (d : Sn) (go k : Nat) (o : Nat → Nat) (vls vgs : Nat → Value) (cp : Ce) (xp : Nat → Wk) (cr : Ce) (xr : Nat → Wk) (S : Nat) (f : Nat → Bool) : Prop where
  u : SuOk X w0 w d k o vls vgs cp xp cr xr S
  v : OvIs w go d.K f
  og : o go = 0
  ge : w0.heap.size ≤ go
section
variable {X : InPred} {w0 w w' : World} {d : Sn} {go k : Nat} {o : Nat → Nat} {vls vgs : Nat → Value} {cp cr : Ce} {xp xr : Nat → Wk} {S : Nat} {f : Nat → Bool}
theorem SuAll.below (C : InProg X) (h : SuAll X w0 w d go k o vls vgs cp xp cr xr S f) (hb : Below w.heap.size w w') : SuAll X w0 w' d go k o vls vgs cp xp cr xr S f :=
  ⟨h.u.below C hb, h.v.keep (Below.keeps (S := fun _ => False) hb) id, h.og, h.ge⟩
theorem SuAll.set (C : InProg X) (h : SuAll X w0 w d go k o vls vgs cp xp cr xr S f) (i : Nat) (b : Bool) : SuAll X w0 (w.setCell ⟨go, i, none⟩ (.bool b)) d go k o vls vgs cp xp cr xr S (fun j => if j = i then b else f j) :=
  ⟨h.u.other C (one_keeps w ⟨go, i, none⟩ (.bool b)) (fun q e => by cases e; exact h.og) (fun q e => by cases e; exact h.ge), h.v.set i b, h.og, h.ge⟩
theorem sa_move (C : InProg X) (h : SuAll X w0 w d go k o vls vgs cp xp cr xr S f) {j : Nat} (hj : j < d.K) (hk : k ≤ 100000) :
    Calls Try.prog 8 #[.pointer (some ⟨d.sx, 0, none⟩), .int .i64 (j : Int)] w fun e w' => e = .returned (.tuple #[.int .i64 ((wkMove cp (xp j)).1 : Int), .int .i64 0]) ∧ ∃ o', SuAll X w0 w' d go (k + 1) o' vls vgs (wkMove cp (xp j)).2.1 (wkUpd xp j (wkMove cp (xp j)).2.2) cr xr (sumNext S cp (xp j)) f := by
  refine (su_move C h.u hj hk).mono ?_
  rintro e w' ⟨rfl, o', h1, h2, h3⟩
  have hg := h.og
  exact ⟨rfl, o', h1, h.v.keep h3 (fun e => by omega), by rw [h2 go h.v.lt]; exact hg, h.ge⟩
theorem SuAll.tell (h : SuAll X w0 w d go k o vls vgs cp xp cr xr S f) {S' : Nat} {f' : Nat → Bool} (hS : S = S') (he : ∀ j, j < d.K → f j = f' j) : SuAll X w0 w d go k o vls vgs cp xp cr xr S' f' := by
  subst hS
  exact ⟨h.u, h.v.congr he, h.og, h.ge⟩
end
theorem dn_upd {xp : Nat → Wk} {j : Nat} {x : Wk} (h : x.dn = (xp j).dn) : ∀ i, dnS xp i = dnS (wkUpd xp j x) i := fun i => by
  unfold dnS
  by_cases e : i = j
  · subst e; rw [wkUpd_same, h]
  · rw [wkUpd_ne e]
theorem dn_set {xp : Nat → Wk} {j : Nat} {x : Wk} (h : x.dn = true) : ∀ i, (if i = j then true else dnS xp i) = dnS (wkUpd xp j x) i := fun i => by
  unfold dnS
  by_cases e : i = j
  · subst e; rw [wkUpd_same, if_pos rfl, h]
  · rw [wkUpd_ne e, if_neg e]
theorem wk_not_two {c : Ce} {x : Wk} (h : (wkMove c x).1 ≠ 2) : x.dn = false ∧ (wkMove c x).2.2.dn = false := by
  refine ⟨?_, ?_⟩
  · cases e : x.dn with
    | false => rfl
    | true => exact absurd (by rw [wk_still e]) h
  · cases e : (wkMove c x).2.2.dn with
    | false => rfl
    | true => exact absurd (wk_two.2 e) h
end Go.Proofs.Ytikpphbgjbfddaa
namespace Go.Proofs.Ytikpphbgjbfddaa
set_option maxRecDepth 20000
open Go.RowKit
theorem Try.infoOw : (Try.prog.info? 56).map (fun i => (i.zero, i.size, i.bytes)) = some (some (.agg #[.int .i64 0, .string ⟨#[]⟩, .int .u64 0]), 3, 32) := by kernel_rfl
theorem Try.infoBool : (Try.prog.info? 4).map (fun i => (i.zero, i.size, i.bytes)) = some (some (.bool false), 1, 1) := by kernel_rfl
def owsV (l : List Ow) : List Value := l.flatMap Ow.cells
theorem owsV_length (l : List Ow) : (owsV l).length = l.length * 3 := by
  induction l with
  | nil => rfl
  | cons a l ih => simp [owsV, Ow.cells] at ih ⊢; omega
theorem owsV_snoc (l : List Ow) (a : Ow) : owsV (l ++ [a]) = owsV l ++ [.int .i64 a.kd, .string a.s, .int .u64 a.n] := by simp [owsV, Ow.cells]
def getO (l : List Ow) (j : Nat) : Ow := l.getD j ⟨0, ⟨#[]⟩, 0⟩
theorem owsV_get (l : List Ow) (j : Nat) (h : j < l.length) :
    (owsV l)[j * 3]? = some (.int .i64 (getO l j).kd) ∧ (owsV l)[j * 3 + 1]? = some (.string (getO l j).s) ∧ (owsV l)[j * 3 + 2]? = some (.int .u64 (getO l j).n) := by
  induction l generalizing j with
  | nil => simp at h
  | cons a l ih =>
    match j with
    | 0 => simp [owsV, Ow.cells, getO]
    | j + 1 =>
      have := ih j (by simpa using h)
      have e : owsV (a :: l) = .int .i64 a.kd :: .string a.s :: .int .u64 a.n :: owsV l := rfl
      have g : getO (a :: l) (j + 1) = getO l j := by simp [getO]
      rw [e, g, show (j + 1) * 3 = j * 3 + 1 + 1 + 1 by omega]
      simpa using this
/-- A row of works of one's own. -/
def OwnO (w : World) (B : Nat) (v : Value) (l : List Ow) : Prop := w.ownsRow B 56 3 v l.length (owsV l)
theorem OwnO.ows {w : World} {B : Nat} {v : Value} {l : List Ow} (h : OwnO w B v l) (hok : ∀ x ∈ l, OwOk x) : ∃ ao cap, v = .slice ao l.length cap ∧ Ows w ao l.length (getO l) := by
  obtain ⟨ao, cap, rfl, h1, h2, h3⟩ := own_slice h
  refine ⟨ao, cap, rfl, fun j hj => ⟨?_, ?_⟩⟩
  · refine hok _ ?_
    unfold getO
    rw [List.getD_eq_getElem?_getD, List.getElem?_eq_getElem hj]
    exact List.getElem_mem hj
  · obtain ⟨q0, q1, q2⟩ := owsV_get l j hj
    obtain ⟨g, e, _, c0, _⟩ := h3 _ _ q0
    obtain ⟨g', e', _, c1, _⟩ := h3 _ _ q1
    obtain ⟨g'', e'', _, c2, _⟩ := h3 _ _ q2
    subst e
    cases e'
    cases e''
    exact ⟨g, 0, rfl, by rw [Nat.zero_add]; exact c0, by rw [Nat.zero_add]; exact c1, by rw [Nat.zero_add]; exact c2⟩
theorem OwnO.below {w w' : World} {B : Nat} {v : Value} {l : List Ow} (h : OwnO w B v l) (hb : Below w.heap.size w w') : OwnO w' B v l := own_below h hb
theorem own_nilO (w : World) : OwnO (w.alloc (.cells #[] 56)) w.heap.size (.slice (some ⟨w.heap.size, 0, none⟩) 0 0) [] := World.ownsRow_made (base := w.heap.size) (e := 56) (size := 3) w #[] 0 (Nat.le_refl _) (by decide) (by simp)
theorem own_madeB (w : World) (K : Nat) : (∀ j, j < K → (w.alloc (.cells (madeCells #[.bool false] K) 4)).cell? ⟨w.heap.size, j, none⟩ = some (.bool false)) ∧ (∀ j, (w.alloc (.cells (madeCells #[.bool false] K) 4)).frozen? ⟨w.heap.size, j, none⟩ = false) := by
  refine ⟨fun j hj => ?_, fun j => by simp⟩
  have h : (madeCells #[Value.bool false] K)[j]? = some (.bool false) := by
    rw [← Array.getElem?_toList, toList_madeCells_one, List.getElem?_replicate, if_pos hj]
  simp [h]
theorem three_ow {a c : Int} {b : ByteArray} : ∀ u ∈ [Value.int .i64 a, Value.string b, Value.int .u64 c], u.oneCell' = true := by
  intro u hu; simp at hu; rcases hu with rfl | rfl | rfl <;> rfl
theorem cell_threeO (w : World) (a b c : Value) (t : TypeId) : ∀ j u, [a, b, c][j]? = some u → (w.alloc (.cells #[a, b, c] t)).cell? ((⟨w.heap.size, 0, none⟩ : Addr).add j) = some u := by
  intro j u hj
  match j, hj with
  | 0, hj => simp at hj; subst hj; simp [Addr.add]
  | 1, hj => simp at hj; subst hj; simp [Addr.add]
  | 2, hj => simp at hj; subst hj; simp [Addr.add]
/-- What a round of appending does to the rest. -/
theorem grow_stepO {W w w1 : World} {o : Obj} {B : Nat} {v : Value} {l : List Ow} (hown : OwnO w B v l) (hB : B ≤ w.heap.size)
    (hb : Below B W w) (hg : (w.alloc o).grownBy w1 v.ownBlock) : Below B W w1 :=
  ((hb.alloc hB o).grown hg (by simp; omega) (fun k hk => (hown.lt k hk).1))
/-- The works: additions of so many of a row, then readers. -/
def wlO (z : Nat → Int) (i r : Nat) : List Ow := (List.range i).map (fun j => ⟨2, ⟨#[]⟩, z j⟩) ++ List.replicate r ⟨3, ⟨#[]⟩, 0⟩
theorem wlO_length (z : Nat → Int) (i r : Nat) : (wlO z i r).length = i + r := by simp [wlO]
theorem wlO_add (z : Nat → Int) (i : Nat) : wlO z (i + 1) 0 = wlO z i 0 ++ [⟨2, ⟨#[]⟩, z i⟩] := by simp [wlO, List.range_succ]
theorem wlO_read (z : Nat → Int) (i r : Nat) : wlO z i (r + 1) = wlO z i r ++ [⟨3, ⟨#[]⟩, 0⟩] := by simp [wlO, List.replicate_succ']
theorem wlO_mem {z : Nat → Int} {i r : Nat} {x : Ow} (h : x ∈ wlO z i r) : (∃ j, j < i ∧ x = ⟨2, ⟨#[]⟩, z j⟩) ∨ x = ⟨3, ⟨#[]⟩, 0⟩ := by
  rcases List.mem_append.1 h with e | e
  · obtain ⟨j, hj, rfl⟩ := List.mem_map.1 e
    exact .inl ⟨j, List.mem_range.1 hj, rfl⟩
  · exact .inr (List.mem_replicate.1 e).2
theorem wlO_ok {z : Nat → Int} {i r : Nat} (hz : ∀ j, j < i → 0 ≤ z j ∧ z j ≤ 18446744073709551615) : ∀ x ∈ wlO z i r, OwOk x := fun x hx => by
  rcases wlO_mem hx with ⟨j, hj, rfl⟩ | rfl
  · exact ⟨show (-9223372036854775808 : Int) ≤ 2 ∧ (2 : Int) ≤ 9223372036854775807 by decide, Nat.zero_le _, hz j hj⟩
  · exact ⟨by decide, by decide, by decide⟩
theorem wlO_kd {z : Nat → Int} {i r : Nat} : ∀ j, j < i + r → (getO (wlO z i r) j).kd ≠ 1 := fun j hj => by
  have hl : j < (wlO z i r).length := by rw [wlO_length]; exact hj
  have hm : getO (wlO z i r) j ∈ wlO z i r := by
    unfold getO
    rw [List.getD_eq_getElem?_getD, List.getElem?_eq_getElem hl]
    exact List.getElem_mem hl
  rcases wlO_mem hm with ⟨_, _, e⟩ | e
  · rw [e]; show (2 : Int) ≠ 1; decide
  · rw [e]; decide
end Go.Proofs.Ytikpphbgjbfddaa
namespace Go.Proofs.Ytikpphbgjbfddaa
set_option maxRecDepth 20000
open Go.RowKit
theorem su_free {S K : Nat} {c : Ce} {xs : Nat → Wk} (h : SumOk S c xs K) (hn : ∀ j, j < K → (xs j).holds = false) : c.lk = false := by
  cases e : c.lk with
  | false => rfl
  | true =>
    obtain ⟨j, hj, q⟩ := h.sc.lk.1 e
    rw [hn j hj] at q
    cases q
theorem dn_holds {x : Wk} (h : x.dn = true) : x.holds = false := by unfold Wk.holds; rw [h]; simp
/-- Behind jj of his moves. -/
def RunQ (S0 nq r jj : Nat) (cp : Ce) (x : Wk) (S' : Nat) : Prop := (r ≠ 2 ∧ x.dn = false ∧ S' = S0 ∧ (x.holds = true ∨ cp.lk = false) ∧ jj + wkLeft cp x ≤ 6) ∨ (r = 2 ∧ x.dn = true ∧ S' = sumW S0 nq)
theorem run_start {S0 nq : Nat} {cp : Ce} {x : Wk} (hd : x.dn = false) (hl : x.holds = true ∨ cp.lk = false) : RunQ S0 nq 0 0 cp x S0 := .inl ⟨by decide, hd, rfl, hl, by have := wkLeft_le cp x; omega⟩
theorem run_step {S0 S' nq K q jj : Nat} {cp : Ce} {xp : Nat → Wk} (hs : SumOk S' cp xp K) (hq : q < K) (hn : (xp q).n = nq) (hd : (xp q).dn = false) (hS : S' = S0) (hl : (xp q).holds = true ∨ cp.lk = false) (hj : jj + wkLeft cp (xp q) ≤ 6) :
    RunQ S0 nq (wkMove cp (xp q)).1 (jj + 1) (wkMove cp (xp q)).2.1 (wkMove cp (xp q)).2.2 (sumNext S' cp (xp q)) := by
  rcases wk_alone hs.sc.ce (hs.sc.wk q hq) hd (hs.ad q hq) hl with e | ⟨e1, e2, e3⟩
  · exact .inr ⟨e, wk_two.1 e, by rw [sum_new hd e, hn, hS]⟩
  · have e4 : (wkMove cp (xp q)).1 ≠ 2 := fun e => by rw [wk_two.1 e] at e2; cases e2
    exact .inl ⟨e4, e2, by rw [sum_old (.inr e4), hS], e3, by omega⟩
theorem hold_any {X : InPred} (C : InProg X) {w : World} {o : Nat → Nat} {B k : Nat} {d : Sn} {vls vgs : Nat → Value} {cp cr : Ce} {xp xr : Nat → Wk} (h : ScA X w o B d k vls vgs cp xp cr xr) {q : Nat} (hq : q < d.K) (hrd : (xp q).rd = d.rd q) :
    Calls Try.prog 14 #[ptrV (d.fa q)] w fun e w' => e = .returned (.bool (xp q).holds) ∧ Below w.heap.size w w' := by
  cases hr : d.rd q with
  | true =>
    rw [show d.fa q = none by unfold Sn.fa; rw [if_pos hr]]
    rw [show (xp q).holds = false by unfold Wk.holds; rw [hrd, hr]; rfl]
    exact C.holds0 w
  | false =>
    rw [show d.fa q = some (d.pw q) by unfold Sn.fa; rw [if_neg (by rw [hr]; decide)]]
    exact C.holds (h.p.pr q hq) (by rw [hrd, hr])
/-- What holds between the k-th and the next of a turn. -/
def TurnQ (d : Sn) (xp : Nat → Wk) (tu q : Nat) : Prop := (tu = 0 → ∀ j, j < q → (xp j).holds = false) ∧ (tu = 1 → (∀ j, j < d.K → (xp j).holds = false) ∧ ∀ j, j < q → (xp j).dn = true)
theorem TurnQ.pass {d : Sn} {xp : Nat → Wk} {tu q : Nat} (h : TurnQ d xp tu q) (h0 : tu = 0 → (xp q).holds = false) (h1 : tu = 1 → (xp q).dn = true) : TurnQ d xp tu (q + 1) := by
  refine ⟨fun e j hj => ?_, fun e => ⟨(h.2 e).1, fun j hj => ?_⟩⟩
  · by_cases q' : j = q
    · subst q'; exact h0 e
    · exact h.1 e j (by omega)
  · by_cases q' : j = q
    · subst q'; exact h1 e
    · exact (h.2 e).2 j (by omega)
theorem TurnQ.run {d : Sn} {xp xp' : Nat → Wk} {tu q : Nat} (h : TurnQ d xp tu q) (ho : ∀ i, i ≠ q → xp' i = xp i) (hd : (xp' q).dn = true) : TurnQ d xp' tu (q + 1) := by
  refine ⟨fun e j hj => ?_, fun e => ⟨fun j hj => ?_, fun j hj => ?_⟩⟩
  · by_cases q' : j = q
    · subst q'; exact dn_holds hd
    · rw [ho j q']; exact h.1 e j (by omega)
  · by_cases q' : j = q
    · subst q'; exact dn_holds hd
    · rw [ho j q']; exact (h.2 e).1 j hj
  · by_cases q' : j = q
    · subst q'; exact hd
    · rw [ho j q']; exact (h.2 e).2 j (by omega)
theorem dn_run {xp xp' : Nat → Wk} {q : Nat} (ho : ∀ i, i ≠ q → xp' i = xp i) (hd : (xp' q).dn = true) : ∀ i, (if i = q then true else dnS xp i) = dnS xp' i := fun i => by
  unfold dnS
  by_cases e : i = q
  · subst e; rw [if_pos rfl, hd]
  · rw [if_neg e, ho i e]
end Go.Proofs.Ytikpphbgjbfddaa
