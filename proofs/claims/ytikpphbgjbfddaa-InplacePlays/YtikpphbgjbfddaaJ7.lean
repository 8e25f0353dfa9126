/- Parts of the proof: Ja Jb Jc Jd Je Jf Jg Jh Ji. -/
import Derived.Test.YtikpphbgjbfddaaJ1
import Derived.Test.YtikpphbgjbfddaaJ5
import Derived.Test.YtikpphbgjbfddaaJ6
import Derived.Deep.AppendLies
import Derived.Deep.RegionHeld3
import Derived.Deep.RegionLaw
namespace Go.Proofs.Ytikpphbgjbfddaa
set_option maxRecDepth 20000
open Go.RowKit
/-- A lock (does somebody write? the count) and a value's words. -/
structure Ce where
  lk : Bool
  ct : Nat
  l : List Nat
/-- Somebody at a record: tk is the count that its lock had when it was taken. -/
structure Wk where
  rd : Bool
  ad : Bool
  n : Nat
  l : List Nat
  mv : Nat
  dn : Bool
  sn : Nat
  gt : List Nat
  tk : Nat
/-- Which word a writer writes next. -/
def Wk.at (x : Wk) : Nat := x.mv - 1 - (if x.ad = true then 1 else 0)
def Wk.holds (x : Wk) : Bool := !x.rd && decide (0 < x.mv) && !x.dn
/-- A sum of words. -/
def sumW (a b : Nat) : Nat := (a + b) % 18446744073709551616
def wkMove (c : Ce) (x : Wk) : Nat × Ce × Wk :=
  if x.dn = true then (2, c, x)
  else if x.rd = true then
    if x.mv = 0 then (if c.lk = true then (3, c, x) else (1, c, { x with sn := c.ct, gt := [], mv := 1 }))
    else if x.mv - 1 < c.l.length then (1, c, { x with gt := x.gt ++ [c.l.getD (x.mv - 1) 0], mv := x.mv + 1 })
    else if c.lk = true ∨ c.ct ≠ x.sn then (3, c, { x with mv := 0 })
    else (2, c, { x with dn := true })
  else if x.mv = 0 then (if c.lk = true then (3, c, x) else (1, { c with lk := true }, { x with mv := 1, tk := c.ct }))
  else if x.ad = true ∧ x.mv = 1 then (1, c, { x with l := [sumW (c.l.getD 0 0) x.n], mv := 2 })
  else if x.at < x.l.length then (1, { c with l := c.l.set x.at (x.l.getD x.at 0) }, { x with mv := x.mv + 1 })
  else (2, { c with lk := false, ct := (c.ct + 1) % 4294967296 }, { x with dn := true })
/-- All words of a list are words. -/
def AllW (l : List Nat) : Prop := ∀ x ∈ l, x < 18446744073709551616
theorem AllW.get {l : List Nat} (h : AllW l) (i : Nat) : l.getD i 0 < 18446744073709551616 := by
  rw [List.getD_eq_getElem?_getD]
  cases e : l[i]? with
  | none => decide
  | some x => exact h x (List.mem_of_getElem? e)
theorem AllW.set {l : List Nat} (h : AllW l) (i x : Nat) (hx : x < 18446744073709551616) : AllW (l.set i x) := fun y hy => by
  rcases List.mem_or_eq_of_mem_set hy with e | e
  · exact h y e
  · omega
theorem AllW.snoc {l : List Nat} (h : AllW l) {x : Nat} (hx : x < 18446744073709551616) : AllW (l ++ [x]) := fun y hy => by
  rcases List.mem_append.1 hy with e | e
  · exact h y e
  · have := List.mem_singleton.1 e; omega
theorem sumW_lt (a b : Nat) : sumW a b < 18446744073709551616 := Nat.mod_lt _ (by decide)
/-- What is known of a lock and N words. -/
structure CeOk (N : Nat) (c : Ce) : Prop where
  len : c.l.length = N
  all : AllW c.l
  ct : c.ct < 4294967296
/-- What is known of somebody at them. -/
structure WkOk (N : Nat) (x : Wk) : Prop where
  n : x.n < 18446744073709551616
  all : AllW x.l
  got : AllW x.gt
  sn : x.sn < 4294967296
  one : ¬ (x.rd = true ∧ x.ad = true)
  rmv : x.rd = true → x.mv ≤ N + 1
  rgt : x.rd = true → 0 < x.mv → x.gt.length + 1 = x.mv
  few : x.gt.length ≤ N
  rdn : x.rd = true → x.dn = true → x.mv = N + 1
  wln : x.rd = false → x.ad = false → x.l.length = N ∧ x.mv ≤ N + 1
  adn : x.ad = true → N = 1 ∧ x.mv ≤ 3 ∧ (1 < x.mv → x.l.length = 1) ∧ (x.mv ≤ 1 → x.l = [])
/-- The number that a move tells, and what is known behind it. -/
theorem wk_keeps {N : Nat} {c : Ce} {x : Wk} (hc : CeOk N c) (hx : WkOk N x) : CeOk N (wkMove c x).2.1 ∧ WkOk N (wkMove c x).2.2 := by
  obtain ⟨h1, h2, h3⟩ := hc
  obtain ⟨k1, k2, k3, k4, k5, k6, k7, k7', k8, k9, k10⟩ := hx
  unfold wkMove
  split
  · exact ⟨⟨h1, h2, h3⟩, k1, k2, k3, k4, k5, k6, k7, k7', k8, k9, k10⟩
  · rename_i hd
    split
    · rename_i hr
      split
      · split
        · exact ⟨⟨h1, h2, h3⟩, k1, k2, k3, k4, k5, k6, k7, k7', k8, k9, k10⟩
        · refine ⟨⟨h1, h2, h3⟩, k1, k2, fun y hy => absurd hy (by simp), h3, k5, fun _ => by simp, fun _ _ => rfl, by simp, fun _ e => absurd e hd, fun e => absurd (hr.symm.trans e) (by decide), fun e => absurd ⟨hr, e⟩ k5⟩
      · rename_i h0
        have g := k7 hr (by omega)
        split
        · rename_i hl
          refine ⟨⟨h1, h2, h3⟩, k1, k2, k3.snoc (h2.get _), k4, k5, fun _ => by simp only; omega, fun _ _ => by simp only [List.length_append, List.length_singleton]; omega, by simp only [List.length_append, List.length_singleton]; omega, fun _ e => absurd e hd, fun e => absurd (hr.symm.trans e) (by decide), fun e => absurd ⟨hr, e⟩ k5⟩
        · split
          · exact ⟨⟨h1, h2, h3⟩, k1, k2, k3, k4, k5, fun _ => by simp, fun _ e => absurd e (by simp), k7', fun _ e => absurd e hd, fun e => absurd (hr.symm.trans e) (by decide), fun e => absurd ⟨hr, e⟩ k5⟩
          · exact ⟨⟨h1, h2, h3⟩, k1, k2, k3, k4, k5, k6, k7, k7', fun _ _ => by have := k6 hr; simp only; omega, k9, k10⟩
    · rename_i hr
      split
      · split
        · exact ⟨⟨h1, h2, h3⟩, k1, k2, k3, k4, k5, k6, k7, k7', k8, k9, k10⟩
        · rename_i h0 _
          refine ⟨⟨h1, h2, h3⟩, k1, k2, k3, k4, k5, fun e => absurd e hr, fun e => absurd e hr, k7', fun e => absurd e hr, fun a b => ⟨(k9 a b).1, by simp⟩, fun e => ⟨(k10 e).1, by simp, fun e' => absurd e' (by simp), fun _ => (k10 e).2.2.2 (by omega)⟩⟩
      · rename_i h0
        split
        · rename_i ha
          refine ⟨⟨h1, h2, h3⟩, k1, fun y hy => by rw [List.mem_singleton.1 hy]; exact sumW_lt _ _, k3, k4, k5, fun e => absurd e hr, fun e => absurd e hr, k7', fun e => absurd e hr, fun a b => absurd (ha.1.symm.trans b) (by decide), fun e => ⟨(k10 e).1, by simp, fun _ => rfl, fun e' => absurd e' (by simp)⟩⟩
        · rename_i ha
          split
          · rename_i hl
            refine ⟨⟨by simpa using h1, h2.set _ _ (k2.get _), h3⟩, k1, k2, k3, k4, k5, fun e => absurd e hr, fun e => absurd e hr, k7', fun e => absurd e hr, fun a b => ?_, fun e => ?_⟩
            · have := k9 a b
              unfold Wk.at at hl
              rw [if_neg (by rw [b]; decide)] at hl
              exact ⟨this.1, by simp only; omega⟩
            · have := k10 e
              unfold Wk.at at hl
              rw [if_pos e] at hl
              have h1' : x.mv ≠ 1 := fun q => ha ⟨e, q⟩
              have := this.2.2.1 (by omega)
              exact ⟨(k10 e).1, by simp only; omega, fun _ => this, fun q => absurd q (by simp only; omega)⟩
          · exact ⟨⟨h1, h2, Nat.mod_lt _ (by decide)⟩, k1, k2, k3, k4, k5, fun e => absurd e hr, fun e => absurd e hr, k7', fun e => absurd e hr, k9, k10⟩
end Go.Proofs.Ytikpphbgjbfddaa
namespace Go.Proofs.Ytikpphbgjbfddaa
set_option maxRecDepth 20000
open Go.RowKit
/-- The reference's lock and words: struct in block m, the words' row v. -/
structure RcIs (w : World) (B m : Nat) (v : Value) (c : Ce) : Prop where
  c0 : w.cell? ⟨m, 0, none⟩ = some (.bool c.lk)
  f0 : w.frozen? ⟨m, 0, none⟩ = false
  c1 : w.cell? ⟨m, 1, none⟩ = some (.int .u64 (c.ct : Int))
  f1 : w.frozen? ⟨m, 1, none⟩ = false
  c2 : w.cell? ⟨m, 2, none⟩ = some v
  own : w.ownsRow B 43 1 v c.l.length (uintsN c.l)
  ne : v.ownBlock ≠ some m
/-- The cells of somebody at it. -/
def rwV (x : Wk) (vl vg : Value) : Nat → Value
  | 0 => .bool x.rd
  | 1 => .bool x.ad
  | 2 => .int .u64 (x.n : Int)
  | 3 => vl
  | 4 => .int .i64 (x.mv : Int)
  | 5 => .bool x.dn
  | 6 => .int .u64 (x.sn : Int)
  | _ => vg
/-- Somebody at it: struct in block p, the words to be written vl, what was read vg. -/
structure RwIs (w : World) (B p : Nat) (vl vg : Value) (x : Wk) : Prop where
  cs : ∀ i, i < 8 → w.cell? ⟨p, i, none⟩ = some (rwV x vl vg i)
  fs : ∀ i, i < 8 → w.frozen? ⟨p, i, none⟩ = false
  ol : w.ownsRow B 43 1 vl x.l.length (uintsN x.l)
  og : w.ownsRow B 43 1 vg x.gt.length (uintsN x.gt)
  nl : vl.ownBlock ≠ some p
  ng : vg.ownBlock ≠ some p
section
variable {w w' : World} {S : Nat → Prop} {B m p : Nat} {v vl vg : Value} {c : Ce} {x : Wk}
theorem RcIs.lt (h : RcIs w B m v c) : m < w.heap.size := World.block_lt_of_cell? w _ h.c0
theorem RwIs.lt (h : RwIs w B p vl vg x) : p < w.heap.size := World.block_lt_of_cell? w _ (h.cs 0 (by omega))
theorem RcIs.keep (h : RcIs w B m v c) (hk : Keeps S w w') (hm : ¬ S m) (hv : ∀ g, v.ownBlock = some g → ¬ S g) : RcIs w' B m v c :=
  ⟨by rw [hk.cell h.lt hm]; exact h.c0, by rw [hk.frozen h.lt hm]; exact h.f0, by rw [hk.cell h.lt hm]; exact h.c1, by rw [hk.frozen h.lt hm]; exact h.f1, by rw [hk.cell h.lt hm]; exact h.c2, own_keep h.own hk hv, h.ne⟩
theorem RwIs.keep (h : RwIs w B p vl vg x) (hk : Keeps S w w') (hp : ¬ S p) (hl : ∀ g, vl.ownBlock = some g → ¬ S g) (hg : ∀ g, vg.ownBlock = some g → ¬ S g) : RwIs w' B p vl vg x :=
  ⟨fun i hi => by rw [hk.cell h.lt hp]; exact h.cs i hi, fun i hi => by rw [hk.frozen h.lt hp]; exact h.fs i hi, own_keep h.ol hk hl, own_keep h.og hk hg, h.nl, h.ng⟩
theorem RcIs.below (h : RcIs w B m v c) (hb : Below w.heap.size w w') : RcIs w' B m v c := h.keep (Below.keeps (S := fun _ => False) hb) id (fun _ _ => id)
theorem RwIs.below (h : RwIs w B p vl vg x) (hb : Below w.heap.size w w') : RwIs w' B p vl vg x := h.keep (Below.keeps (S := fun _ => False) hb) id (fun _ _ => id) (fun _ _ => id)
theorem one_keeps (w : World) (q : Addr) (u : Value) : Keeps (fun k => k = q.block) w (w.setCell q u) := (Keeps.refl (fun k => k = q.block) w).setCell q (fun _ => rfl) u
/-- Its lock, its count, a word are written. -/
theorem RcIs.lock (h : RcIs w B m v c) (b : Bool) : RcIs (w.setCell ⟨m, 0, none⟩ (.bool b)) B m v { c with lk := b } :=
  ⟨World.cell?_setCell_same _ _ _ h.c0, by rw [World.frozen?_setCell]; exact h.f0, by rw [World.cell?_setCell_other _ _ _ _ (fun e => by cases e)]; exact h.c1, by rw [World.frozen?_setCell]; exact h.f1, by rw [World.cell?_setCell_other _ _ _ _ (fun e => by cases e)]; exact h.c2,
    own_keep h.own (one_keeps w _ _) (fun g e e' => h.ne (by rw [e, e'])), h.ne⟩
theorem RcIs.count (h : RcIs w B m v c) (n : Nat) : RcIs (w.setCell ⟨m, 1, none⟩ (.int .u64 (n : Int))) B m v { c with ct := n } :=
  ⟨by rw [World.cell?_setCell_other _ _ _ _ (fun e => by cases e)]; exact h.c0, by rw [World.frozen?_setCell]; exact h.f0, World.cell?_setCell_same _ _ _ h.c1, by rw [World.frozen?_setCell]; exact h.f1, by rw [World.cell?_setCell_other _ _ _ _ (fun e => by cases e)]; exact h.c2,
    own_keep h.own (one_keeps w _ _) (fun g e e' => h.ne (by rw [e, e'])), h.ne⟩
theorem RcIs.word (h : RcIs w B m v c) {g : Nat} (hg : v.ownBlock = some g) (i n : Nat) : RcIs (w.setCell ⟨g, i, none⟩ (.int .u64 (n : Int))) B m v { c with l := c.l.set i n } := by
  have hn : (⟨g, i, none⟩ : Addr).block ≠ m := fun e => h.ne (by rw [hg, ← e])
  have hk := one_keeps w ⟨g, i, none⟩ (.int .u64 (n : Int))
  have hm : ¬ m = (⟨g, i, none⟩ : Addr).block := fun e => hn e.symm
  refine ⟨by rw [hk.cell h.lt hm]; exact h.c0, by rw [World.frozen?_setCell]; exact h.f0, by rw [hk.cell h.lt hm]; exact h.c1, by rw [World.frozen?_setCell]; exact h.f1, by rw [hk.cell h.lt hm]; exact h.c2, ?_, h.ne⟩
  have := own_set h.own hg i (.int .u64 (n : Int))
  rw [uintsN_set] at this
  simpa using this
/-- A cell of somebody's is written. -/
theorem RwIs.set (h : RwIs w B p vl vg x) (i : Nat) (hi : i < 8) (u : Value) {x' : Wk} (he : ∀ j, j < 8 → rwV x' vl vg j = if j = i then u else rwV x vl vg j) (hl : x'.l = x.l) (hg : x'.gt = x.gt) : RwIs (w.setCell ⟨p, i, none⟩ u) B p vl vg x' := by
  refine ⟨fun j hj => ?_, fun j hj => by rw [World.frozen?_setCell]; exact h.fs j hj, ?_, ?_, h.nl, h.ng⟩
  · rw [he j hj]
    by_cases e : j = i
    · subst e; rw [if_pos rfl]; exact World.cell?_setCell_same _ _ _ (h.cs j hj)
    · rw [if_neg e, World.cell?_setCell_other _ _ _ _ (fun q => e (by cases q; rfl))]; exact h.cs j hj
  · rw [hl]; exact own_keep h.ol (one_keeps w _ _) (fun g e e' => h.nl (by rw [e, e']))
  · rw [hg]; exact own_keep h.og (one_keeps w _ _) (fun g e e' => h.ng (by rw [e, e']))
theorem RwIs.setL (h : RwIs w B p vl vg x) {vl' : Value} {l' : List Nat} (ho : w.ownsRow B 43 1 vl' l'.length (uintsN l')) (hn : vl'.ownBlock ≠ some p) : RwIs (w.setCell ⟨p, 3, none⟩ vl') B p vl' vg { x with l := l' } := by
  refine ⟨fun j hj => ?_, fun j hj => by rw [World.frozen?_setCell]; exact h.fs j hj, own_keep ho (one_keeps w _ _) (fun g e e' => hn (by rw [e, e'])), own_keep h.og (one_keeps w _ _) (fun g e e' => h.ng (by rw [e, e'])), hn, h.ng⟩
  by_cases e : j = 3
  · subst e; exact World.cell?_setCell_same _ _ _ (h.cs 3 hj)
  · rw [World.cell?_setCell_other _ _ _ _ (fun q => e (by cases q; rfl)), h.cs j hj]
    match j, hj, e with
    | 0, _, _ => rfl
    | 1, _, _ => rfl
    | 2, _, _ => rfl
    | 4, _, _ => rfl
    | 5, _, _ => rfl
    | 6, _, _ => rfl
    | 7, _, _ => rfl
theorem RwIs.setG (h : RwIs w B p vl vg x) {vg' : Value} {l' : List Nat} (ho : w.ownsRow B 43 1 vg' l'.length (uintsN l')) (hn : vg'.ownBlock ≠ some p) (hl : w.ownsRow B 43 1 vl x.l.length (uintsN x.l)) : RwIs (w.setCell ⟨p, 7, none⟩ vg') B p vl vg' { x with gt := l' } := by
  refine ⟨fun j hj => ?_, fun j hj => by rw [World.frozen?_setCell]; exact h.fs j hj, own_keep hl (one_keeps w _ _) (fun g e e' => h.nl (by rw [e, e'])), own_keep ho (one_keeps w _ _) (fun g e e' => hn (by rw [e, e'])), h.nl, hn⟩
  by_cases e : j = 7
  · subst e; exact World.cell?_setCell_same _ _ _ (h.cs 7 hj)
  · rw [World.cell?_setCell_other _ _ _ _ (fun q => e (by cases q; rfl)), h.cs j hj]
    match j, hj, e with
    | 0, _, _ => rfl
    | 1, _, _ => rfl
    | 2, _, _ => rfl
    | 3, _, _ => rfl
    | 4, _, _ => rfl
    | 5, _, _ => rfl
    | 6, _, _ => rfl
    | 7, _, e => exact absurd rfl e
theorem RwIs.setMv (h : RwIs w B p vl vg x) (n : Nat) : RwIs (w.setCell ⟨p, 4, none⟩ (.int .i64 (n : Int))) B p vl vg { x with mv := n } :=
  h.set 4 (by omega) _ (fun j hj => by match j, hj with | 0, _ => rfl | 1, _ => rfl | 2, _ => rfl | 3, _ => rfl | 4, _ => rfl | 5, _ => rfl | 6, _ => rfl | 7, _ => rfl) rfl rfl
theorem RwIs.setDn (h : RwIs w B p vl vg x) (b : Bool) : RwIs (w.setCell ⟨p, 5, none⟩ (.bool b)) B p vl vg { x with dn := b } :=
  h.set 5 (by omega) _ (fun j hj => by match j, hj with | 0, _ => rfl | 1, _ => rfl | 2, _ => rfl | 3, _ => rfl | 4, _ => rfl | 5, _ => rfl | 6, _ => rfl | 7, _ => rfl) rfl rfl
theorem RwIs.setSn (h : RwIs w B p vl vg x) (n : Nat) : RwIs (w.setCell ⟨p, 6, none⟩ (.int .u64 (n : Int))) B p vl vg { x with sn := n } :=
  h.set 6 (by omega) _ (fun j hj => by match j, hj with | 0, _ => rfl | 1, _ => rfl | 2, _ => rfl | 3, _ => rfl | 4, _ => rfl | 5, _ => rfl | 6, _ => rfl | 7, _ => rfl) rfl rfl
theorem RwIs.setTk (h : RwIs w B p vl vg x) (n : Nat) : RwIs w B p vl vg { x with tk := n } :=
  ⟨fun i hi => by rw [h.cs i hi]; match i, hi with | 0, _ => rfl | 1, _ => rfl | 2, _ => rfl | 3, _ => rfl | 4, _ => rfl | 5, _ => rfl | 6, _ => rfl | 7, _ => rfl, h.fs, h.ol, h.og, h.nl, h.ng⟩
end
/-- Both: a record and somebody at it, apart from each other. -/
structure RcW (w : World) (B m : Nat) (v : Value) (c : Ce) (p : Nat) (vl vg : Value) (x : Wk) : Prop where
  q : RcIs w B m v c
  r : RwIs w B p vl vg x
  a1 : m ≠ p
  a2 : v.ownBlock ≠ some p
  a3 : vl.ownBlock ≠ some m ∧ vg.ownBlock ≠ some m
  a4 : ∀ g, v.ownBlock = some g → vl.ownBlock ≠ some g ∧ vg.ownBlock ≠ some g
  a5 : ∀ g, vl.ownBlock = some g → vg.ownBlock ≠ some g
/-- The blocks that a move may write. -/
def RcO (m : Nat) (v : Value) (p : Nat) (vg : Value) : Nat → Prop := fun k => k = m ∨ v.ownBlock = some k ∨ k = p ∨ vg.ownBlock = some k
section
variable {w w' : World} {B m p : Nat} {v vl vg : Value} {c : Ce} {x : Wk}
theorem RcW.lock (h : RcW w B m v c p vl vg x) (b : Bool) : RcW (w.setCell ⟨m, 0, none⟩ (.bool b)) B m v { c with lk := b } p vl vg x :=
  ⟨h.q.lock b, h.r.keep (one_keeps w _ _) (fun e => h.a1 e.symm) (fun g e e' => h.a3.1 (by rw [e, e'])) (fun g e e' => h.a3.2 (by rw [e, e'])), h.a1, h.a2, h.a3, h.a4, h.a5⟩
theorem RcW.count (h : RcW w B m v c p vl vg x) (n : Nat) : RcW (w.setCell ⟨m, 1, none⟩ (.int .u64 (n : Int))) B m v { c with ct := n } p vl vg x :=
  ⟨h.q.count n, h.r.keep (one_keeps w _ _) (fun e => h.a1 e.symm) (fun g e e' => h.a3.1 (by rw [e, e'])) (fun g e e' => h.a3.2 (by rw [e, e'])), h.a1, h.a2, h.a3, h.a4, h.a5⟩
theorem RcW.word (h : RcW w B m v c p vl vg x) {g : Nat} (hg : v.ownBlock = some g) (i n : Nat) : RcW (w.setCell ⟨g, i, none⟩ (.int .u64 (n : Int))) B m v { c with l := c.l.set i n } p vl vg x :=
  ⟨h.q.word hg i n, h.r.keep (one_keeps w _ _) (fun e => h.a2 (by rw [hg, e])) (fun k e e' => (h.a4 g hg).1 (by rw [e, e'])) (fun k e e' => (h.a4 g hg).2 (by rw [e, e'])), h.a1, h.a2, h.a3, h.a4, h.a5⟩
theorem RcW.own (h : RcW w B m v c p vl vg x) (i : Nat) (u : Value) : RcIs (w.setCell ⟨p, i, none⟩ u) B m v c :=
  h.q.keep (one_keeps w _ _) h.a1 (fun g e e' => h.a2 (by rw [e, e']))
theorem RcW.setMv (h : RcW w B m v c p vl vg x) (n : Nat) : RcW (w.setCell ⟨p, 4, none⟩ (.int .i64 (n : Int))) B m v c p vl vg { x with mv := n } := ⟨h.own _ _, h.r.setMv n, h.a1, h.a2, h.a3, h.a4, h.a5⟩
theorem RcW.setDn (h : RcW w B m v c p vl vg x) (b : Bool) : RcW (w.setCell ⟨p, 5, none⟩ (.bool b)) B m v c p vl vg { x with dn := b } := ⟨h.own _ _, h.r.setDn b, h.a1, h.a2, h.a3, h.a4, h.a5⟩
theorem RcW.setSn (h : RcW w B m v c p vl vg x) (n : Nat) : RcW (w.setCell ⟨p, 6, none⟩ (.int .u64 (n : Int))) B m v c p vl vg { x with sn := n } := ⟨h.own _ _, h.r.setSn n, h.a1, h.a2, h.a3, h.a4, h.a5⟩
theorem RcW.setTk (h : RcW w B m v c p vl vg x) (n : Nat) : RcW w B m v c p vl vg { x with tk := n } := ⟨h.q, h.r.setTk n, h.a1, h.a2, h.a3, h.a4, h.a5⟩
theorem RcW.below (h : RcW w B m v c p vl vg x) (hb : Below w.heap.size w w') : RcW w' B m v c p vl vg x := ⟨h.q.below hb, h.r.below hb, h.a1, h.a2, h.a3, h.a4, h.a5⟩
end
end Go.Proofs.Ytikpphbgjbfddaa
namespace Go.Proofs.Ytikpphbgjbfddaa
set_option maxRecDepth 20000
open Go.RowKit
section
variable {w : World} {B m p : Nat} {v vl vg : Value}
/-- What a move leaves. -/
def RmIs (w w' : World) (B m : Nat) (v : Value) (c : Ce) (p : Nat) (vl vg : Value) (x : Wk) : Prop :=
  ∃ vl' vg', RcW w' B m v c p vl' vg' x ∧ Keeps (RcO m v p vg) w w' ∧ (∀ g, vl'.ownBlock = some g → vl.ownBlock = some g ∨ w.heap.size ≤ g) ∧ ∀ g, vg'.ownBlock = some g → vg.ownBlock = some g ∨ w.heap.size ≤ g
theorem rm_same {c : Ce} {x : Wk} (h : RcW w B m v c p vl vg x) : RmIs w w B m v c p vl vg x := ⟨vl, vg, h, Keeps.refl _ _, fun _ => .inl, fun _ => .inl⟩
theorem rm_in {w' : World} {c : Ce} {x : Wk} (h : RcW w' B m v c p vl vg x) (hk : Keeps (RcO m v p vg) w w') : RmIs w w' B m v c p vl vg x := ⟨vl, vg, h, hk, fun _ => .inl, fun _ => .inl⟩
theorem RmIs.drewN {w' : World} {c : Ce} {x : Wk} (h : RmIs w w' B m v c p vl vg x) (k : Nat) : RmIs w (w'.drewN k) B m v c p vl vg x := by
  obtain ⟨vl', vg', h1, h2, h3, h4⟩ := h
  exact ⟨vl', vg', h1.below (below_drewN (Below.refl _ _) k), h2.drewN k, h3, h4⟩
set_option maxHeartbeats 1000000 in
theorem rw_done {c : Ce} {x : Wk} (h : RcW w B m v c p vl vg x) (hd : x.dn = true) :
    Calls Try.prog 9 #[.pointer (some ⟨p, 0, none⟩), .pointer (some ⟨m, 0, none⟩)] w fun e w' => e = .returned (.int .i64 2) ∧ RmIs w w' B m v c p vl vg x := by
  have H := hide (rm_same h)
  have c5 : w.cell? ⟨p, 5, none⟩ = some (.bool x.dn) := h.r.cs 5 (by omega)
  rw [hd] at c5
  clear h hd
  go_enter Try.func9, Try.ntmps9
  go_wp2
  go_ret
  exact ⟨rfl, H.out⟩
set_option maxHeartbeats 1000000 in
theorem rw_busy {c : Ce} {x : Wk} (h : RcW w B m v c p vl vg x) (hd : x.dn = false) (hr : x.rd = false) (h0 : x.mv = 0) (hl : c.lk = true) :
    Calls Try.prog 9 #[.pointer (some ⟨p, 0, none⟩), .pointer (some ⟨m, 0, none⟩)] w fun e w' => e = .returned (.int .i64 3) ∧ RmIs w w' B m v c p vl vg x := by
  have H := hide (rm_same h)
  have c5 : w.cell? ⟨p, 5, none⟩ = some (.bool x.dn) := h.r.cs 5 (by omega)
  have c0 : w.cell? ⟨p, 0, none⟩ = some (.bool x.rd) := h.r.cs 0 (by omega)
  have c4 : w.cell? ⟨p, 4, none⟩ = some (.int .i64 (x.mv : Int)) := h.r.cs 4 (by omega)
  have d0 := h.q.c0
  rw [hd] at c5
  rw [hr] at c0
  rw [h0] at c4
  rw [hl] at d0
  clear h hd hr h0 hl
  go_enter Try.func9, Try.ntmps9
  go_wp2
  go_ret
  exact ⟨rfl, H.out⟩
set_option maxHeartbeats 1000000 in
theorem rw_take {c : Ce} {x : Wk} (h : RcW w B m v c p vl vg x) (hd : x.dn = false) (hr : x.rd = false) (h0 : x.mv = 0) (hl : c.lk = false) :
    Calls Try.prog 9 #[.pointer (some ⟨p, 0, none⟩), .pointer (some ⟨m, 0, none⟩)] w fun e w' => e = .returned (.int .i64 1) ∧ RmIs w w' B m v { c with lk := true } p vl vg { x with mv := 1, tk := c.ct } := by
  have H := hide (rm_in (w := w) (((h.lock true).setMv 1).setTk c.ct) ((((Keeps.refl (RcO m v p vg) w).setCell _ (fun _ => .inl rfl) _).setCell _ (fun _ => .inr (.inr (.inl rfl))) _)))
  have c5 : w.cell? ⟨p, 5, none⟩ = some (.bool x.dn) := h.r.cs 5 (by omega)
  have c0 : w.cell? ⟨p, 0, none⟩ = some (.bool x.rd) := h.r.cs 0 (by omega)
  have c4 : w.cell? ⟨p, 4, none⟩ = some (.int .i64 (x.mv : Int)) := h.r.cs 4 (by omega)
  have f4 := h.r.fs 4 (by omega)
  have d0 := h.q.c0
  have e0 := h.q.f0
  have a1 := h.a1
  have c4' : (w.setCell ⟨m, 0, none⟩ (.bool true)).cell? ⟨p, 4, none⟩ = some (.int .i64 (x.mv : Int)) := (h.lock true).r.cs 4 (by omega)
  rw [hd] at c5
  rw [hr] at c0
  rw [h0] at c4 c4'
  rw [hl] at d0
  clear h hd hr h0 hl
  go_enter Try.func9, Try.ntmps9
  go_wp2
  go_ret
  exact ⟨rfl, H.out⟩
set_option maxHeartbeats 1000000 in
theorem rw_put {c : Ce} {x : Wk} (h : RcW w B m v c p vl vg x) (hd : x.dn = false) (hr : x.rd = false) (ha : x.ad = false) (i : Nat) (h0 : x.mv = i + 1) (hl : i < x.l.length) (hc : i < c.l.length) (hb : x.l.length ≤ 1000000) :
    Calls Try.prog 9 #[.pointer (some ⟨p, 0, none⟩), .pointer (some ⟨m, 0, none⟩)] w fun e w' => e = .returned (.int .i64 1) ∧ RmIs w w' B m v { c with l := c.l.set i (x.l.getD i 0) } p vl vg { x with mv := x.mv + 1 } := by
  obtain ⟨ao, cap, rfl, s1, s2, s3⟩ := own_slice h.q.own
  obtain ⟨g, rfl, hg, e1, e2⟩ := s3 i _ (uintsN_get _ i hc)
  obtain ⟨ao', cap', rfl, t1, t2, t3⟩ := own_slice h.r.ol
  obtain ⟨g', rfl, hg', e1', -⟩ := t3 i _ (uintsN_get _ i hl)
  have H := hide (rm_in (w := w) ((h.word hg i (x.l.getD i 0)).setMv (x.mv + 1)) ((((Keeps.refl (RcO m _ p vg) w).setCell ⟨g, i, none⟩ (fun _ => .inr (.inl hg)) (.int .u64 (x.l.getD i 0 : Int))).setCell ⟨p, 4, none⟩ (fun _ => .inr (.inr (.inl rfl))) (.int .i64 ((x.mv + 1 : Nat) : Int)))))
  have c5 : w.cell? ⟨p, 5, none⟩ = some (.bool x.dn) := h.r.cs 5 (by omega)
  have c0 : w.cell? ⟨p, 0, none⟩ = some (.bool x.rd) := h.r.cs 0 (by omega)
  have c1 : w.cell? ⟨p, 1, none⟩ = some (.bool x.ad) := h.r.cs 1 (by omega)
  have c3 : w.cell? ⟨p, 3, none⟩ = some (.slice (some ⟨g', 0, none⟩) x.l.length cap') := h.r.cs 3 (by omega)
  have c4 : w.cell? ⟨p, 4, none⟩ = some (.int .i64 (x.mv : Int)) := h.r.cs 4 (by omega)
  have f4 := h.r.fs 4 (by omega)
  have d2 := h.q.c2
  have c4' : (w.setCell ⟨g, i, none⟩ (.int .u64 (x.l.getD i 0 : Int))).cell? ⟨p, 4, none⟩ = some (.int .i64 (x.mv : Int)) := (h.word hg i (x.l.getD i 0)).r.cs 4 (by omega)
  have D : x.l[i]?.getD 0 = x.l.getD i 0 := by simp
  rw [D] at e1'
  rw [hd] at c5
  rw [hr] at c0
  rw [ha] at c1
  have hm1 : (x.mv : Int) - 1 = (i : Int) := by omega
  have hm0 : ((x.mv : Int) == 0) = false := by rw [beq_eq_false_iff_ne]; omega
  have hm2 : ¬ x.mv = 0 := by omega
  have hml : x.mv ≤ 1000000 := by omega
  have hmm : ((x.mv + 1 : Nat) : Int) = (x.mv : Int) + 1 := by omega
  rw [hmm] at H
  clear h hd hr h0 ha s3 t3 D hmm
  generalize x.mv = mv at *
  generalize hy : x.l.getD i 0 = y at *
  clear hy
  generalize x.l.length = L at *
  generalize c.l.length = N at *
  go_enter Try.func9, Try.ntmps9
  go_wp2_with fail
  go_region_law ((fail))
  all_goals
    go_wp2
    go_ret
    first | exact ⟨rfl, H.out.drewN 0⟩ | exact ⟨rfl, H.out.drewN 1⟩ | exact ⟨rfl, H.out.drewN 2⟩
end
end Go.Proofs.Ytikpphbgjbfddaa
namespace Go.Proofs.Ytikpphbgjbfddaa
set_option maxRecDepth 20000
open Go.RowKit
section
variable {w : World} {B m p : Nat} {v vl vg : Value}
set_option maxHeartbeats 1000000 in
theorem rw_put2 {c : Ce} {x : Wk} (h : RcW w B m v c p vl vg x) (hd : x.dn = false) (hr : x.rd = false) (ha : x.ad = true) (h0 : x.mv = 2) (hl : x.l.length = 1) (hc : c.l.length = 1) :
    Calls Try.prog 9 #[.pointer (some ⟨p, 0, none⟩), .pointer (some ⟨m, 0, none⟩)] w fun e w' => e = .returned (.int .i64 1) ∧ RmIs w w' B m v { c with l := c.l.set 0 (x.l.getD 0 0) } p vl vg { x with mv := 3 } := by
  obtain ⟨ao, cap, rfl, s1, s2, s3⟩ := own_slice h.q.own
  obtain ⟨g, rfl, hg, e1, e2⟩ := s3 0 _ (uintsN_get _ 0 (by omega))
  obtain ⟨ao', cap', rfl, t1, t2, t3⟩ := own_slice h.r.ol
  obtain ⟨g', rfl, hg', e1', -⟩ := t3 0 _ (uintsN_get _ 0 (by omega))
  have H := hide (rm_in (w := w) ((h.word hg 0 (x.l.getD 0 0)).setMv 3) ((((Keeps.refl (RcO m _ p vg) w).setCell ⟨g, 0, none⟩ (fun _ => .inr (.inl hg)) (.int .u64 (x.l.getD 0 0 : Int))).setCell ⟨p, 4, none⟩ (fun _ => .inr (.inr (.inl rfl))) (.int .i64 ((3 : Nat) : Int)))))
  have c5 : w.cell? ⟨p, 5, none⟩ = some (.bool x.dn) := h.r.cs 5 (by omega)
  have c0 : w.cell? ⟨p, 0, none⟩ = some (.bool x.rd) := h.r.cs 0 (by omega)
  have c1 : w.cell? ⟨p, 1, none⟩ = some (.bool x.ad) := h.r.cs 1 (by omega)
  have c3 : w.cell? ⟨p, 3, none⟩ = some (.slice (some ⟨g', 0, none⟩) x.l.length cap') := h.r.cs 3 (by omega)
  have c4 : w.cell? ⟨p, 4, none⟩ = some (.int .i64 (x.mv : Int)) := h.r.cs 4 (by omega)
  have f4 := h.r.fs 4 (by omega)
  have d2 := h.q.c2
  have c4' : (w.setCell ⟨g, 0, none⟩ (.int .u64 (x.l.getD 0 0 : Int))).cell? ⟨p, 4, none⟩ = some (.int .i64 (x.mv : Int)) := (h.word hg 0 (x.l.getD 0 0)).r.cs 4 (by omega)
  have D : x.l[0]?.getD 0 = x.l.getD 0 0 := by simp
  rw [D] at e1'
  rw [hd] at c5
  rw [hr] at c0
  rw [ha] at c1
  rw [h0] at c4 c4'
  rw [hl] at c3
  rw [hc] at d2
  clear h hd hr h0 ha s3 t3 D
  generalize hy : x.l.getD 0 0 = y at *
  clear hy
  go_enter Try.func9, Try.ntmps9
  go_wp2_with fail
  go_region_law ((fail))
  all_goals
    go_wp2
    go_ret
    first | exact ⟨rfl, H.out.drewN 0⟩ | exact ⟨rfl, H.out.drewN 1⟩ | exact ⟨rfl, H.out.drewN 2⟩
/-- The last move's world. -/
theorem rm_free {c : Ce} {x : Wk} (h : RcW w B m v c p vl vg x) : RmIs w (((w.setCell ⟨m, 0, none⟩ (.bool false)).setCell ⟨m, 1, none⟩ (.int .u64 (((c.ct : Int) + 1) % 4294967296))).setCell ⟨p, 5, none⟩ (.bool true)) B m v { c with lk := false, ct := (c.ct + 1) % 4294967296 } p vl vg { x with dn := true } := by
  have e : ((c.ct : Int) + 1) % 4294967296 = (((c.ct + 1) % 4294967296 : Nat) : Int) := by omega
  rw [e]
  exact rm_in (((h.lock false).count _).setDn true) (((((Keeps.refl (RcO m v p vg) w).setCell _ (fun _ => .inl rfl) _).setCell _ (fun _ => .inl rfl) _).setCell _ (fun _ => .inr (.inr (.inl rfl))) _))
set_option maxHeartbeats 1000000 in
theorem rw_free {c : Ce} {x : Wk} (h : RcW w B m v c p vl vg x) (hd : x.dn = false) (hr : x.rd = false) (ha : x.ad = false) (h0 : x.mv = x.l.length + 1) (hb : x.l.length ≤ 1000000) (hct : c.ct < 4294967296) :
    Calls Try.prog 9 #[.pointer (some ⟨p, 0, none⟩), .pointer (some ⟨m, 0, none⟩)] w fun e w' => e = .returned (.int .i64 2) ∧ RmIs w w' B m v { c with lk := false, ct := (c.ct + 1) % 4294967296 } p vl vg { x with dn := true } := by
  obtain ⟨ao', cap', rfl, t1, t2, -⟩ := own_slice h.r.ol
  have H := hide (rm_free h)
  have c5 : w.cell? ⟨p, 5, none⟩ = some (.bool x.dn) := h.r.cs 5 (by omega)
  have c0 : w.cell? ⟨p, 0, none⟩ = some (.bool x.rd) := h.r.cs 0 (by omega)
  have c1 : w.cell? ⟨p, 1, none⟩ = some (.bool x.ad) := h.r.cs 1 (by omega)
  have c3 : w.cell? ⟨p, 3, none⟩ = some (.slice ao' x.l.length cap') := h.r.cs 3 (by omega)
  have c4 : w.cell? ⟨p, 4, none⟩ = some (.int .i64 (x.mv : Int)) := h.r.cs 4 (by omega)
  have f5 := h.r.fs 5 (by omega)
  have d0 := h.q.c0
  have e0 := h.q.f0
  have d1 := h.q.c1
  have e1 := h.q.f1
  have d1' : (w.setCell ⟨m, 0, none⟩ (.bool false)).cell? ⟨m, 1, none⟩ = some (.int .u64 (c.ct : Int)) := (h.lock false).q.c1
  have c5' : ((w.setCell ⟨m, 0, none⟩ (.bool false)).setCell ⟨m, 1, none⟩ (.int .u64 (((c.ct : Int) + 1) % 4294967296))).cell? ⟨p, 5, none⟩ = some (.bool x.dn) := by
    have e : ((c.ct : Int) + 1) % 4294967296 = (((c.ct + 1) % 4294967296 : Nat) : Int) := by omega
    rw [e]; exact ((h.lock false).count _).r.cs 5 (by omega)
  rw [hd] at c5 c5'
  rw [hr] at c0
  rw [ha] at c1
  have hm1 : (x.mv : Int) - 1 = (x.l.length : Int) := by omega
  have hm0 : ((x.mv : Int) == 0) = false := by rw [beq_eq_false_iff_ne]; omega
  have hm2 : ¬ x.mv = 0 := by omega
  have hml : x.mv ≤ 1000001 := by omega
  clear h hd hr h0 ha
  generalize x.mv = mv at *
  generalize x.l.length = L at *
  generalize c.ct = ct at *
  go_enter Try.func9, Try.ntmps9
  go_wp2
  go_ret
  exact ⟨rfl, H.out⟩
set_option maxHeartbeats 1000000 in
theorem rw_free2 {c : Ce} {x : Wk} (h : RcW w B m v c p vl vg x) (hd : x.dn = false) (hr : x.rd = false) (ha : x.ad = true) (h0 : x.mv = 3) (hl : x.l.length = 1) (hct : c.ct < 4294967296) :
    Calls Try.prog 9 #[.pointer (some ⟨p, 0, none⟩), .pointer (some ⟨m, 0, none⟩)] w fun e w' => e = .returned (.int .i64 2) ∧ RmIs w w' B m v { c with lk := false, ct := (c.ct + 1) % 4294967296 } p vl vg { x with dn := true } := by
  obtain ⟨ao', cap', rfl, t1, t2, -⟩ := own_slice h.r.ol
  have H := hide (rm_free h)
  have c5 : w.cell? ⟨p, 5, none⟩ = some (.bool x.dn) := h.r.cs 5 (by omega)
  have c0 : w.cell? ⟨p, 0, none⟩ = some (.bool x.rd) := h.r.cs 0 (by omega)
  have c1 : w.cell? ⟨p, 1, none⟩ = some (.bool x.ad) := h.r.cs 1 (by omega)
  have c3 : w.cell? ⟨p, 3, none⟩ = some (.slice ao' x.l.length cap') := h.r.cs 3 (by omega)
  have c4 : w.cell? ⟨p, 4, none⟩ = some (.int .i64 (x.mv : Int)) := h.r.cs 4 (by omega)
  have f5 := h.r.fs 5 (by omega)
  have d0 := h.q.c0
  have e0 := h.q.f0
  have d1 := h.q.c1
  have e1 := h.q.f1
  have d1' : (w.setCell ⟨m, 0, none⟩ (.bool false)).cell? ⟨m, 1, none⟩ = some (.int .u64 (c.ct : Int)) := (h.lock false).q.c1
  have c5' : ((w.setCell ⟨m, 0, none⟩ (.bool false)).setCell ⟨m, 1, none⟩ (.int .u64 (((c.ct : Int) + 1) % 4294967296))).cell? ⟨p, 5, none⟩ = some (.bool x.dn) := by
    have e : ((c.ct : Int) + 1) % 4294967296 = (((c.ct + 1) % 4294967296 : Nat) : Int) := by omega
    rw [e]; exact ((h.lock false).count _).r.cs 5 (by omega)
  rw [hd] at c5 c5'
  rw [hr] at c0
  rw [ha] at c1
  rw [h0] at c4
  rw [hl] at c3
  clear h hd hr h0 ha
  generalize c.ct = ct at *
  go_enter Try.func9, Try.ntmps9
  go_wp2
  go_ret
  exact ⟨rfl, H.out⟩
end
end Go.Proofs.Ytikpphbgjbfddaa
namespace Go.Proofs.Ytikpphbgjbfddaa
set_option maxRecDepth 20000
open Go.RowKit
section
variable {w : World} {B m p : Nat} {v vl vg : Value}
set_option maxHeartbeats 1000000 in
theorem rr_move {c : Ce} {x : Wk} (h : RcW w B m v c p vl vg x) (hd : x.dn = false) (hr : x.rd = true) {r : Int} {R : World → Prop}
    (hc : Calls Try.prog 29 #[.pointer (some ⟨p, 0, none⟩), .pointer (some ⟨m, 0, none⟩)] w fun e w' => e = .returned (.int .i64 r) ∧ R w') :
    Calls Try.prog 9 #[.pointer (some ⟨p, 0, none⟩), .pointer (some ⟨m, 0, none⟩)] w fun e w' => e = .returned (.int .i64 r) ∧ R w' := by
  have c5 : w.cell? ⟨p, 5, none⟩ = some (.bool x.dn) := h.r.cs 5 (by omega)
  have c0 : w.cell? ⟨p, 0, none⟩ = some (.bool x.rd) := h.r.cs 0 (by omega)
  rw [hd] at c5
  rw [hr] at c0
  clear h hd hr
  go_enter Try.func9, Try.ntmps9
  go_wp2_with fail
  refine hc.mono ?_
  rintro e y ⟨rfl, hR⟩
  go_wp2
  go_ret
  exact ⟨rfl, hR⟩
set_option maxHeartbeats 1000000 in
theorem rd_busy {c : Ce} {x : Wk} (h : RcW w B m v c p vl vg x) (h0 : x.mv = 0) (hl : c.lk = true) :
    Calls Try.prog 29 #[.pointer (some ⟨p, 0, none⟩), .pointer (some ⟨m, 0, none⟩)] w fun e w' => e = .returned (.int .i64 3) ∧ RmIs w w' B m v c p vl vg x := by
  have H := hide (rm_same h)
  have c4 : w.cell? ⟨p, 4, none⟩ = some (.int .i64 (x.mv : Int)) := h.r.cs 4 (by omega)
  have d0 := h.q.c0
  rw [h0] at c4
  rw [hl] at d0
  clear h h0 hl
  go_enter Try.func29, Try.ntmps29
  go_wp2
  go_ret
  exact ⟨rfl, H.out⟩
/-- A read that begins. -/
theorem rm_begin0 {c : Ce} {x : Wk} (h : RcW w B m v c p vl vg x) (hB : B ≤ w.heap.size) : RmIs w ((((w.setCell ⟨p, 6, none⟩ (.int .u64 (c.ct : Int))).alloc (.cells #[] 43)).setCell ⟨p, 7, none⟩ (.slice (some ⟨w.heap.size, 0, none⟩) 0 0)).setCell ⟨p, 4, none⟩ (.int .i64 1)) B m v c p vl vg { x with sn := c.ct, gt := [], mv := 1 } := by
  have hm := h.q.lt
  have hp := h.r.lt
  have h1 := h.setSn c.ct
  have hs : (w.setCell ⟨p, 6, none⟩ (.int .u64 (c.ct : Int))).heap.size = w.heap.size := by simp [World.setCell]
  have ho := World.ownsRow_made (base := w.heap.size) (e := 43) (size := 1) (w.setCell ⟨p, 6, none⟩ (.int .u64 (c.ct : Int))) #[] 0 (by rw [hs]; exact Nat.le_refl _) (by decide) (by simp)
  rw [hs] at ho
  have ho' := own_base (base' := B) ho hB
  have h2 := h1.below ((Below.refl (w.setCell ⟨p, 6, none⟩ (.int .u64 (c.ct : Int))).heap.size (w.setCell ⟨p, 6, none⟩ (.int .u64 (c.ct : Int)))).alloc (Nat.le_refl _) (.cells #[] 43))
  have hn : ∀ g, (Value.slice (some ⟨w.heap.size, 0, none⟩) 0 0).ownBlock = some g → g = w.heap.size := fun g e => by simp [Value.ownBlock] at e; exact e.symm
  have h3 : RcW (((w.setCell ⟨p, 6, none⟩ (.int .u64 (c.ct : Int))).alloc (.cells #[] 43)).setCell ⟨p, 7, none⟩ (.slice (some ⟨w.heap.size, 0, none⟩) 0 0)) B m v c p vl (.slice (some ⟨w.heap.size, 0, none⟩) 0 0) { x with sn := c.ct, gt := [] } :=
    ⟨h2.own 7 _, h2.r.setG (l' := []) (by simpa [uintsN] using ho') (fun e => by have := hn _ e; omega) h2.r.ol, h.a1, h.a2, ⟨h.a3.1, fun e => by have := hn _ e; omega⟩, fun g e => ⟨(h.a4 g e).1, fun e' => by have := hn _ e'; have := (h.q.own.lt g e).2; omega⟩, fun g e e' => by have := hn _ e'; have := (h.r.ol.lt g e).2; omega⟩
  exact ⟨vl, _, h3.setMv 1, (((((Keeps.refl (RcO m v p vg) w).setCell _ (fun _ => .inr (.inr (.inl rfl))) _).alloc _).setCell _ (fun _ => .inr (.inr (.inl rfl))) _).setCell _ (fun _ => .inr (.inr (.inl rfl))) _), fun _ => .inl, fun g e => .inr (by have := hn _ e; omega)⟩
theorem rm_begin {c : Ce} {x : Wk} (h : RcW w B m v c p vl vg x) (hB : B ≤ w.heap.size) : RmIs w ((((w.setCell ⟨p, 6, none⟩ (.int .u64 (c.ct : Int))).setCell ⟨p, 7, none⟩ (.slice (some ⟨w.heap.size, 0, none⟩) 0 0)).setCell ⟨p, 4, none⟩ (.int .i64 1)).alloc (.cells #[] 43)) B m v c p vl vg { x with sn := c.ct, gt := [], mv := 1 } := by
  have H := rm_begin0 h hB
  have hp := h.r.lt
  rwa [World.setCell_alloc_past _ p 7 _ (by simpa [World.setCell] using hp), World.setCell_alloc_past _ p 4 _ (by simpa [World.setCell] using hp)] at H
set_option maxHeartbeats 1000000 in
theorem rd_begin {c : Ce} {x : Wk} (h : RcW w B m v c p vl vg x) (hB : B ≤ w.heap.size) (h0 : x.mv = 0) (hl : c.lk = false) :
    Calls Try.prog 29 #[.pointer (some ⟨p, 0, none⟩), .pointer (some ⟨m, 0, none⟩)] w fun e w' => e = .returned (.int .i64 1) ∧ RmIs w w' B m v c p vl vg { x with sn := c.ct, gt := [], mv := 1 } := by
  have H := hide (rm_begin h hB)
  have c4 : w.cell? ⟨p, 4, none⟩ = some (.int .i64 (x.mv : Int)) := h.r.cs 4 (by omega)
  have c6 : w.cell? ⟨p, 6, none⟩ = some (.int .u64 (x.sn : Int)) := h.r.cs 6 (by omega)
  have c7 : w.cell? ⟨p, 7, none⟩ = some vg := h.r.cs 7 (by omega)
  have f4 := h.r.fs 4 (by omega)
  have f6 := h.r.fs 6 (by omega)
  have f7 := h.r.fs 7 (by omega)
  have d0 := h.q.c0
  have d1 := h.q.c1
  have hp := h.r.lt
  have hm := h.q.lt
  rw [h0] at c4
  rw [hl] at d0
  clear h h0 hl hB
  go_enter Try.func29, Try.ntmps29
  go_wp2
  go_ret
  exact ⟨rfl, H.out⟩
set_option maxHeartbeats 1000000 in
theorem rd_again {c : Ce} {x : Wk} (h : RcW w B m v c p vl vg x) (h0 : x.mv = c.l.length + 1) (hb : c.l.length ≤ 1000000) (hl : c.lk = true ∨ c.ct ≠ x.sn) :
    Calls Try.prog 29 #[.pointer (some ⟨p, 0, none⟩), .pointer (some ⟨m, 0, none⟩)] w fun e w' => e = .returned (.int .i64 3) ∧ RmIs w w' B m v c p vl vg { x with mv := 0 } := by
  obtain ⟨ao, cap, rfl, s1, s2, s3⟩ := own_slice h.q.own
  have H := hide (rm_in (w := w) (h.setMv 0) ((Keeps.refl (RcO m _ p vg) w).setCell _ (fun _ => .inr (.inr (.inl rfl))) _))
  have c4 : w.cell? ⟨p, 4, none⟩ = some (.int .i64 (x.mv : Int)) := h.r.cs 4 (by omega)
  have c6 : w.cell? ⟨p, 6, none⟩ = some (.int .u64 (x.sn : Int)) := h.r.cs 6 (by omega)
  have f4 := h.r.fs 4 (by omega)
  have d0 := h.q.c0
  have d1 := h.q.c1
  have d2 := h.q.c2
  have hm1 : (x.mv : Int) - 1 = (c.l.length : Int) := by omega
  have hm0 : ((x.mv : Int) == 0) = false := by rw [beq_eq_false_iff_ne]; omega
  have hm2 : ¬ x.mv = 0 := by omega
  have hml : x.mv ≤ 1000001 := by omega
  clear h h0 s3
  generalize x.mv = mv at *
  generalize c.l.length = N at *
  cases hk : c.lk with
  | true =>
    rw [hk] at d0
    clear hl
    go_enter Try.func29, Try.ntmps29
    go_wp2_with fail
    go_quiet (fail)
    go_wp2
    go_ret
    exact ⟨rfl, H.out.drewN _⟩
  | false =>
    rw [hk] at d0 hl
    have hne : ((c.ct : Int) != (x.sn : Int)) = true := by
      rw [bne_iff_ne]
      rcases hl with e | e
      · cases e
      · omega
    clear hl
    generalize c.ct = ct at *
    generalize x.sn = sn at *
    go_enter Try.func29, Try.ntmps29
    go_wp2_with fail
    go_quiet (fail)
    go_wp2
    go_ret
    exact ⟨rfl, H.out.drewN _⟩
set_option maxHeartbeats 1000000 in
theorem rd_end {c : Ce} {x : Wk} (h : RcW w B m v c p vl vg x) (h0 : x.mv = c.l.length + 1) (hb : c.l.length ≤ 1000000) (hl : c.lk = false) (hs : c.ct = x.sn) :
    Calls Try.prog 29 #[.pointer (some ⟨p, 0, none⟩), .pointer (some ⟨m, 0, none⟩)] w fun e w' => e = .returned (.int .i64 2) ∧ RmIs w w' B m v c p vl vg { x with dn := true } := by
  obtain ⟨ao, cap, rfl, s1, s2, s3⟩ := own_slice h.q.own
  have H := hide (rm_in (w := w) (h.setDn true) ((Keeps.refl (RcO m _ p vg) w).setCell _ (fun _ => .inr (.inr (.inl rfl))) _))
  have c4 : w.cell? ⟨p, 4, none⟩ = some (.int .i64 (x.mv : Int)) := h.r.cs 4 (by omega)
  have c5 : w.cell? ⟨p, 5, none⟩ = some (.bool x.dn) := h.r.cs 5 (by omega)
  have c6 : w.cell? ⟨p, 6, none⟩ = some (.int .u64 (x.sn : Int)) := h.r.cs 6 (by omega)
  have f5 := h.r.fs 5 (by omega)
  have d0 := h.q.c0
  have d1 := h.q.c1
  have d2 := h.q.c2
  have hm1 : (x.mv : Int) - 1 = (c.l.length : Int) := by omega
  have hm0 : ((x.mv : Int) == 0) = false := by rw [beq_eq_false_iff_ne]; omega
  have hm2 : ¬ x.mv = 0 := by omega
  have hml : x.mv ≤ 1000001 := by omega
  rw [hl] at d0
  rw [hs] at d1
  have hne : ((x.sn : Int) != (x.sn : Int)) = false := by simp
  clear h h0 s3 hl hs
  generalize x.mv = mv at *
  generalize c.l.length = N at *
  generalize x.sn = sn at *
  go_enter Try.func29, Try.ntmps29
  go_wp2_with fail
  go_quiet (fail)
  go_wp2
  go_ret
  exact ⟨rfl, H.out.drewN _⟩
end
end Go.Proofs.Ytikpphbgjbfddaa
namespace Go.Proofs.Ytikpphbgjbfddaa
set_option maxRecDepth 20000
open Go.RowKit
section
variable {w : World} {B m p : Nat} {v vl vg : Value}
theorem rw_setG {x : Wk} (cs : ∀ i, i < 8 → w.cell? ⟨p, i, none⟩ = some (rwV x vl vg i)) (fs : ∀ i, i < 8 → w.frozen? ⟨p, i, none⟩ = false) (nl : vl.ownBlock ≠ some p) {vg' : Value} {l' : List Nat} (ho : w.ownsRow B 43 1 vg' l'.length (uintsN l')) (hn : vg'.ownBlock ≠ some p) (hl : w.ownsRow B 43 1 vl x.l.length (uintsN x.l)) : RwIs (w.setCell ⟨p, 7, none⟩ vg') B p vl vg' { x with gt := l' } := by
  refine ⟨fun j hj => ?_, fun j hj => by rw [World.frozen?_setCell]; exact fs j hj, own_keep hl (one_keeps w _ _) (fun g e e' => nl (by rw [e, e'])), own_keep ho (one_keeps w _ _) (fun g e e' => hn (by rw [e, e'])), nl, hn⟩
  by_cases e : j = 7
  · subst e; exact World.cell?_setCell_same _ _ _ (cs 7 hj)
  · rw [World.cell?_setCell_other _ _ _ _ (fun q => e (by cases q; rfl)), cs j hj]
    match j, hj, e with
    | 0, _, _ => rfl
    | 1, _, _ => rfl
    | 2, _, _ => rfl
    | 3, _, _ => rfl
    | 4, _, _ => rfl
    | 5, _, _ => rfl
    | 6, _, _ => rfl
    | 7, _, e => exact absurd rfl e
/-- What an append to what was read leaves. -/
theorem rm_get {c : Ce} {x : Wk} (h : RcW w B m v c p vl vg x) {X w1 : World} {p' cap' L G : Nat} (hL : x.gt.length = L) (hX : Below w.heap.size w X) (hown : w1.ownsRow B 43 1 (.slice (some ⟨p', 0, none⟩) (L + 1) cap') (L + 1) (uintsN x.gt ++ [.int .u64 (G : Int)])) (hgr : X.grownBy w1 vg.ownBlock) (hat : vg.ownBlock = some p' ∨ w.heap.size ≤ p') :
    w1.cell? ⟨p, 7, none⟩ = some vg ∧ w1.frozen? ⟨p, 7, none⟩ = false ∧ w1.frozen? ⟨p, 4, none⟩ = false ∧ (w1.setCell ⟨p, 7, none⟩ (.slice (some ⟨p', 0, none⟩) (L + 1) cap')).cell? ⟨p, 4, none⟩ = some (.int .i64 (x.mv : Int)) ∧
      ∀ n : Nat, RmIs w ((w1.setCell ⟨p, 7, none⟩ (.slice (some ⟨p', 0, none⟩) (L + 1) cap')).setCell ⟨p, 4, none⟩ (.int .i64 (n : Int))) B m v c p vl vg { x with gt := x.gt ++ [G], mv := n } := by
  have K : Keeps (fun k => vg.ownBlock = some k) w w1 := (Below.keeps hX).grown hgr (fun k e _ => e)
  have hn : ∀ g, (Value.slice (some ⟨p', 0, none⟩) (L + 1) cap').ownBlock = some g → g = p' := fun g e => by simp [Value.ownBlock] at e; exact e.symm
  have hfar : ∀ k, k < w.heap.size → vg.ownBlock ≠ some k → k ≠ p' := fun k hk hne e => by
    rcases hat with q | q
    · exact hne (by rw [q, e])
    · omega
  have hp := h.r.lt
  have cs : ∀ i, i < 8 → w1.cell? ⟨p, i, none⟩ = some (rwV x vl vg i) := fun i hi => by rw [K.cell (p := ⟨p, i, none⟩) hp h.r.ng]; exact h.r.cs i hi
  have fs : ∀ i, i < 8 → w1.frozen? ⟨p, i, none⟩ = false := fun i hi => by rw [K.frozen (p := ⟨p, i, none⟩) hp h.r.ng]; exact h.r.fs i hi
  have hq := h.q.keep K h.a3.2 (fun g e e' => (h.a4 g e).2 e')
  have hl := own_keep h.r.ol K (fun g e e' => h.a5 g e e')
  have hr := rw_setG cs fs h.r.nl (l' := x.gt ++ [G]) (vg' := .slice (some ⟨p', 0, none⟩) (L + 1) cap') (by rw [uintsN_snoc, List.length_append, hL]; exact hown) (fun e => hfar p hp h.r.ng (hn _ e)) hl
  have hq' := hq.keep (one_keeps w1 ⟨p, 7, none⟩ (.slice (some ⟨p', 0, none⟩) (L + 1) cap')) h.a1 (fun g e e' => h.a2 (by rw [e, e']))
  have hw : RcW (w1.setCell ⟨p, 7, none⟩ (.slice (some ⟨p', 0, none⟩) (L + 1) cap')) B m v c p vl (.slice (some ⟨p', 0, none⟩) (L + 1) cap') { x with gt := x.gt ++ [G] } :=
    ⟨hq', hr, h.a1, h.a2, ⟨h.a3.1, fun e => hfar m h.q.lt h.a3.2 (hn _ e)⟩, fun g e => ⟨(h.a4 g e).1, fun e' => hfar g (h.q.own.lt g e).2 (h.a4 g e).2 (hn _ e')⟩, fun g e e' => hfar g (h.r.ol.lt g e).2 (h.a5 g e) (hn _ e')⟩
  refine ⟨cs 7 (by omega), fs 7 (by omega), fs 4 (by omega), hr.cs 4 (by omega), fun n => ⟨vl, _, hw.setMv n, (((K.wider (fun k _ e => .inr (.inr (.inr e)))).setCell _ (fun _ => .inr (.inr (.inl rfl))) _).setCell _ (fun _ => .inr (.inr (.inl rfl))) _), fun _ => .inl, fun g e => ?_⟩⟩
  have := hn _ e
  subst this
  exact hat
set_option maxHeartbeats 2000000 in
theorem rd_get {c : Ce} {x : Wk} (h : RcW w B m v c p vl vg x) (hB : B ≤ w.heap.size) (i : Nat) (h0 : x.mv = i + 1) (hi : i < c.l.length) (hb : c.l.length ≤ 1000000) (hg : x.gt.length ≤ 1000000) :
    Calls Try.prog 29 #[.pointer (some ⟨p, 0, none⟩), .pointer (some ⟨m, 0, none⟩)] w fun e w' => e = .returned (.int .i64 1) ∧ RmIs w w' B m v c p vl vg { x with gt := x.gt ++ [c.l.getD i 0], mv := x.mv + 1 } := by
  obtain ⟨i0, hii, hz0, hz1, hz2⟩ := info_parts Try.infoU64
  obtain ⟨ao, cap, rfl, s1, s2, s3⟩ := own_slice h.q.own
  obtain ⟨g, rfl, hgb, e1, e2⟩ := s3 i _ (uintsN_get _ i hi)
  obtain ⟨aog, capg, rfl, t1, t2, -⟩ := own_slice h.r.og
  have D : c.l[i]?.getD 0 = c.l.getD i 0 := by simp
  rw [D] at e1
  have c4 : w.cell? ⟨p, 4, none⟩ = some (.int .i64 (x.mv : Int)) := h.r.cs 4 (by omega)
  have c7 : w.cell? ⟨p, 7, none⟩ = some (.slice aog x.gt.length capg) := h.r.cs 7 (by omega)
  have f7 := h.r.fs 7 (by omega)
  have d2 := h.q.c2
  have hm1 : (x.mv : Int) - 1 = (i : Int) := by omega
  have hm0 : ((x.mv : Int) == 0) = false := by rw [beq_eq_false_iff_ne]; omega
  have hm2 : ¬ x.mv = 0 := by omega
  have hml : x.mv ≤ 1000001 := by omega
  obtain ⟨G, hG⟩ : ∃ G, c.l.getD i 0 = G := ⟨_, rfl⟩
  have hX : Below w.heap.size w ((w.drewN 1).alloc (.cells #[.int .u64 (G : Int)] 43)) := (below_drewN (Below.refl w.heap.size w) 1).alloc (by simp) _
  have hown2 := own_below h.r.og hX
  have hnews := cell_one (w.drewN 1) (.int .u64 (G : Int)) 43
  rw [show (w.drewN 1).heap.size = w.heap.size from rfl] at hnews
  have HPU := fun (w1 : World) (p' cap' : Nat) hown' hgr hat => rm_get (w1 := w1) (p' := p') (cap' := cap') (G := G) h rfl hX hown' hgr hat
  have hmm : ((x.mv + 1 : Nat) : Int) = (x.mv : Int) + 1 := by omega
  rw [hG] at e1 ⊢
  obtain ⟨mv, hmv⟩ : ∃ q, x.mv = q := ⟨_, rfl⟩
  rw [hmv] at c4 hm1 hm0 hm2 hml hmm ⊢
  have HP2 := hide HPU
  have hps := h.r.lt
  have hms := h.q.lt
  have hgs := (h.q.own.lt g hgb).2
  clear h s3 hX D h0 hG HPU
  generalize hL : x.gt.length = L at *
  generalize hN : c.l.length = N at *
  clear hL hN
  go_enter Try.func29, Try.ntmps29
  go_wp2_with fail
  go_region_law ((refine step_append_lies _ (by rfl) _ _ 41 (by rfl) B 43 i0 (.int .u64 0) 1 8 Try.underlying41 hii hz0 hz1 hz2 rfl (by decide) _ _ _ (by rfl) hown2 ⟨w.heap.size, 0, none⟩ 1 1 [.int .u64 (G : Int)] (by rfl) rfl hnews one_int (by decide) (by unfold maxLen; omega) (by omega) (by simp; omega) (w.heap.size + 1) (by simp) ?_; intro p' cap' w1 hown' hgrow hat' hlt'; obtain ⟨k1, k2, k3, k4, k5⟩ := HP2.out w1 p' cap' hown' hgrow (hat'.imp id (fun e => by omega))))
  all_goals
    have H := hide (k5 (mv + 1))
    rw [hmm] at H
    rw [hmv] at k4
    clear hgrow hat' hlt' hown2 hnews HP2 hown' k5
    go_wp2
    go_ret
    first | exact ⟨rfl, H.out.drewN 0⟩ | exact ⟨rfl, H.out.drewN 1⟩ | exact ⟨rfl, H.out.drewN 2⟩
end
end Go.Proofs.Ytikpphbgjbfddaa
namespace Go.Proofs.Ytikpphbgjbfddaa
set_option maxRecDepth 20000
open Go.RowKit
section
variable {w : World} {B m p : Nat} {v vl vg : Value}
theorem own_litU (w : World) (a : Nat) : (w.alloc (.cells #[.int .u64 (a : Int)] 43)).ownsRow w.heap.size 43 1 (.slice (some ⟨w.heap.size, 0, none⟩) 1 1) [a].length (uintsN [a]) :=
  World.ownsRow_lit w _ 1 (Nat.le_refl _) (by decide) rfl
theorem rm_load0 {c : Ce} {x : Wk} (h : RcW w B m v c p vl vg x) (hB : B ≤ w.heap.size) (y : Nat) : RmIs w (((w.alloc (.cells #[.int .u64 (y : Int)] 43)).setCell ⟨p, 3, none⟩ (.slice (some ⟨w.heap.size, 0, none⟩) 1 1)).setCell ⟨p, 4, none⟩ (.int .i64 2)) B m v c p vl vg { x with l := [y], mv := 2 } := by
  have hm := h.q.lt
  have hp := h.r.lt
  have ho := own_base (base' := B) (own_litU w y) hB
  have h2 := h.below ((Below.refl w.heap.size w).alloc (Nat.le_refl _) (.cells #[.int .u64 (y : Int)] 43))
  have hn : ∀ g, (Value.slice (some ⟨w.heap.size, 0, none⟩) 1 1).ownBlock = some g → g = w.heap.size := fun g e => by simp [Value.ownBlock] at e; exact e.symm
  have h3 : RcW ((w.alloc (.cells #[.int .u64 (y : Int)] 43)).setCell ⟨p, 3, none⟩ (.slice (some ⟨w.heap.size, 0, none⟩) 1 1)) B m v c p (.slice (some ⟨w.heap.size, 0, none⟩) 1 1) vg { x with l := [y] } :=
    ⟨h2.own 3 _, h2.r.setL (l' := [y]) ho (fun e => by have := hn _ e; omega), h.a1, h.a2, ⟨fun e => by have := hn _ e; omega, h.a3.2⟩, fun g e => ⟨fun e' => by have := hn _ e'; have := (h.q.own.lt g e).2; omega, (h.a4 g e).2⟩, fun g e e' => by have := hn _ e; have := (h.r.og.lt g e').2; omega⟩
  exact ⟨_, vg, h3.setMv 2, ((((Keeps.refl (RcO m v p vg) w).alloc _).setCell _ (fun _ => .inr (.inr (.inl rfl))) _).setCell _ (fun _ => .inr (.inr (.inl rfl))) _), fun g e => .inr (by have := hn _ e; omega), fun _ => .inl⟩
theorem rm_load {c : Ce} {x : Wk} (h : RcW w B m v c p vl vg x) (hB : B ≤ w.heap.size) (y : Nat) : RmIs w (((w.setCell ⟨p, 3, none⟩ (.slice (some ⟨w.heap.size, 0, none⟩) 1 1)).setCell ⟨p, 4, none⟩ (.int .i64 2)).alloc (.cells #[.int .u64 (y : Int)] 43)) B m v c p vl vg { x with l := [y], mv := 2 } := by
  have H := rm_load0 h hB y
  have hp := h.r.lt
  rwa [World.setCell_alloc_past _ p 3 _ (by simpa [World.setCell] using hp), World.setCell_alloc_past _ p 4 _ (by simpa [World.setCell] using hp)] at H
set_option maxHeartbeats 2000000 in
theorem rw_load {c : Ce} {x : Wk} (h : RcW w B m v c p vl vg x) (hB : B ≤ w.heap.size) (hd : x.dn = false) (hr : x.rd = false) (ha : x.ad = true) (h0 : x.mv = 1) (hc : c.l.length = 1) :
    Calls Try.prog 9 #[.pointer (some ⟨p, 0, none⟩), .pointer (some ⟨m, 0, none⟩)] w fun e w' => e = .returned (.int .i64 1) ∧ RmIs w w' B m v c p vl vg { x with l := [sumW (c.l.getD 0 0) x.n], mv := 2 } := by
  have HS : IntKind.u64.wrap ((c.l.getD 0 0 : Nat) + (x.n : Int)) = (sumW (c.l.getD 0 0) x.n : Int) := by rw [IntKind.wrap_u64, sumW]; omega
  obtain ⟨ao, cap, rfl, s1, s2, s3⟩ := own_slice h.q.own
  obtain ⟨g, rfl, hg, e1, e2⟩ := s3 0 _ (uintsN_get _ 0 (by omega))
  have H := hide (rm_load h hB (sumW (c.l.getD 0 0) x.n))
  have c5 : w.cell? ⟨p, 5, none⟩ = some (.bool x.dn) := h.r.cs 5 (by omega)
  have c0 : w.cell? ⟨p, 0, none⟩ = some (.bool x.rd) := h.r.cs 0 (by omega)
  have c1 : w.cell? ⟨p, 1, none⟩ = some (.bool x.ad) := h.r.cs 1 (by omega)
  have c2 : w.cell? ⟨p, 2, none⟩ = some (.int .u64 (x.n : Int)) := h.r.cs 2 (by omega)
  have c3 : w.cell? ⟨p, 3, none⟩ = some vl := h.r.cs 3 (by omega)
  have c4 : w.cell? ⟨p, 4, none⟩ = some (.int .i64 (x.mv : Int)) := h.r.cs 4 (by omega)
  have f3 := h.r.fs 3 (by omega)
  have f4 := h.r.fs 4 (by omega)
  have d2 := h.q.c2
  have D : c.l[0]?.getD 0 = c.l.getD 0 0 := by simp
  have hps := h.r.lt
  have hms := h.q.lt
  have hgs := (h.q.own.lt g hg).2
  rw [D] at e1
  rw [hd] at c5
  rw [hr] at c0
  rw [ha] at c1
  rw [h0] at c4
  rw [hc] at d2
  clear h hd hr h0 ha s3 D hB
  generalize sumW (c.l.getD 0 0) x.n = y at *
  generalize c.l.getD 0 0 = z at *
  generalize x.n = n at *
  go_enter Try.func9, Try.ntmps9
  go_wp2_with fail
  go_region_law ((fail))
  all_goals
    go_wp2
    go_ret
    first | exact ⟨rfl, H.out.drewN 0⟩ | exact ⟨rfl, H.out.drewN 1⟩ | exact ⟨rfl, H.out.drewN 2⟩
end
end Go.Proofs.Ytikpphbgjbfddaa
namespace Go.Proofs.Ytikpphbgjbfddaa
set_option maxRecDepth 20000
open Go.RowKit
section
variable {w : World} {B m p : Nat} {v vl vg : Value}
theorem rm_move {N : Nat} {c : Ce} {x : Wk} (h : RcW w B m v c p vl vg x) (hB : B ≤ w.heap.size) (hc : CeOk N c) (hx : WkOk N x) (hN : N ≤ 1000) :
    Calls Try.prog 9 #[.pointer (some ⟨p, 0, none⟩), .pointer (some ⟨m, 0, none⟩)] w fun e w' => e = .returned (.int .i64 ((wkMove c x).1 : Int)) ∧ RmIs w w' B m v (wkMove c x).2.1 p vl vg (wkMove c x).2.2 := by
  have hlen := hc.len
  by_cases hd : x.dn = true
  · rw [show wkMove c x = (2, c, x) by unfold wkMove; rw [if_pos hd]]
    exact rw_done h hd
  · have hd' : x.dn = false := by simpa using hd
    by_cases hr : x.rd = true
    · by_cases h0 : x.mv = 0
      · by_cases hl : c.lk = true
        · rw [show wkMove c x = (3, c, x) by unfold wkMove; rw [if_neg hd, if_pos hr, if_pos h0, if_pos hl]]
          exact rr_move h hd' hr (rd_busy h h0 hl)
        · rw [show wkMove c x = (1, c, { x with sn := c.ct, gt := [], mv := 1 }) by unfold wkMove; rw [if_neg hd, if_pos hr, if_pos h0, if_neg hl]]
          exact rr_move h hd' hr (rd_begin h hB h0 (by simpa using hl))
      · have hmv := hx.rmv hr
        by_cases hi : x.mv - 1 < c.l.length
        · rw [show wkMove c x = (1, c, { x with gt := x.gt ++ [c.l.getD (x.mv - 1) 0], mv := x.mv + 1 }) by unfold wkMove; rw [if_neg hd, if_pos hr, if_neg h0, if_pos hi]]
          exact rr_move h hd' hr (rd_get (c := c) (x := x) h hB (x.mv - 1) (by omega) hi (by omega) (by have := hx.few; omega))
        · by_cases hl : c.lk = true ∨ c.ct ≠ x.sn
          · rw [show wkMove c x = (3, c, { x with mv := 0 }) by unfold wkMove; rw [if_neg hd, if_pos hr, if_neg h0, if_neg hi, if_pos hl]]
            exact rr_move h hd' hr (rd_again (c := c) (x := x) h (by omega) (by omega) hl)
          · rw [show wkMove c x = (2, c, { x with dn := true }) by unfold wkMove; rw [if_neg hd, if_pos hr, if_neg h0, if_neg hi, if_neg hl]]
            have h1 : c.lk = false := by
              cases e : c.lk with
              | true => exact absurd (.inl e) hl
              | false => rfl
            have h2 : c.ct = x.sn := Classical.byContradiction fun e => hl (.inr e)
            exact rr_move h hd' hr (rd_end (c := c) (x := x) h (by omega) (by omega) h1 h2)
    · have hr' : x.rd = false := by simpa using hr
      by_cases h0 : x.mv = 0
      · by_cases hl : c.lk = true
        · rw [show wkMove c x = (3, c, x) by unfold wkMove; rw [if_neg hd, if_neg hr, if_pos h0, if_pos hl]]
          exact rw_busy h hd' hr' h0 hl
        · rw [show wkMove c x = (1, { c with lk := true }, { x with mv := 1, tk := c.ct }) by unfold wkMove; rw [if_neg hd, if_neg hr, if_pos h0, if_neg hl]]
          exact rw_take h hd' hr' h0 (by simpa using hl)
      · by_cases ha : x.ad = true
        · obtain ⟨n1, n2, n3, n4⟩ := hx.adn ha
          by_cases h1 : x.mv = 1
          · rw [show wkMove c x = (1, c, { x with l := [sumW (c.l.getD 0 0) x.n], mv := 2 }) by unfold wkMove; rw [if_neg hd, if_neg hr, if_neg h0, if_pos ⟨ha, h1⟩]]
            exact rw_load (c := c) (x := x) h hB hd' hr' ha h1 (by omega)
          · have hll := n3 (by omega)
            have hat : x.at = x.mv - 2 := by unfold Wk.at; rw [if_pos ha]; omega
            by_cases h2 : x.mv = 2
            · have e0 : x.at = 0 := by omega
              rw [show wkMove c x = (1, { c with l := c.l.set 0 (x.l.getD 0 0) }, { x with mv := 3 }) by unfold wkMove; rw [if_neg hd, if_neg hr, if_neg h0, if_neg (fun e => h1 e.2), if_pos (by omega), e0, h2]]
              exact rw_put2 (c := c) (x := x) h hd' hr' ha h2 hll (by omega)
            · rw [show wkMove c x = (2, { c with lk := false, ct := (c.ct + 1) % 4294967296 }, { x with dn := true }) by unfold wkMove; rw [if_neg hd, if_neg hr, if_neg h0, if_neg (fun e => h1 e.2), if_neg (by omega)]]
              exact rw_free2 (c := c) (x := x) h hd' hr' ha (by omega) hll hc.ct
        · have ha' : x.ad = false := by simpa using ha
          obtain ⟨n1, n2⟩ := hx.wln hr' ha'
          have hat : x.at = x.mv - 1 := by unfold Wk.at; rw [if_neg ha]; omega
          by_cases hi : x.at < x.l.length
          · rw [show wkMove c x = (1, { c with l := c.l.set x.at (x.l.getD x.at 0) }, { x with mv := x.mv + 1 }) by unfold wkMove; rw [if_neg hd, if_neg hr, if_neg h0, if_neg (fun e => ha e.1), if_pos hi]]
            exact rw_put (c := c) (x := x) h hd' hr' ha' x.at (by omega) hi (by omega) (by omega)
          · rw [show wkMove c x = (2, { c with lk := false, ct := (c.ct + 1) % 4294967296 }, { x with dn := true }) by unfold wkMove; rw [if_neg hd, if_neg hr, if_neg h0, if_neg (fun e => ha e.1), if_neg hi]]
            exact rw_free (c := c) (x := x) h hd' hr' ha' (by omega) (by omega) hc.ct
set_option maxHeartbeats 1000000 in
theorem rm_holds {x : Wk} (h : RwIs w B p vl vg x) :
    Calls Try.prog 15 #[.pointer (some ⟨p, 0, none⟩)] w fun e w' => e = .returned (.bool x.holds) ∧ ∃ n, w' = w.drewN n := by
  have c5 : w.cell? ⟨p, 5, none⟩ = some (.bool x.dn) := h.cs 5 (by omega)
  have c0 : w.cell? ⟨p, 0, none⟩ = some (.bool x.rd) := h.cs 0 (by omega)
  have c4 : w.cell? ⟨p, 4, none⟩ = some (.int .i64 (x.mv : Int)) := h.cs 4 (by omega)
  unfold Wk.holds
  clear h
  generalize x.mv = mv at *
  cases hr : x.rd with
  | true =>
    rw [hr] at c0
    go_enter Try.func15, Try.ntmps15
    go_wp2
    go_ret
    exact ⟨rfl, 0, rfl⟩
  | false =>
    rw [hr] at c0
    by_cases hm : mv = 0
    · subst hm
      go_enter Try.func15, Try.ntmps15
      go_wp2
      go_ret
      exact ⟨rfl, 0, rfl⟩
    · have hm' : decide (0 < mv) = true := by rw [decide_eq_true_eq]; omega
      have hm2 : 0 < (mv : Int) := by omega
      rw [hm']
      go_enter Try.func15, Try.ntmps15
      go_wp2
      go_ret
      exact ⟨ret_bool (by simp), 0, rfl⟩
end
end Go.Proofs.Ytikpphbgjbfddaa
namespace Go.Proofs.Ytikpphbgjbfddaa
set_option maxRecDepth 20000
open Go.RowKit
/-- What a move does to the lock: nothing; it is taken; it is freed. -/
theorem wk_lock (c : Ce) (x : Wk) :
    ((wkMove c x).2.2.holds = x.holds ∧ (wkMove c x).2.1.lk = c.lk ∧ (wkMove c x).2.1.ct = c.ct ∧ (x.holds = true → (wkMove c x).2.2.tk = x.tk)) ∨
    (x.holds = false ∧ c.lk = false ∧ (wkMove c x).2.2.holds = true ∧ (wkMove c x).2.1.lk = true ∧ (wkMove c x).2.1.ct = c.ct ∧ (wkMove c x).2.2.tk = c.ct) ∨
    (x.holds = true ∧ (wkMove c x).2.2.holds = false ∧ (wkMove c x).2.1.lk = false) := by
  unfold wkMove
  by_cases hd : x.dn = true
  · rw [if_pos hd]; exact .inl ⟨rfl, rfl, rfl, fun _ => rfl⟩
  · rw [if_neg hd]
    have hd' : x.dn = false := by simpa using hd
    by_cases hr : x.rd = true
    · rw [if_pos hr]
      have hh : x.holds = false := by unfold Wk.holds; rw [hr]; rfl
      left
      split
      · split
        · exact ⟨rfl, rfl, rfl, fun _ => rfl⟩
        · exact ⟨by unfold Wk.holds; simp only [hr]; rfl, rfl, rfl, fun _ => rfl⟩
      · split
        · exact ⟨by unfold Wk.holds; simp only [hr]; rfl, rfl, rfl, fun _ => rfl⟩
        · split
          · exact ⟨by unfold Wk.holds; simp only [hr]; rfl, rfl, rfl, fun _ => rfl⟩
          · exact ⟨by unfold Wk.holds; simp only [hr]; rfl, rfl, rfl, fun _ => rfl⟩
    · rw [if_neg hr]
      have hr' : x.rd = false := by simpa using hr
      by_cases h0 : x.mv = 0
      · rw [if_pos h0]
        by_cases hl : c.lk = true
        · rw [if_pos hl]; exact .inl ⟨rfl, rfl, rfl, fun _ => rfl⟩
        · rw [if_neg hl]
          exact .inr (.inl ⟨by simp [Wk.holds, h0], by simpa using hl, by simp [Wk.holds, hr', hd'], rfl, rfl, rfl⟩)
      · rw [if_neg h0]
        have hp : 0 < x.mv := by omega
        split
        · exact .inl ⟨by simp [Wk.holds, hr', hd', hp], rfl, rfl, fun _ => rfl⟩
        · split
          · exact .inl ⟨by simp [Wk.holds, hr', hd', hp], rfl, rfl, fun _ => rfl⟩
          · exact .inr (.inr ⟨by simp [Wk.holds, hr', hd', hp], by simp [Wk.holds], rfl⟩)
/-- One of many gets another state. -/
def wkUpd (xs : Nat → Wk) (i : Nat) (x : Wk) : Nat → Wk := fun j => if j = i then x else xs j
theorem wkUpd_same (xs : Nat → Wk) (i : Nat) (x : Wk) : wkUpd xs i x i = x := if_pos rfl
theorem wkUpd_ne {xs : Nat → Wk} {i j : Nat} {x : Wk} (h : j ≠ i) : wkUpd xs i x j = xs j := if_neg h
/-- What is known of k of them at a record. -/
structure ScOk (N : Nat) (c : Ce) (xs : Nat → Wk) (k : Nat) : Prop where
  ce : CeOk N c
  wk : ∀ j, j < k → WkOk N (xs j)
  one : ∀ i, i < k → ∀ j, j < k → (xs i).holds = true → (xs j).holds = true → i = j
  lk : c.lk = true ↔ ∃ j, j < k ∧ (xs j).holds = true
  tk : ∀ j, j < k → (xs j).holds = true → (xs j).tk = c.ct
theorem ScOk.move {N : Nat} {c : Ce} {xs : Nat → Wk} {k : Nat} (h : ScOk N c xs k) {i : Nat} (hi : i < k) : ScOk N (wkMove c (xs i)).2.1 (wkUpd xs i (wkMove c (xs i)).2.2) k := by
  obtain ⟨k1, k2⟩ := wk_keeps h.ce (h.wk i hi)
  have hw : ∀ j, j < k → WkOk N (wkUpd xs i (wkMove c (xs i)).2.2 j) := fun j hj => by
    by_cases e : j = i
    · subst e; rw [wkUpd_same]; exact k2
    · rw [wkUpd_ne e]; exact h.wk j hj
  rcases wk_lock c (xs i) with ⟨a1, a2, a3, a4⟩ | ⟨a1, a2, a3, a4, a5, a6⟩ | ⟨a1, a2, a3⟩
  · have hs : ∀ j, (wkUpd xs i (wkMove c (xs i)).2.2 j).holds = (xs j).holds := fun j => by
      by_cases e : j = i
      · subst e; rw [wkUpd_same, a1]
      · rw [wkUpd_ne e]
    refine ⟨k1, hw, fun a ha b hb p q => h.one a ha b hb (by rw [← hs]; exact p) (by rw [← hs]; exact q), ?_, fun j hj p => ?_⟩
    · rw [a2, h.lk]
      exact ⟨fun ⟨j, hj, p⟩ => ⟨j, hj, by rw [hs]; exact p⟩, fun ⟨j, hj, p⟩ => ⟨j, hj, by rw [← hs]; exact p⟩⟩
    · rw [hs] at p
      rw [a3]
      by_cases e : j = i
      · subst e; rw [wkUpd_same, a4 p]; exact h.tk j hj p
      · rw [wkUpd_ne e]; exact h.tk j hj p
  · have hno : ∀ j, j < k → (xs j).holds = false := fun j hj => by
      cases e : (xs j).holds with
      | false => rfl
      | true => have := h.lk.2 ⟨j, hj, e⟩; rw [a2] at this; cases this
    have hs : ∀ j, j < k → (wkUpd xs i (wkMove c (xs i)).2.2 j).holds = true → j = i := fun j hj p => by
      by_cases e : j = i
      · exact e
      · rw [wkUpd_ne e, hno j hj] at p; cases p
    refine ⟨k1, hw, fun a ha b hb p q => (hs a ha p).trans (hs b hb q).symm, ⟨fun _ => ⟨i, hi, by rw [wkUpd_same]; exact a3⟩, fun _ => a4⟩, fun j hj p => ?_⟩
    have := hs j hj p
    subst this
    rw [wkUpd_same, a6, a5]
  · have hs : ∀ j, j < k → (wkUpd xs i (wkMove c (xs i)).2.2 j).holds = false := fun j hj => by
      by_cases e : j = i
      · subst e; rw [wkUpd_same]; exact a2
      · rw [wkUpd_ne e]
        cases q : (xs j).holds with
        | false => rfl
        | true => exact absurd (h.one j hj i hi q a1) e
    have no : ∀ j, j < k → (wkUpd xs i (wkMove c (xs i)).2.2 j).holds = true → False := fun j hj p => Bool.noConfusion ((hs j hj).symm.trans p)
    exact ⟨k1, hw, fun a ha _ _ p _ => (no a ha p).elim, ⟨fun p => Bool.noConfusion (a3.symm.trans p), fun ⟨j, hj, p⟩ => (no j hj p).elim⟩, fun j hj p => (no j hj p).elim⟩
end Go.Proofs.Ytikpphbgjbfddaa
