/- Parts of the proof: Jb. -/
import Derived.Test.YtikpphbgjbfddaaJ1
import Derived.Test.YtikpphbgjbfddaaJ8
import Derived.Test.YtikpphbgjbfddaaJ9
import Derived.Deep.AppendLies
import Derived.Deep.RegionHeld3
import Derived.Deep.RegionLaw
namespace Go.Proofs.Ytikpphbgjbfddaa
set_option maxRecDepth 20000
open Go.RowKit
/-- The reference's lock and words: struct in block m, the words' row v. -/
structure RcIs (w : World) (B m : Nat) (v : Value) (c : Ce) : Prop where
  c0 : w.cell? ⟨m, 0, none⟩ = some (.bool c.lk)
  f0 : w.frozen? ⟨m, 0, none⟩ = false
  c1 : w.cell? ⟨m, 1, none⟩ = some (.int .u64 (c.ct : Int))
  f1 : w.frozen? ⟨m, 1, none⟩ = false
  c2 : w.cell? ⟨m, 2, none⟩ = some v
  own : w.ownsRow B 43 1 v c.l.length (uintsN c.l)
  ne : v.ownBlock ≠ some m
/-- The cells of somebody at it. -/
def rwV (x : Wk) (vl vg : Value) : Nat → Value
  | 0 => .bool x.rd
  | 1 => .bool x.ad
  | 2 => .int .u64 (x.n : Int)
  | 3 => vl
  | 4 => .int .i64 (x.mv : Int)
  | 5 => .bool x.dn
  | 6 => .int .u64 (x.sn : Int)
  | _ => vg
/-- Somebody at it: struct in block p, the words to be written vl, what was read vg. -/
structure RwIs (w : World) (B p : Nat) (vl vg : Value) (x : Wk) : Prop where
  cs : ∀ i, i < 8 → w.cell? ⟨p, i, none⟩ = some (rwV x vl vg i)
  fs : ∀ i, i < 8 → w.frozen? ⟨p, i, none⟩ = false
  ol : w.ownsRow B 43 1 vl x.l.length (uintsN x.l)
  og : w.ownsRow B 43 1 vg x.gt.length (uintsN x.gt)
  nl : vl.ownBlock ≠ some p
  ng : vg.ownBlock ≠ some p
section
variable {w w' : World} {S : Nat → Prop} {B m p : Nat} {v vl vg : Value} {c : Ce} {x : Wk}
theorem RcIs.lt (h : RcIs w B m v c) : m < w.heap.size := World.block_lt_of_cell? w _ h.c0
theorem RwIs.lt (h : RwIs w B p vl vg x) : p < w.heap.size := World.block_lt_of_cell? w _ (h.cs 0 (by omega))
theorem RcIs.keep (h : RcIs w B m v c) (hk : Keeps S w w') (hm : ¬ S m) (hv : ∀ g, v.ownBlock = some g → ¬ S g) : RcIs w' B m v c :=
  ⟨by rw [hk.cell h.lt hm]; exact h.c0, by rw [hk.frozen h.lt hm]; exact h.f0, by rw [hk.cell h.lt hm]; exact h.c1, by rw [hk.frozen h.lt hm]; exact h.f1, by rw [hk.cell h.lt hm]; exact h.c2, own_keep h.own hk hv, h.ne⟩
theorem RwIs.keep (h : RwIs w B p vl vg x) (hk : Keeps S w w') (hp : ¬ S p) (hl : ∀ g, vl.ownBlock = some g → ¬ S g) (hg : ∀ g, vg.ownBlock = some g → ¬ S g) : RwIs w' B p vl vg x :=
  ⟨fun i hi => by rw [hk.cell h.lt hp]; exact h.cs i hi, fun i hi => by rw [hk.frozen h.lt hp]; exact h.fs i hi, own_keep h.ol hk hl, own_keep h.og hk hg, h.nl, h.ng⟩
theorem RcIs.below (h : RcIs w B m v c) (hb : Below w.heap.size w w') : RcIs w' B m v c := h.keep (Below.keeps (S := fun _ => False) hb) id (fun _ _ => id)
theorem RwIs.below (h : RwIs w B p vl vg x) (hb : Below w.heap.size w w') : RwIs w' B p vl vg x := h.keep (Below.keeps (S := fun _ => False) hb) id (fun _ _ => id) (fun _ _ => id)
theorem one_keeps (w : World) (q : Addr) (u : Value) : Keeps (fun k => k = q.block) w (w.setCell q u) := (Keeps.refl (fun k => k = q.block) w).setCell q (fun _ => rfl) u
/-- Its lock, its count, a word are written. -/
theorem RcIs.lock (h : RcIs w B m v c) (b : Bool) : RcIs (w.setCell ⟨m, 0, none⟩ (.bool b)) B m v { c with lk := b } :=
  ⟨World.cell?_setCell_same _ _ _ h.c0, by rw [World.frozen?_setCell]; exact h.f0, by rw [World.cell?_setCell_other _ _ _ _ (fun e => by cases e)]; exact h.c1, by rw [World.frozen?_setCell]; exact h.f1, by rw [World.cell?_setCell_other _ _ _ _ (fun e => by cases e)]; exact h.c2,
    own_keep h.own (one_keeps w _ _) (fun g e e' => h.ne (by rw [e, e'])), h.ne⟩
theorem RcIs.count (h : RcIs w B m v c) (n : Nat) : RcIs (w.setCell ⟨m, 1, none⟩ (.int .u64 (n : Int))) B m v { c with ct := n } :=
  ⟨by rw [World.cell?_setCell_other _ _ _ _ (fun e => by cases e)]; exact h.c0, by rw [World.frozen?_setCell]; exact h.f0, World.cell?_setCell_same _ _ _ h.c1, by rw [World.frozen?_setCell]; exact h.f1, by rw [World.cell?_setCell_other _ _ _ _ (fun e => by cases e)]; exact h.c2,
    own_keep h.own (one_keeps w _ _) (fun g e e' => h.ne (by rw [e, e'])), h.ne⟩
theorem RcIs.word (h : RcIs w B m v c) {g : Nat} (hg : v.ownBlock = some g) (i n : Nat) : RcIs (w.setCell ⟨g, i, none⟩ (.int .u64 (n : Int))) B m v { c with l := c.l.set i n } := by
  have hn : (⟨g, i, none⟩ : Addr).block ≠ m := fun e => h.ne (by rw [hg, ← e])
  have hk := one_keeps w ⟨g, i, none⟩ (.int .u64 (n : Int))
  have hm : ¬ m = (⟨g, i, none⟩ : Addr).block := fun e => hn e.symm
  refine ⟨by rw [hk.cell h.lt hm]; exact h.c0, by rw [World.frozen?_setCell]; exact h.f0, by rw [hk.cell h.lt hm]; exact h.c1, by rw [World.frozen?_setCell]; exact h.f1, by rw [hk.cell h.lt hm]; exact h.c2, ?_, h.ne⟩
  have := own_set h.own hg i (.int .u64 (n : Int))
  rw [uintsN_set] at this
  simpa using this
/-- A cell of somebody's is written. -/
theorem RwIs.set (h : RwIs w B p vl vg x) (i : Nat) (hi : i < 8) (u : Value) {x' : Wk} (he : ∀ j, j < 8 → rwV x' vl vg j = if j = i then u else rwV x vl vg j) (hl : x'.l = x.l) (hg : x'.gt = x.gt) : RwIs (w.setCell ⟨p, i, none⟩ u) B p vl vg x' := by
  refine ⟨fun j hj => ?_, fun j hj => by rw [World.frozen?_setCell]; exact h.fs j hj, ?_, ?_, h.nl, h.ng⟩
  · rw [he j hj]
    by_cases e : j = i
    · subst e; rw [if_pos rfl]; exact World.cell?_setCell_same _ _ _ (h.cs j hj)
    · rw [if_neg e, World.cell?_setCell_other _ _ _ _ (fun q => e (by cases q; rfl))]; exact h.cs j hj
  · rw [hl]; exact own_keep h.ol (one_keeps w _ _) (fun g e e' => h.nl (by rw [e, e']))
  · rw [hg]; exact own_keep h.og (one_keeps w _ _) (fun g e e' => h.ng (by rw [e, e']))
theorem RwIs.setL (h : RwIs w B p vl vg x) {vl' : Value} {l' : List Nat} (ho : w.ownsRow B 43 1 vl' l'.length (uintsN l')) (hn : vl'.ownBlock ≠ some p) : RwIs (w.setCell ⟨p, 3, none⟩ vl') B p vl' vg { x with l := l' } := by
  refine ⟨fun j hj => ?_, fun j hj => by rw [World.frozen?_setCell]; exact h.fs j hj, own_keep ho (one_keeps w _ _) (fun g e e' => hn (by rw [e, e'])), own_keep h.og (one_keeps w _ _) (fun g e e' => h.ng (by rw [e, e'])), hn, h.ng⟩
  by_cases e : j = 3
  · subst e; exact World.cell?_setCell_same _ _ _ (h.cs 3 hj)
  · rw [World.cell?_setCell_other _ _ _ _ (fun q => e (by cases q; rfl)), h.cs j hj]
    match j, hj, e with
    | 0, _, _ => rfl
    | 1, _, _ => rfl
    | 2, _, _ => rfl
    | 4, _, _ => rfl
    | 5, _, _ => rfl
    | 6, _, _ => rfl
    | 7, _, _ => rfl
theorem RwIs.setG (h : RwIs w B p vl vg x) {vg' : Value} {l' : List Nat} (ho : w.ownsRow B 43 1 vg' l'.length (uintsN l')) (hn : vg'.ownBlock ≠ some p) (hl : w.ownsRow B 43 1 vl x.l.length (uintsN x.l)) : RwIs (w.setCell ⟨p, 7, none⟩ vg') B p vl vg' { x with gt := l' } := by
  refine ⟨fun j hj => ?_, fun j hj => by rw [World.frozen?_setCell]; exact h.fs j hj, own_keep hl (one_keeps w _ _) (fun g e e' => h.nl (by rw [e, e'])), own_keep ho (one_keeps w _ _) (fun g e e' => hn (by rw [e, e'])), h.nl, hn⟩
  by_cases e : j = 7
  · subst e; exact World.cell?_setCell_same _ _ _ (h.cs 7 hj)
  · rw [World.cell?_setCell_other _ _ _ _ (fun q => e (by cases q; rfl)), h.cs j hj]
    match j, hj, e with
    | 0, _, _ => rfl
    | 1, _, _ => rfl
    | 2, _, _ => rfl
    | 3, _, _ => rfl
    | 4, _, _ => rfl
    | 5, _, _ => rfl
    | 6, _, _ => rfl
    | 7, _, e => exact absurd rfl e
theorem RwIs.setMv (h : RwIs w B p vl vg x) (n : Nat) : RwIs (w.setCell ⟨p, 4, none⟩ (.int .i64 (n : Int))) B p vl vg { x with mv := n } :=
  h.set 4 (by omega) _ (fun j hj => by match j, hj with | 0, _ => rfl | 1, _ => rfl | 2, _ => rfl | 3, _ => rfl | 4, _ => rfl | 5, _ => rfl | 6, _ => rfl | 7, _ => rfl) rfl rfl
theorem RwIs.setDn (h : RwIs w B p vl vg x) (b : Bool) : RwIs (w.setCell ⟨p, 5, none⟩ (.bool b)) B p vl vg { x with dn := b } :=
  h.set 5 (by omega) _ (fun j hj => by match j, hj with | 0, _ => rfl | 1, _ => rfl | 2, _ => rfl | 3, _ => rfl | 4, _ => rfl | 5, _ => rfl | 6, _ => rfl | 7, _ => rfl) rfl rfl
theorem RwIs.setSn (h : RwIs w B p vl vg x) (n : Nat) : RwIs (w.setCell ⟨p, 6, none⟩ (.int .u64 (n : Int))) B p vl vg { x with sn := n } :=
  h.set 6 (by omega) _ (fun j hj => by match j, hj with | 0, _ => rfl | 1, _ => rfl | 2, _ => rfl | 3, _ => rfl | 4, _ => rfl | 5, _ => rfl | 6, _ => rfl | 7, _ => rfl) rfl rfl
theorem RwIs.setTk (h : RwIs w B p vl vg x) (n : Nat) : RwIs w B p vl vg { x with tk := n } :=
  ⟨fun i hi => by rw [h.cs i hi]; match i, hi with | 0, _ => rfl | 1, _ => rfl | 2, _ => rfl | 3, _ => rfl | 4, _ => rfl | 5, _ => rfl | 6, _ => rfl | 7, _ => rfl, h.fs, h.ol, h.og, h.nl, h.ng⟩
end
/-- Both: a record and somebody at it, apart from each other. -/
structure RcW (w : World) (B m : Nat) (v : Value) (c : Ce) (p : Nat) (vl vg : Value) (x : Wk) : Prop where
  q : RcIs w B m v c
  r : RwIs w B p vl vg x
  a1 : m ≠ p
  a2 : v.ownBlock ≠ some p
  a3 : vl.ownBlock ≠ some m ∧ vg.ownBlock ≠ some m
  a4 : ∀ g, v.ownBlock = some g → vl.ownBlock ≠ some g ∧ vg.ownBlock ≠ some g
  a5 : ∀ g, vl.ownBlock = some g → vg.ownBlock ≠ some g
/-- The blocks that a move may write. -/
def RcO (m : Nat) (v : Value) (p : Nat) (vg : Value) : Nat → Prop := fun k => k = m ∨ v.ownBlock = some k ∨ k = p ∨ vg.ownBlock = some k
section
variable {w w' : World} {B m p : Nat} {v vl vg : Value} {c : Ce} {x : Wk}
theorem RcW.lock (h : RcW w B m v c p vl vg x) (b : Bool) : RcW (w.setCell ⟨m, 0, none⟩ (.bool b)) B m v { c with lk := b } p vl vg x :=
  ⟨h.q.lock b, h.r.keep (one_keeps w _ _) (fun e => h.a1 e.symm) (fun g e e' => h.a3.1 (by rw [e, e'])) (fun g e e' => h.a3.2 (by rw [e, e'])), h.a1, h.a2, h.a3, h.a4, h.a5⟩
theorem RcW.count (h : RcW w B m v c p vl vg x) (n : Nat) : RcW (w.setCell ⟨m, 1, none⟩ (.int .u64 (n : Int))) B m v { c with ct := n } p vl vg x :=
  ⟨h.q.count n, h.r.keep (one_keeps w _ _) (fun e => h.a1 e.symm) (fun g e e' => h.a3.1 (by rw [e, e'])) (fun g e e' => h.a3.2 (by rw [e, e'])), h.a1, h.a2, h.a3, h.a4, h.a5⟩
theorem RcW.word (h : RcW w B m v c p vl vg x) {g : Nat} (hg : v.ownBlock = some g) (i n : Nat) : RcW (w.setCell ⟨g, i, none⟩ (.int .u64 (n : Int))) B m v { c with l := c.l.set i n } p vl vg x :=
  ⟨h.q.word hg i n, h.r.keep (one_keeps w _ _) (fun e => h.a2 (by rw [hg, e])) (fun k e e' => (h.a4 g hg).1 (by rw [e, e'])) (fun k e e' => (h.a4 g hg).2 (by rw [e, e'])), h.a1, h.a2, h.a3, h.a4, h.a5⟩
theorem RcW.own (h : RcW w B m v c p vl vg x) (i : Nat) (u : Value) : RcIs (w.setCell ⟨p, i, none⟩ u) B m v c :=
  h.q.keep (one_keeps w _ _) h.a1 (fun g e e' => h.a2 (by rw [e, e']))
theorem RcW.setMv (h : RcW w B m v c p vl vg x) (n : Nat) : RcW (w.setCell ⟨p, 4, none⟩ (.int .i64 (n : Int))) B m v c p vl vg { x with mv := n } := ⟨h.own _ _, h.r.setMv n, h.a1, h.a2, h.a3, h.a4, h.a5⟩
theorem RcW.setDn (h : RcW w B m v c p vl vg x) (b : Bool) : RcW (w.setCell ⟨p, 5, none⟩ (.bool b)) B m v c p vl vg { x with dn := b } := ⟨h.own _ _, h.r.setDn b, h.a1, h.a2, h.a3, h.a4, h.a5⟩
theorem RcW.setSn (h : RcW w B m v c p vl vg x) (n : Nat) : RcW (w.setCell ⟨p, 6, none⟩ (.int .u64 (n : Int))) B m v c p vl vg { x with sn := n } := ⟨h.own _ _, h.r.setSn n, h.a1, h.a2, h.a3, h.a4, h.a5⟩
theorem RcW.setTk (h : RcW w B m v c p vl vg x) (n : Nat) : RcW w B m v c p vl vg { x with tk := n } := ⟨h.q, h.r.setTk n, h.a1, h.a2, h.a3, h.a4, h.a5⟩
theorem RcW.below (h : RcW w B m v c p vl vg x) (hb : Below w.heap.size w w') : RcW w' B m v c p vl vg x := ⟨h.q.below hb, h.r.below hb, h.a1, h.a2, h.a3, h.a4, h.a5⟩
end
end Go.Proofs.Ytikpphbgjbfddaa
