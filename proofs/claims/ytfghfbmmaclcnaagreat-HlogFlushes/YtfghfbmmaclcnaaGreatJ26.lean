/- Parts of the proof: Ua Ub. -/
import Derived.Test.YtfghfbmmaclcnaaGreatJ25
import Derived.Deep.RegionHeld3
namespace Go.Proofs.YtfghfbmmaclcnaaGreat
set_option maxRecDepth 20000
open Go.RowKit
/-- Where the parts of the reference's log lie. -/
structure Rd where
  l : Nat
  t : Nat
  p : Nat
  m : Nat
  e : Nat
  eb : Nat
  d : Nat
  v : Nat
def fyV (y : Fy) : List Value := [.int .i64 y.t, .int .i64 y.p, .bool y.l]
def fysV (l : List Fy) : List Value := l.flatMap fyV
theorem fyV_len (y : Fy) : (fyV y).length = 3 := rfl
theorem fysV_len (l : List Fy) : (fysV l).length = l.length * 3 := flat_len fyV 3 fyV_len l
theorem fysV_snoc (l : List Fy) (y : Fy) : fysV (l ++ [y]) = fysV l ++ [.int .i64 y.t, .int .i64 y.p, .bool y.l] := by unfold fysV; rw [List.flatMap_append]; rfl
/-- The reference's log; o tells whose a block is: 19 its struct, 11 the tail, 12 the buffer, 13 the marks, 14 the table, 15 the list of actions, 16 the device, 17 the row of writes. -/
structure Hr (w : World) (o : Nat → Nat) (a : Rd) (c : Cf) (s : Hs) (k : Nat) : Prop where
  c0 : w.cell? ⟨a.l, 0, none⟩ = some (.pointer (some ⟨a.t, 0, none⟩))
  c1 : w.cell? ⟨a.l, 1, none⟩ = some (.pointer (some ⟨a.p, 0, none⟩))
  c2 : w.cell? ⟨a.l, 2, none⟩ = some (.pointer (some ⟨a.m, 0, none⟩))
  c3 : w.cell? ⟨a.l, 3, none⟩ = some (.pointer (some ⟨a.e, 0, none⟩))
  c4 : w.cell? ⟨a.l, 4, none⟩ = some (.pointer (some ⟨a.d, 0, none⟩))
  c5 : w.cell? ⟨a.l, 5, none⟩ = some (.pointer (some ⟨a.v, 0, none⟩))
  f6 : w.frozen? ⟨a.l, 6, none⟩ = false
  ol : o a.l = 19
  tl : RtIs w a.t (sizeN c.b) c.sp s.P s.O
  ot : o a.t = 11
  pb : ∃ K V vl, RbIs w (fun x => o x = 12) a.p c.n c.b K V vl ∧ Lk c.n (sizeN c.b) s.F K V
  mm : RfIs w a.m s.m
  om : o a.m = 13
  ep : RefAt w a.e a.eb c.ns s.now s.v
  oe : o a.e = 14 ∧ o a.eb = 14
  du : RefW w (fun x => o x = 15) a.d s.due k
  dv : ∃ vi vj, RefD w a.v s.dv vi vj ∧ (∀ q, vi.ownBlock = some q → o q = 16) ∧ ∀ q, vj.ownBlock = some q → o q = 16
  ov : o a.v = 16
  fl : ∃ vf, w.cell? ⟨a.l, 6, none⟩ = some vf ∧ w.ownsRow 0 179 3 vf s.L.length (fysV s.L) ∧ ∀ q, vf.ownBlock = some q → o q = 17
  sz : ∀ x, o x ≠ 0 → x < w.heap.size
section
variable {w w' : World} {o o' : Nat → Nat} {a : Rd} {c : Cf} {s : Hs} {k : Nat} {T : Nat → Prop}
theorem Hr.lt (h : Hr w o a c s k) : a.l < w.heap.size := World.block_lt_of_cell? w _ h.c0
theorem RefAt.keep {m b n now : Nat} {v : Nat → Nat} (h : RefAt w m b n now v) (hk : Keeps T w w') (hm : ¬ T m) (hb : ¬ T b) : RefAt w' m b n now v := by
  have hl : m < w.heap.size := World.block_lt_of_cell? w _ h.c0
  exact ⟨h.ne, by rw [hk.cell hl hm]; exact h.c0, by rw [hk.frozen hl hm]; exact h.f0, by rw [hk.cell hl hm]; exact h.c1, fun i hi => by rw [hk.cell (World.block_lt_of_cell? w _ (h.cs i hi)) hb]; exact h.cs i hi, fun i hi => by rw [hk.frozen (World.block_lt_of_cell? w _ (h.cs i hi)) hb]; exact h.fs i hi⟩
theorem RefW.wider {M S : Nat → Prop} {t n : Nat} {l : List A3} (h : RefW w M t l n) (hS : ∀ x, M x → S x) : RefW w S t l n := by
  obtain ⟨m, z, g, vL, vG, h1, h2, h3⟩ := h
  exact ⟨m, z, g, vL, vG, h1, h2.wider hS, h3⟩
theorem RefW.more {M : Nat → Prop} {t n m : Nat} {l : List A3} (h : RefW w M t l n) (hm : n ≤ m) : RefW w M t l m := by
  obtain ⟨q, z, g, vL, vG, h1, h2, h3⟩ := h
  exact ⟨q, z, g, vL, vG, by omega, h2, h3⟩
/-- One part is another one, the others are kept. -/
theorem Hr.upd (h : Hr w o a c s k) (hk : Keeps T w w') (j : Nat) (hT : ∀ x, x < w.heap.size → T x → o x = j ∨ (j = 17 ∧ x = a.l)) (ho : ∀ x, x < w.heap.size → o' x = o x) (hz : ∀ x, o' x ≠ 0 → x < w'.heap.size) {s' : Hs} {k' : Nat} (hkk : k ≤ k') (hj : j ≠ 19)
    (hl : j ≠ 17 ∨ ((∀ i, i < 6 → w'.cell? ⟨a.l, i, none⟩ = w.cell? ⟨a.l, i, none⟩) ∧ w'.frozen? ⟨a.l, 6, none⟩ = false))
    (g1 : (s'.P = s.P ∧ s'.O = s.O ∧ j ≠ 11) ∨ RtIs w' a.t (sizeN c.b) c.sp s'.P s'.O)
    (g2 : (s'.F = s.F ∧ j ≠ 12) ∨ ∃ K V vl, RbIs w' (fun x => o' x = 12) a.p c.n c.b K V vl ∧ Lk c.n (sizeN c.b) s'.F K V)
    (g3 : (s'.m = s.m ∧ j ≠ 13) ∨ RfIs w' a.m s'.m)
    (g4 : (s'.now = s.now ∧ s'.v = s.v ∧ j ≠ 14) ∨ RefAt w' a.e a.eb c.ns s'.now s'.v)
    (g5 : (s'.due = s.due ∧ j ≠ 15) ∨ RefW w' (fun x => o' x = 15) a.d s'.due k')
    (g6 : (s'.dv = s.dv ∧ j ≠ 16) ∨ ∃ vi vj, RefD w' a.v s'.dv vi vj ∧ (∀ q, vi.ownBlock = some q → o' q = 16) ∧ ∀ q, vj.ownBlock = some q → o' q = 16)
    (g7 : (s'.L = s.L ∧ j ≠ 17) ∨ ∃ vf, w'.cell? ⟨a.l, 6, none⟩ = some vf ∧ w'.ownsRow 0 179 3 vf s'.L.length (fysV s'.L) ∧ ∀ q, vf.ownBlock = some q → o' q = 17) : Hr w' o' a c s' k' := by
  have hlt := h.lt
  have zz : ∀ x, o x ≠ 0 → x < w.heap.size := h.sz
  have oo : ∀ x i, o x = i → i ≠ 0 → o' x = i := fun x i e hi => by rw [ho x (zz x (by omega))]; exact e
  have nn : ∀ x i, o x = i → i ≠ 0 → i ≠ 19 → i ≠ j → ¬ T x := fun x i e hi h19 hij t => by
    rcases hT x (zz x (by omega)) t with e2 | ⟨-, e2⟩
    · omega
    · rw [e2, h.ol] at e; omega
  have ll : ∀ i, i < 6 → w'.cell? ⟨a.l, i, none⟩ = w.cell? ⟨a.l, i, none⟩ := fun i hi => by
    rcases hl with hl | hl
    · exact hk.cell hlt (fun t => by
        rcases hT a.l hlt t with e | ⟨e, -⟩
        · exact hj (by rw [← e, h.ol])
        · exact hl e)
    · exact hl.1 i hi
  have l6 : w'.frozen? ⟨a.l, 6, none⟩ = false := by
    rcases hl with hl | hl
    · rw [hk.frozen hlt (fun t => by
        rcases hT a.l hlt t with e | ⟨e, -⟩
        · exact hj (by rw [← e, h.ol])
        · exact hl e)]
      exact h.f6
    · exact hl.2
  refine ⟨by rw [ll 0 (by omega)]; exact h.c0, by rw [ll 1 (by omega)]; exact h.c1, by rw [ll 2 (by omega)]; exact h.c2, by rw [ll 3 (by omega)]; exact h.c3, by rw [ll 4 (by omega)]; exact h.c4, by rw [ll 5 (by omega)]; exact h.c5, l6, oo _ _ h.ol (by omega), ?_, oo _ _ h.ot (by omega), ?_, ?_, oo _ _ h.om (by omega), ?_, ⟨oo _ _ h.oe.1 (by omega), oo _ _ h.oe.2 (by omega)⟩, ?_, ?_, oo _ _ h.ov (by omega), ?_, hz⟩
  · rcases g1 with ⟨e1, e2, e3⟩ | g
    · rw [e1, e2]; exact h.tl.keep hk (nn _ _ h.ot (by omega) (by omega) (by omega))
    · exact g
  · rcases g2 with ⟨e1, e2⟩ | g
    · obtain ⟨K, V, vl, h1, h2⟩ := h.pb
      rw [e1]
      exact ⟨K, V, vl, (h1.keep hk (fun x e => nn x 12 e (by omega) (by omega) (by omega))).wider (fun x e => oo x 12 e (by omega)), h2⟩
    · exact g
  · rcases g3 with ⟨e1, e2⟩ | g
    · rw [e1]; exact h.mm.keep hk (nn _ _ h.om (by omega) (by omega) (by omega))
    · exact g
  · rcases g4 with ⟨e1, e2, e3⟩ | g
    · rw [e1, e2]; exact h.ep.keep hk (nn _ _ h.oe.1 (by omega) (by omega) (by omega)) (nn _ _ h.oe.2 (by omega) (by omega) (by omega))
    · exact g
  · rcases g5 with ⟨e1, e2⟩ | g
    · rw [e1]; exact ((h.du.keep hk (fun x e => nn x 15 e (by omega) (by omega) (by omega))).wider (fun x e => oo x 15 e (by omega))).more hkk
    · exact g
  · rcases g6 with ⟨e1, e2⟩ | g
    · obtain ⟨vi, vj, h1, h2, h3⟩ := h.dv
      rw [e1]
      exact ⟨vi, vj, h1.keep' hk (nn _ _ h.ov (by omega) (by omega) (by omega)) (fun q e => nn q 16 (h2 q e) (by omega) (by omega) (by omega)) (fun q e => nn q 16 (h3 q e) (by omega) (by omega) (by omega)), fun q e => oo q 16 (h2 q e) (by omega), fun q e => oo q 16 (h3 q e) (by omega)⟩
    · exact g
  · rcases g7 with ⟨e1, e2⟩ | g
    · obtain ⟨vf, h1, h2, h3⟩ := h.fl
      rw [e1]
      refine ⟨vf, ?_, own_keep h2 hk (fun q e => nn q 17 (h3 q e) (by omega) (by omega) (by omega)), fun q e => oo q 17 (h3 q e) (by omega)⟩
      rw [hk.cell hlt (fun t => by
        rcases hT a.l hlt t with e | ⟨e, -⟩
        · exact hj (by rw [← e, h.ol])
        · exact e2 e)]
      exact h1
    · exact g
/-- What the reference has as its own. -/
def Ow19 (o : Nat → Nat) : Nat → Prop := fun x => 11 ≤ o x
theorem Hr.keep (h : Hr w o a c s k) (hk : Keeps T w w') (hT : ∀ x, Ow19 o x → ¬ T x) (ho : ∀ x, x < w.heap.size → o' x = o x) (hz : ∀ x, o' x ≠ 0 → x < w'.heap.size) : Hr w' o' a c s k := by
  have nn : ∀ x i, o x = i → 11 ≤ i → ¬ T x := fun x i e hi => hT x (by unfold Ow19; omega)
  have oo : ∀ x i, o x = i → 11 ≤ i → o' x = i := fun x i e hi => by rw [ho x (h.sz x (by omega))]; exact e
  have hl := h.lt
  have nl := nn _ _ h.ol (by omega)
  obtain ⟨K, V, vl, p1, p2⟩ := h.pb
  obtain ⟨vi, vj, d1, d2, d3⟩ := h.dv
  obtain ⟨vf, q1, q2, q3⟩ := h.fl
  exact ⟨by rw [hk.cell hl nl]; exact h.c0, by rw [hk.cell hl nl]; exact h.c1, by rw [hk.cell hl nl]; exact h.c2, by rw [hk.cell hl nl]; exact h.c3, by rw [hk.cell hl nl]; exact h.c4, by rw [hk.cell hl nl]; exact h.c5, by rw [hk.frozen hl nl]; exact h.f6, oo _ _ h.ol (by omega),
    h.tl.keep hk (nn _ _ h.ot (by omega)), oo _ _ h.ot (by omega), ⟨K, V, vl, (p1.keep hk (fun x e => nn x 12 e (by omega))).wider (fun x e => oo x 12 e (by omega)), p2⟩, h.mm.keep hk (nn _ _ h.om (by omega)), oo _ _ h.om (by omega),
    h.ep.keep hk (nn _ _ h.oe.1 (by omega)) (nn _ _ h.oe.2 (by omega)), ⟨oo _ _ h.oe.1 (by omega), oo _ _ h.oe.2 (by omega)⟩, (h.du.keep hk (fun x e => nn x 15 e (by omega))).wider (fun x e => oo x 15 e (by omega)),
    ⟨vi, vj, d1.keep' hk (nn _ _ h.ov (by omega)) (fun q e => nn q 16 (d2 q e) (by omega)) (fun q e => nn q 16 (d3 q e) (by omega)), fun q e => oo q 16 (d2 q e) (by omega), fun q e => oo q 16 (d3 q e) (by omega)⟩, oo _ _ h.ov (by omega),
    ⟨vf, by rw [hk.cell hl nl]; exact q1, own_keep q2 hk (fun q e => nn q 17 (q3 q e) (by omega)), fun q e => oo q 17 (q3 q e) (by omega)⟩, hz⟩
theorem Hr.below (h : Hr w o a c s k) (hb : Below w.heap.size w w') : Hr w' o a c s k := h.keep (Below.keeps (S := fun _ => False) hb) (fun _ _ => id) (fun _ _ => rfl) (fun x hx => Nat.lt_of_lt_of_le (h.sz x hx) hb.size)
theorem Hr.drew (h : Hr w o a c s k) (m : Nat) : Hr (w.drewN m) o a c s k := h.below (below_drewN (Below.refl _ _) m)
theorem Hr.more (h : Hr w o a c s k) {k' : Nat} (hk : k ≤ k') : Hr w o a c s k' := ⟨h.c0, h.c1, h.c2, h.c3, h.c4, h.c5, h.f6, h.ol, h.tl, h.ot, h.pb, h.mm, h.om, h.ep, h.oe, h.du.more hk, h.dv, h.ov, h.fl, h.sz⟩
/-- o' tells of the old blocks as o, and gives the new ones to the reference, or to nobody. -/
structure ExtR (o o' : Nat → Nat) (w w' : World) : Prop where
  old : ∀ x, x < w.heap.size → o' x = o x
  new : ∀ x, w.heap.size ≤ x → o' x = 0 ∨ 11 ≤ o' x
theorem ExtR.refl (hs : ∀ x, o x ≠ 0 → x < w.heap.size) : ExtR o o w w' := ⟨fun _ _ => rfl, fun x hx => by
  by_cases e : o x = 0
  · exact .inl e
  · have := hs x e; omega⟩
theorem ExtR.trans {o'' : Nat → Nat} {w'' : World} (h : ExtR o o' w w') (g : ExtR o' o'' w' w'') (hs : w.heap.size ≤ w'.heap.size) : ExtR o o'' w w'' := ⟨fun x hx => by rw [g.old x (by omega)]; exact h.old x hx, fun x hx => by
  by_cases e : x < w'.heap.size
  · rw [g.old x e]; exact h.new x hx
  · exact g.new x (by omega)⟩
theorem ExtR.ext {j : Nat} (hs : ∀ x, o x ≠ 0 → x < w.heap.size) (hj : 11 ≤ j) : ExtR o (ext o w w' j) w w' := ⟨fun x hx => ext_old hx, fun x hx => by
  unfold Proofs.YtfghfbmmaclcnaaGreat.ext
  split
  · exact .inr hj
  · by_cases e : o x = 0
    · exact .inl e
    · have := hs x e; omega⟩
/-- What a call of the reference ends with. -/
def Rq19 (w : World) (o : Nat → Nat) (a : Rd) (c : Cf) (s : Hs) (k : Nat) (w' : World) : Prop := ∃ o', Hr w' o' a c s k ∧ ExtR o o' w w' ∧ Keeps (Ow19 o) w w'
theorem Hr.here (h : Hr w o a c s k) : Rq19 w o a c s k w := ⟨o, h, ExtR.refl h.sz, Keeps.refl _ _⟩
theorem Rq19.below (h : Rq19 w o a c s k w') {w'' : World} (hb : Below w'.heap.size w' w'') : Rq19 w o a c s k w'' := by
  obtain ⟨o', h1, h2, h3⟩ := h
  exact ⟨o', h1.below hb, ⟨h2.old, h2.new⟩, h3.trans (Below.keeps (S := Ow19 o) hb) (fun _ _ e => e)⟩
theorem Rq19.trans {s' : Hs} {k' : Nat} {w'' : World} {o' : Nat → Nat} (h2 : ExtR o o' w w') (h3 : Keeps (Ow19 o) w w') (q : Rq19 w' o' a c s' k' w'') : Rq19 w o a c s' k' w'' := by
  obtain ⟨o'', g1, g2, g3⟩ := q
  refine ⟨o'', g1, h2.trans g2 h3.size, h3.trans g3 (fun x hx e => ?_)⟩
  unfold Ow19 at *
  rw [h2.old x hx] at e
  exact e
theorem Rq19.after (h : Hr w o a c s k) {s' : Hs} {k' : Nat} {w'' : World} (hb : Below w.heap.size w w') (q : Rq19 w' o a c s' k' w'') : Rq19 w o a c s' k' w'' :=
  Rq19.trans (o' := o) (ExtR.refl h.sz) (Below.keeps hb) q
theorem Rq19.more (h : Rq19 w o a c s k w') {k' : Nat} (hk : k ≤ k') : Rq19 w o a c s k' w' := by
  obtain ⟨o', h1, h2, h3⟩ := h
  exact ⟨o', h1.more hk, h2, h3⟩
theorem Hr.put (h : Hr w o a c s k) (hk : Keeps T w w') (j : Nat) (hj : 11 ≤ j ∧ j ≤ 16) (hT : ∀ x, x < w.heap.size → T x → o x = j) {s' : Hs} {k' : Nat} (hkk : k ≤ k')
    (g1 : (s'.P = s.P ∧ s'.O = s.O ∧ j ≠ 11) ∨ RtIs w' a.t (sizeN c.b) c.sp s'.P s'.O)
    (g2 : (s'.F = s.F ∧ j ≠ 12) ∨ ∃ K V vl, RbIs w' (fun x => ext o w w' j x = 12) a.p c.n c.b K V vl ∧ Lk c.n (sizeN c.b) s'.F K V)
    (g3 : (s'.m = s.m ∧ j ≠ 13) ∨ RfIs w' a.m s'.m)
    (g4 : (s'.now = s.now ∧ s'.v = s.v ∧ j ≠ 14) ∨ RefAt w' a.e a.eb c.ns s'.now s'.v)
    (g5 : (s'.due = s.due ∧ j ≠ 15) ∨ RefW w' (fun x => ext o w w' j x = 15) a.d s'.due k')
    (g6 : (s'.dv = s.dv ∧ j ≠ 16) ∨ ∃ vi vj, RefD w' a.v s'.dv vi vj ∧ (∀ q, vi.ownBlock = some q → ext o w w' j q = 16) ∧ ∀ q, vj.ownBlock = some q → ext o w w' j q = 16)
    (g7 : s'.L = s.L) : Rq19 w o a c s' k' w' :=
  ⟨ext o w w' j, h.upd hk j (fun x hx t => .inl (hT x hx t)) (fun x hx => ext_old hx) (ext_sz h.sz hk.size) hkk (by omega) (.inl (by omega)) g1 g2 g3 g4 g5 g6 (.inl ⟨g7, by omega⟩), ExtR.ext h.sz (by omega), hk.wider (fun x hx t => by unfold Ow19; have := hT x hx t; omega)⟩
theorem Hr.setTl (h : Hr w o a c s k) (hk : Keeps (fun x => x = a.t) w w') {P O : Nat} (ht : RtIs w' a.t (sizeN c.b) c.sp P O) : Rq19 w o a c { s with P := P, O := O } k w' :=
  h.put (s' := { s with P := P, O := O }) hk 11 (by omega) (fun x _ t => by rw [t]; exact h.ot) (Nat.le_refl _) (.inr ht) (.inl ⟨rfl, by omega⟩) (.inl ⟨rfl, by omega⟩) (.inl ⟨rfl, rfl, by omega⟩) (.inl ⟨rfl, by omega⟩) (.inl ⟨rfl, by omega⟩) rfl
theorem Hr.setBf (h : Hr w o a c s k) (hk : Keeps (fun x => o x = 12) w w') {F : Nat → Option Pg} {K : List (Nat × Nat)} {V : Nat → Nat → Int} {vl : Value} (hp : RbIs w' (More (fun x => o x = 12) w w') a.p c.n c.b K V vl) (hL : Lk c.n (sizeN c.b) F K V) : Rq19 w o a c { s with F := F } k w' :=
  h.put (s' := { s with F := F }) hk 12 (by omega) (fun x _ t => t) (Nat.le_refl _) (.inl ⟨rfl, rfl, by omega⟩) (.inr ⟨K, V, vl, hp.wider (fun x e => ext_more e h.sz (by omega)), hL⟩) (.inl ⟨rfl, by omega⟩) (.inl ⟨rfl, rfl, by omega⟩) (.inl ⟨rfl, by omega⟩) (.inl ⟨rfl, by omega⟩) rfl
theorem Hr.setMk (h : Hr w o a c s k) (hk : Keeps (fun x => x = a.m) w w') {m : Nat → Nat} (hm : RfIs w' a.m m) : Rq19 w o a c { s with m := m } k w' :=
  h.put (s' := { s with m := m }) hk 13 (by omega) (fun x _ t => by rw [t]; exact h.om) (Nat.le_refl _) (.inl ⟨rfl, rfl, by omega⟩) (.inl ⟨rfl, by omega⟩) (.inr hm) (.inl ⟨rfl, rfl, by omega⟩) (.inl ⟨rfl, by omega⟩) (.inl ⟨rfl, by omega⟩) rfl
theorem Hr.setEp (h : Hr w o a c s k) (hk : Keeps (fun x => x = a.e ∨ x = a.eb) w w') {now : Nat} {v : Nat → Nat} (ht : RefAt w' a.e a.eb c.ns now v) : Rq19 w o a c { s with now := now, v := v } k w' :=
  h.put (s' := { s with now := now, v := v }) hk 14 (by omega) (fun x _ t => by rcases t with rfl | rfl; exact h.oe.1; exact h.oe.2) (Nat.le_refl _) (.inl ⟨rfl, rfl, by omega⟩) (.inl ⟨rfl, by omega⟩) (.inl ⟨rfl, by omega⟩) (.inr ht) (.inl ⟨rfl, by omega⟩) (.inl ⟨rfl, by omega⟩) rfl
theorem Hr.setDu (h : Hr w o a c s k) (hk : Keeps (fun x => o x = 15) w w') {l : List A3} {k' : Nat} (hd : RefW w' (More (fun x => o x = 15) w w') a.d l k') (hkk : k ≤ k') : Rq19 w o a c { s with due := l } k' w' :=
  h.put (s' := { s with due := l }) hk 15 (by omega) (fun x _ t => t) hkk (.inl ⟨rfl, rfl, by omega⟩) (.inl ⟨rfl, by omega⟩) (.inl ⟨rfl, by omega⟩) (.inl ⟨rfl, rfl, by omega⟩) (.inr (hd.wider (fun x e => ext_more e h.sz (by omega)))) (.inl ⟨rfl, by omega⟩) rfl
theorem Hr.setDv (h : Hr w o a c s k) {vi vj vi' vj' : Value} (h1 : ∀ q, vi.ownBlock = some q → o q = 16) (h2 : ∀ q, vj.ownBlock = some q → o q = 16) (hk : Keeps (RS a.v vj) w w') {d : Dv} (hd : RefD w' a.v d vi' vj')
    (n1 : ∀ q, vi'.ownBlock = some q → vi.ownBlock = some q ∨ w.heap.size ≤ q) (n2 : ∀ q, vj'.ownBlock = some q → vj.ownBlock = some q ∨ w.heap.size ≤ q) : Rq19 w o a c { s with dv := d } k w' := by
  have key : ∀ (v v' : Value), (∀ q, v.ownBlock = some q → o q = 16) → (∀ q, v'.ownBlock = some q → v.ownBlock = some q ∨ w.heap.size ≤ q) → (∀ q, v'.ownBlock = some q → q < w'.heap.size) → ∀ q, v'.ownBlock = some q → ext o w w' 16 q = 16 := fun v v' g1 g2 g3 q e => by
    rcases g2 q e with g | g
    · exact ext_more (.inl (g1 q g)) h.sz (by omega)
    · exact ext_more (.inr ⟨g, g3 q e⟩) h.sz (by omega)
  exact h.put (s' := { s with dv := d }) hk 16 (by omega) (fun x _ t => by rcases t with rfl | t; exact h.ov; exact h2 x t) (Nat.le_refl _) (.inl ⟨rfl, rfl, by omega⟩) (.inl ⟨rfl, by omega⟩) (.inl ⟨rfl, by omega⟩) (.inl ⟨rfl, rfl, by omega⟩) (.inl ⟨rfl, by omega⟩)
    (.inr ⟨vi', vj', hd, key vi vi' h1 n1 (fun q e => (hd.gi e).2), key vj vj' h2 n2 (fun q e => (hd.gj e).2)⟩) rfl
end
end Go.Proofs.YtfghfbmmaclcnaaGreat
namespace Go.Proofs.YtfghfbmmaclcnaaGreat
set_option maxRecDepth 20000
open Go.RowKit
def getF (l : List Fy) (k : Nat) : Fy := l.getD k ⟨0, 0, false⟩
theorem getF_some {l : List Fy} {k : Nat} (h : k < l.length) : l[k]? = some (getF l k) := by simp [getF, List.getD_eq_getElem?_getD, h]
theorem getF_take {l : List Fy} {k : Nat} (h : k < l.length) : l.take (k + 1) = l.take k ++ [getF l k] := by
  rw [List.take_add_one, getF_some h]; rfl
section
variable {w : World} {o : Nat → Nat} {a : Rd} {c : Cf} {s : Hs} {k : Nat}
/-- The row of writes, as a slice. -/
theorem Hr.fly (h : Hr w o a c s k) : ∃ ao cap, w.cell? ⟨a.l, 6, none⟩ = some (.slice ao s.L.length cap) ∧ s.L.length ≤ cap ∧ cap ≤ 9223372036854775807 ∧ ∀ i, i < s.L.length → ∃ g, ao = some ⟨g, 0, none⟩ ∧ o g = 17 ∧
    w.cell? ⟨g, i * 3, none⟩ = some (.int .i64 (getF s.L i).t) ∧ w.cell? ⟨g, i * 3 + 1, none⟩ = some (.int .i64 (getF s.L i).p) ∧ w.cell? ⟨g, i * 3 + 2, none⟩ = some (.bool (getF s.L i).l) ∧ w.frozen? ⟨g, i * 3 + 2, none⟩ = false := by
  obtain ⟨vf, h1, h2, h3⟩ := h.fl
  obtain ⟨ao, cap, rfl, q1, q2, q3⟩ := own_slice h2
  refine ⟨ao, cap, h1, q1, q2, fun i hi => ?_⟩
  have hg : ∀ cc, cc < 3 → (fysV s.L)[i * 3 + cc]? = (fyV (getF s.L i))[cc]? := fun cc hcc => flat_get fyV 3 fyV_len s.L i cc _ (getF_some hi) hcc
  have e0 := hg 0 (by omega)
  have e1 := hg 1 (by omega)
  have e2 := hg 2 (by omega)
  obtain ⟨g, r1, r2, r3, -⟩ := q3 _ _ e0
  obtain ⟨g', t1, -, t3, -⟩ := q3 _ _ e1
  obtain ⟨g'', u1, -, u3, u4⟩ := q3 _ _ e2
  rw [r1] at t1 u1
  cases t1
  cases u1
  rw [Nat.add_zero] at r3
  exact ⟨g, r1, h3 g r2, r3, t3, u3, u4⟩
theorem rl_over (h : Hr w o a c s k) : Calls Tryz.prog 107 #[.pointer (some ⟨a.l, 0, none⟩)] w fun e w' => e = .returned (.bool (decide (sizeN c.b < s.O))) ∧ Below w.heap.size w w' := by
  have c0 := h.c0
  have t0 := h.tl.c0
  have t3 := h.tl.c3
  clear h
  generalize sizeN c.b = S at *
  generalize s.O = O at *
  go_enter Tryz.func107, Tryz.ntmps107
  go_wp2
  go_quiet (fail)
  go_wp2
  go_ret
  exact ⟨ret_bool (by simp), below_drewN (Below.refl _ _) _⟩
theorem rl_need (h : Hr w o a c s k) (hP : s.P < 64) (hn : c.n ≤ 8) (nd : Nat) (hnd : nd = needN c s) : Calls Tryz.prog 108 #[.pointer (some ⟨a.l, 0, none⟩)] w fun e w' => e = .returned (.int .i64 (nd : Int)) ∧ Below w.heap.size w w' := by
  have c0 := h.c0
  have c1 := h.c1
  have t2 := h.tl.c2
  obtain ⟨K, V, vl, hp, -⟩ := h.pb
  have p1 := hp.c1
  clear h hp
  unfold needN at hnd
  generalize s.P = P at *
  generalize c.n = n at *
  have w1 : IntKind.i64.wrap ((P : Int) + 1) = (P : Int) + 1 := i64_small (by omega) (by omega)
  have w2 : IntKind.i64.wrap ((P : Int) + 1 - (n : Int)) = (P : Int) + 1 - (n : Int) := i64_small (by omega) (by omega)
  obtain ⟨q, hq⟩ : ∃ q, (P : Int) + 1 - (n : Int) + 1 = q := ⟨_, rfl⟩
  have w3 : IntKind.i64.wrap ((P : Int) + 1 - (n : Int) + 1) = q := by rw [i64_small (by omega) (by omega), hq]
  by_cases hlt : q < 0
  · have hz : nd = 0 := by omega
    subst hz
    have hlt' : decide (q < 0) = true := decide_eq_true hlt
    clear hq hnd
    go_enter Tryz.func108, Tryz.ntmps108
    go_wp2
    go_quiet (fail)
    go_wp2
    go_ret
    exact ⟨rfl, below_drewN (Below.refl _ _) _⟩
  · have hz : (nd : Int) = q := by omega
    rw [hz]
    have hlt' : decide (q < 0) = false := decide_eq_false hlt
    clear hq hnd hz
    go_enter Tryz.func108, Tryz.ntmps108
    go_wp2
    go_quiet (fail)
    go_wp2
    go_ret
    exact ⟨rfl, below_drewN (Below.refl _ _) _⟩
theorem rl_is (h : Hr w o a c s k) (hlen : s.L.length ≤ 1000) (p : Int) (l : Bool) : Calls Tryz.prog 111 #[.pointer (some ⟨a.l, 0, none⟩), .int .i64 p, .bool l] w fun e w' => e = .returned (.bool (isL s.L p l)) ∧ Below w.heap.size w w' := by
  obtain ⟨ao, cap, c6, -, -, hcl⟩ := h.fly
  have HC := hide hcl
  obtain ⟨B, hB⟩ : ∃ B, isL s.L p l = B := ⟨_, rfl⟩
  rw [hB]
  have HY : Hid (∀ i, i < s.L.length → (getF s.L i).p = p → (getF s.L i).l = l → B = true) := fun i hi h1 h2 => by
    rw [← hB]; exact isL_iff.2 ⟨getF s.L i, List.mem_of_getElem? (getF_some hi), h1, h2⟩
  have HN : Hid ((∀ i, i < s.L.length → ¬ ((getF s.L i).p = p ∧ (getF s.L i).l = l)) → B = false) := fun hn => by
    rw [← hB]
    cases e : isL s.L p l with
    | false => rfl
    | true =>
      obtain ⟨y, hy, h1, h2⟩ := isL_iff.1 e
      obtain ⟨i, hi, e2⟩ := List.mem_iff_getElem.1 hy
      have e3 : getF s.L i = y := by rw [← e2]; simp [getF, List.getD_eq_getElem?_getD, hi]
      exact absurd ⟨by rw [e3]; exact h1, by rw [e3]; exact h2⟩ (hn i hi)
  clear hcl hB h
  generalize hNN : s.L.length = N at *
  go_enter Tryz.func111, Tryz.ntmps111
  go_wp2
  go_loopw [7] (fun v wr => ∃ j : Nat, j ≤ N ∧ v = .int .i64 j ∧ Hid (∀ i, i < j → ¬ ((getF s.L i).p = p ∧ (getF s.L i).l = l)) ∧ ∃ q, wr = w.drewN q) (fun v _ => N - (intOf v).toNat)
  case atStart => exact ⟨0, Nat.zero_le _, rfl, fun i hi => by omega, 0, rfl⟩
  case round =>
    obtain ⟨j, hj, rfl, hno, q, rfl⟩ := hrel
    by_cases hlt : j < N
    · obtain ⟨g, rfl, -, e0, e1, e2, -⟩ := HC.out j hlt
      have hY := HY.out j hlt
      have HK : Hid (¬ ((getF s.L j).p = p ∧ (getF s.L j).l = l) → ∀ i, i < j + 1 → ¬ ((getF s.L i).p = p ∧ (getF s.L i).l = l)) := fun h1 i hi => by
        by_cases e : i = j
        · subst e; exact h1
        · exact hno.out i (by omega)
      generalize getF s.L j = y at *
      obtain ⟨yt, yp, yl⟩ := y
      simp only at e0 e1 e2 hY HK
      clear HC HN HY hno
      by_cases h1 : yp = p
      · subst h1
        by_cases h2 : yl = l
        · subst h2
          have hb := hY rfl rfl
          subst hb
          clear HK hY
          go_wp2
          go_ret
          exact ⟨rfl, below_drewN (Below.refl _ _) _⟩
        · have h2' : (yl == l) = false := by simpa using h2
          have HKK := hide (HK.out (fun e => h2 e.2))
          clear HK hY h2
          go_wp2
          go_roundw
          case rel => exact ⟨j + 1, by omega, by go_num, HKK.out, _, rfl⟩
          case measure => simp [intOf]; omega
      · have h1' : (yp == p) = false := by simpa using h1
        have HKK := hide (HK.out (fun e => h1 e.1))
        clear HK hY h1
        go_wp2
        go_roundw
        case rel => exact ⟨j + 1, by omega, by go_num, HKK.out, _, rfl⟩
        case measure => simp [intOf]; omega
    · have ej : j = N := by omega
      subst ej
      have hb := HN.out (fun i hi => hno.out i (by omega))
      subst hb
      clear HC HN HY hno
      go_wp2
      go_ret
      exact ⟨rfl, below_drewN (Below.refl _ _) _⟩
end
end Go.Proofs.YtfghfbmmaclcnaaGreat
