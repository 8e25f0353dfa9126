/- Parts of the proof: Le. -/
import Derived.Test.YtfghfbmmaclcnaaGreatJ39
import Derived.Test.YtfghfbmmaclcnaaGreatJ41
import Derived.Deep.RegionHeld3
namespace Go.Proofs.YtfghfbmmaclcnaaGreat
set_option maxRecDepth 20000
open Go.RowKit
theorem Tryz.infoInts : (Tryz.prog.info? 40).map (fun i => (i.zero, i.size, i.bytes)) = some (some (.slice none 0 0), 1, 24) := by kernel_rfl
theorem cf_of {c0 c1 c2 c5 : Int} (h : cfgB c0 c1 c2 c5) : ∃ c : Cf, c0 = c.b ∧ c1 = (c.n : Int) ∧ c2 = (c.sp : Int) ∧ c5 = (c.ns : Int) ∧ CfOk c := by
  obtain ⟨h1, h2, h3, h4⟩ := h
  exact ⟨⟨c0, c1.toNat, c2.toNat, c5.toNat⟩, rfl, by simp only; omega, by simp only; omega, by simp only; omega, ⟨h1, by simp only; omega, by simp only; omega, by simp only; omega⟩⟩
/-- Both, and the rows beside them. -/
structure GB (w : World) (a : Ad) (b : Rd) (c : Cf) (g : Nat) (o : Nat → Nat) (s : Hs) (H L : Nat → Nat) (V : Nat → Nat → Int) (W : World) (k : Nat) : Prop where
  bt : Bt W o a b c s k
  wf : Wf c s k
  gd : Gd c s H
  rw' : RwsAt W o g 8 .i64 L V
  l8 : ∀ j, L j ≤ 8
  ob : ∀ x, o x ≠ 0 → w.heap.size < x
  bw : Below w.heap.size w W
  cl : W.cell? ⟨w.heap.size, 1, none⟩ = some (.int .i64 (c.n : Int))
  gw : w.heap.size < g
/-- The rows tell pages that were in, and not below the head. -/
def SN (s : Hs) (H L : Nat → Nat) (V : Nat → Nat → Int) : Prop := ∀ j q, j < 8 → q < L j → ∃ p : Nat, V j q = (p : Int) ∧ H j ≤ p ∧ p ≤ s.P
def GI (w : World) (a : Ad) (b : Rd) (c : Cf) (g : Nat) (W : World) (k : Nat) : Prop := ∃ o s H L V, GB w a b c g o s H L V W k ∧ SN s H L V
section
variable {w W W' : World} {o : Nat → Nat} {a : Ad} {b : Rd} {c : Cf} {s : Hs} {H L : Nat → Nat} {V : Nat → Nat → Int} {g k : Nat}
theorem GB.below (h : GB w a b c g o s H L V W k) (hb : Below W.heap.size W W') : GB w a b c g o s H L V W' k :=
  ⟨h.bt.below hb, h.wf, h.gd, h.rw'.below hb, h.l8, h.ob, h.bw.trans (hb.mono h.bw.size), (hb.cell (World.block_lt_of_cell? _ _ h.cl)).trans h.cl, h.gw⟩
theorem GI.below (h : GI w a b c g W k) (hb : Below W.heap.size W W') : GI w a b c g W' k := by
  obtain ⟨o, s, H, L, V, h1, h2⟩ := h
  exact ⟨o, s, H, L, V, h1.below hb, h2⟩
theorem GB.more (h : GB w a b c g o s H L V W k) {k' : Nat} (hk : k ≤ k') : GB w a b c g o s H L V W k' := ⟨h.bt.more hk, h.wf.more hk, h.gd, h.rw', h.l8, h.ob, h.bw, h.cl, h.gw⟩
theorem GI.more (h : GI w a b c g W k) {k' : Nat} (hk : k ≤ k') : GI w a b c g W k' := by
  obtain ⟨o, s, H, L, V, h1, h2⟩ := h
  exact ⟨o, s, H, L, V, h1.more hk, h2⟩
theorem GB.step (h : GB w a b c g o s H L V W k) (hc : CfOk c) (x : Al) (hx : AlOk x) (q : Bq W o a b c (stepS c s x) (k + 1) W') : ∃ o', GB w a b c g o' (stepS c s x) (stepH c s x H) L V W' (k + 1) := by
  obtain ⟨o', h1, h2, h3⟩ := q
  have hlt := World.block_lt_of_cell? _ _ h.cl
  have h0 : ¬ OwX o w.heap.size := fun e => by have := h.ob _ e; omega
  refine ⟨o', h1, h.wf.step hc x hx, h.gd.step h.wf x, h.rw'.keep h3 h2, h.l8, fun y hy => ?_, h.bw.trans (h3.below h.bw.size (fun y hy => by have := h.ob y hy; omega)), (h3.cell hlt h0).trans h.cl, h.gw⟩
  by_cases e : y < W.heap.size
  · exact h.ob y (by rw [← h2 y e]; exact hy)
  · have h4 : w.heap.size < W.heap.size := hlt
    omega
theorem SN.step (h : SN s H L V) (x : Al) (e : stepH c s x H = H) : SN (stepS c s x) (stepH c s x H) L V := fun j q hj hq => by
  obtain ⟨p, h1, h2, h3⟩ := h j q hj hq
  exact ⟨p, h1, by rw [e]; exact h2, Nat.le_trans h3 (stepS_P c s x)⟩
theorem stepS_table {x : Al} (e : x.kd = 10 ∨ x.kd = 11) : (stepS c s x).m = s.m ∧ (stepS c s x).now = s.now ∧ (stepS c s x).P = s.P := by
  rcases e with e | e
  · have : stepS c s x = epS c s 1 x.n := by unfold stepS; simp [e]
    rw [this]
    exact ⟨rfl, rfl, rfl⟩
  · have : stepS c s x = epS c s 2 x.n := by unfold stepS; simp [e]
    rw [this]
    exact ⟨rfl, rfl, rfl⟩
theorem stepH_no {x : Al} (e : ¬ ((x.kd = 10 ∨ x.kd = 11) ∧ seenN (stepS c s x) x.n = (stepS c s x).now)) : stepH c s x H = H := by
  unfold stepH
  rw [if_neg]
  rintro ⟨h1, h2, h3⟩
  refine e ⟨h1, ?_⟩
  unfold seenN
  rw [if_neg (by omega), (stepS_table h1).2.1]
  exact h3
/-- A session that sees the epoch of now: it is one, and its head is the one of now. -/
theorem stepH_yes {x : Al} (h1 : x.kd = 10 ∨ x.kd = 11) (h2 : seenN (stepS c s x) x.n = (stepS c s x).now) (hn : 1 ≤ (stepS c s x).now) (ho : ∀ i, c.ns ≤ i → (stepS c s x).v i = 0) (hs : c.ns ≤ 8) : ∃ nn : Nat, x.n = (nn : Int) ∧ nn < 8 ∧ stepH c s x H = updN H nn ((stepS c s x).m 3) := by
  unfold seenN at h2
  have h0 : ¬ x.n < 0 := fun e => by rw [if_pos e] at h2; omega
  rw [if_neg h0] at h2
  refine ⟨x.n.toNat, by omega, ?_, ?_⟩
  · rcases Nat.lt_or_ge x.n.toNat 8 with e | e
    · exact e
    · have := ho x.n.toNat (by omega)
      omega
  · unfold stepH
    rw [(stepS_table h1).2.1] at h2
    rw [if_pos ⟨h1, by omega, h2⟩, (stepS_table h1).1]
/-- The row of one session is made anew. -/
theorem GB.anew (h : GB w a b c g o s H L V W k) (hk : Keeps (fun x => x = g) W W') {i : Nat} (hc : ∀ j, j < 8 → j ≠ i → W'.cell? ⟨g, j, none⟩ = W.cell? ⟨g, j, none⟩) (hf : ∀ j, j < 8 → W'.frozen? ⟨g, j, none⟩ = W.frozen? ⟨g, j, none⟩) (ps : List Int) (hp : ps.length ≤ 8)
    (hr : ∃ ao cap, W'.cell? ⟨g, i, none⟩ = some (.slice ao ps.length cap) ∧ ∀ j, j < ps.length → ∃ q off, ao = some ⟨q, off, none⟩ ∧ W'.cell? ⟨q, off + j, none⟩ = some (.int .i64 (ps.getD j 0)) ∧ W.heap.size ≤ q) :
    GB w a b c g o s H (fun j => if j = i then ps.length else L j) (fun j q => if j = i then ps.getD q 0 else V j q) W' k := by
  have hgl := h.rw'.lt
  have hlt := World.block_lt_of_cell? _ _ h.cl
  have hgw := h.gw
  refine ⟨h.bt.keep hk (fun x e => by rw [e]; exact h.rw'.og), h.wf, h.gd, h.rw'.setRow hk i hc hf (fun j hj => by simp [hj]) ?_, fun j => ?_, h.ob, h.bw.trans (hk.below h.bw.size (fun x e => by omega)), (hk.cell hlt (fun e => by simp only at e; omega)).trans h.cl, h.gw⟩
  · obtain ⟨ao, cap, h1, h2⟩ := hr
    refine ⟨ao, cap, by simpa using h1, fun j hj => ?_⟩
    simp only [if_true] at hj
    obtain ⟨q, off, e, h3, h4⟩ := h2 j hj
    refine ⟨q, off, e, by simpa using h3, ?_, by omega⟩
    by_cases e0 : o q = 0
    · exact e0
    · have := h.bt.p.sz q e0; omega
  · split
    · exact hp
    · exact h.l8 j
end
/-- The row of one session while it grows: the others as they were in Y, this one's blocks are new. -/
structure Gr (Y W : World) (g nn : Nat) (v : Value) (ps : List Int) : Prop where
  kp : Keeps (fun x => x = g) Y W
  oc : ∀ j, j < 8 → j ≠ nn → W.cell? ⟨g, j, none⟩ = Y.cell? ⟨g, j, none⟩
  of : ∀ j, j < 8 → W.frozen? ⟨g, j, none⟩ = Y.frozen? ⟨g, j, none⟩
  cv : W.cell? ⟨g, nn, none⟩ = some v
  ow : W.ownsRow Y.heap.size 3 1 v ps.length (ps.map (Value.int .i64))
section
variable {Y W W' : World} {g nn : Nat} {v : Value} {ps : List Int}
theorem Gr.start (h : Y.cell? ⟨g, nn, none⟩ = some (.slice none 0 0)) : Gr Y Y g nn (.slice none 0 0) [] := ⟨Keeps.refl _ _, fun _ _ _ => rfl, fun _ _ => rfl, h, World.ownsRow_nil _ _ _ _⟩
theorem Gr.lt (h : Gr Y W g nn v ps) : g < W.heap.size := World.block_lt_of_cell? _ _ h.cv
theorem Gr.below (h : Gr Y W g nn v ps) (hb : Below W.heap.size W W') : Gr Y W' g nn v ps :=
  ⟨h.kp.trans (Below.keeps (S := fun x => x = g) hb) (fun _ _ e => e), fun j h1 h2 => by rw [hb.cell h.lt]; exact h.oc j h1 h2, fun j h1 => by rw [hb.frozen h.lt]; exact h.of j h1, (hb.cell h.lt).trans h.cv, own_below h.ow hb⟩
theorem Gr.form (h : Gr Y W g nn v ps) : ∃ ao cap, v = .slice ao ps.length cap ∧ ps.length ≤ cap ∧ cap ≤ 9223372036854775807 ∧ ∀ j, j < ps.length → ∃ q off, ao = some ⟨q, off, none⟩ ∧ W.cell? ⟨q, off + j, none⟩ = some (.int .i64 (ps.getD j 0)) ∧ Y.heap.size ≤ q := by
  have h' := h.ow
  rcases h.ow.2 with ⟨h1, h0⟩ | ⟨q, cap, cur, hv, hq, _, hc, hm, _⟩
  · exact ⟨none, 0, by rw [h1, h0], by omega, by omega, fun j hj => by omega⟩
  · refine ⟨_, _, hv, hc, by unfold maxLen at hm; exact hm, fun j hj => ⟨q, 0, rfl, ?_, hq⟩⟩
    rw [hv] at h'
    rw [Nat.zero_add, h'.cellAt j (by omega), List.getElem?_map, List.getD_eq_getElem?_getD, List.getElem?_eq_getElem hj]
    rfl
/-- One element more. -/
theorem Gr.push (h : Gr Y W g nn v ps) (hg : g < Y.heap.size) (hn : nn < 8) {X w1 : World} (hX : Below W.heap.size W X) (hgr : X.grownBy w1 v.ownBlock) {x : Int} {g' cap' : Nat}
    (ho : w1.ownsRow Y.heap.size 3 1 (.slice (some ⟨g', 0, none⟩) (ps.length + 1) cap') (ps.length + 1) (ps.map (Value.int .i64) ++ [.int .i64 x])) :
    Gr Y (w1.setCell ⟨g, nn, none⟩ (.slice (some ⟨g', 0, none⟩) (ps.length + 1) cap')) g nn (.slice (some ⟨g', 0, none⟩) (ps.length + 1) cap') (ps ++ [x]) ∧ w1.cell? ⟨g, nn, none⟩ = some v ∧ w1.frozen? ⟨g, nn, none⟩ = W.frozen? ⟨g, nn, none⟩ := by
  have hx := h.below hX
  have hvb : ∀ k, v.ownBlock = some k → Y.heap.size ≤ k := fun k e => (h.ow.lt k e).1
  have hne : some g ≠ v.ownBlock := fun e => by have := hvb g e.symm; omega
  have hgl : g < X.heap.size := hx.lt
  have c1 : ∀ j, w1.cell? ⟨g, j, none⟩ = X.cell? ⟨g, j, none⟩ := fun j => hgr.cell_far _ hgl hne
  have f1 : ∀ j, w1.frozen? ⟨g, j, none⟩ = X.frozen? ⟨g, j, none⟩ := fun j => hgr.frozen_far _ hgl hne
  have cv1 : w1.cell? ⟨g, nn, none⟩ = some v := (c1 nn).trans hx.cv
  have hg' : Y.heap.size ≤ g' := (ho.lt g' (by simp [Value.ownBlock])).1
  have k1 : Keeps (fun x => x = g) Y w1 := hx.kp.grown hgr (fun k e hk => by have := hvb k e; omega)
  refine ⟨⟨k1.setCell _ (fun _ => rfl) _, fun j h1 h2 => ?_, fun j h1 => ?_, ?_, ?_⟩, cv1, ?_⟩
  · rw [cell_set_off _ _ _ _ (fun e => h2 e.symm), c1 j]; exact hx.oc j h1 h2
  · rw [World.frozen?_setCell, f1 j]; exact hx.of j h1
  · rw [World.cell?_setCell_same _ _ _ cv1]
  · have k2 : Keeps (fun x => x = g) w1 (w1.setCell ⟨g, nn, none⟩ (.slice (some ⟨g', 0, none⟩) (ps.length + 1) cap')) := (Keeps.refl (fun x => x = g) w1).setCell _ (fun _ => rfl) _
    have := own_keep ho k2 (fun k e e2 => by
      have e3 : g' = k := by simpa [Value.ownBlock] using e
      omega)
    simpa using this
  · rw [f1 nn, hx.of nn hn]
    exact (h.of nn hn).symm
end
end Go.Proofs.YtfghfbmmaclcnaaGreat
