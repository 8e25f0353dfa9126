/- Parts of the proof: Ld. -/
import Derived.Test.YtfghfbmmaclcnaaGreatJ36
import Derived.Test.YtfghfbmmaclcnaaGreatJ37
import Derived.Test.YtfghfbmmaclcnaaGreatJ38
namespace Go.Proofs.YtfghfbmmaclcnaaGreat
set_option maxRecDepth 20000
open Go.RowKit
section
variable {c : Cf} {s : Hs} {k : Nat}
theorem Gd.new : Gd c (hs0 c dv0) (fun _ => 0) := ⟨fun a ha => by simp [hs0] at ha, fun i => by simp [hs0], fun i hi => absurd rfl hi, fun i hi => rfl⟩
theorem Fk.new : Fk c (hs0 c dv0) (fun _ _ => 0) :=
  ⟨fun p v hp => by simp [hs0] at hp, fun p hp => by simp [hs0] at hp, fun t jb hj => by
    have := jobAt_lt hj
    simp [hs0, dv0] at this, fun y hy => by simp [hs0] at hy, fun y hy => by simp [hs0] at hy, fun p hp => by simp [hs0] at hp⟩
theorem flushS_P (c : Cf) (s : Hs) (p : Int) : (flushS c s p).P = s.P := by
  unfold flushS
  split
  · split <;> rfl
  · rfl
theorem shiftS_P (c : Cf) (s : Hs) (mk kd page : Int) : (shiftS c s mk kd page).P = s.P := by
  unfold shiftS
  split <;> rfl
theorem helpR_P (c : Cf) (s : Hs) : (helpR c s).2.P = s.P := by
  unfold helpR
  split
  · rfl
  split
  · rfl
  split
  · exact shiftS_P _ _ _ _ _
  split
  · split
    · exact flushS_P _ _ _
    · rfl
  split
  · exact shiftS_P _ _ _ _ _
  · rfl
theorem goS_P (c : Cf) (s : Hs) : s.P ≤ (goS c s).P := by
  unfold goS
  split
  · exact Nat.le_refl _
  split
  · rw [helpR_P]; exact Nat.le_refl _
  · exact Nat.le_succ _
theorem stepS_P (c : Cf) (s : Hs) (x : Al) : s.P ≤ (stepS c s x).P :=
  stepS_ind (p := fun S => s.P ≤ S.P) (fun _ => Nat.le_refl _) (fun _ => by unfold turnHS; split; exact Nat.le_refl _; exact goS_P c s) (fun _ => by rw [helpR_P]; exact Nat.le_refl _) (fun _ => by rw [shiftS_P]; exact Nat.le_refl _) (fun _ => by rw [shiftS_P]; exact Nat.le_refl _) (fun _ => by rw [flushS_P]; exact Nat.le_refl _) (fun _ => Nat.le_refl _) (fun _ => Nat.le_refl _) (fun _ => Nat.le_refl _) (fun _ => Nat.le_refl _) (fun _ => Nat.le_refl _) (fun _ => Nat.le_refl _) (fun _ => by
    unfold wordS
    split <;> exact Nat.le_refl _) (fun _ => by unfold closeHS; split; exact Nat.le_refl _; exact goS_P c s) (Nat.le_refl _)
end
section
variable {w w' : World} {o o' : Nat → Nat} {a : Ad} {b : Rd} {c : Cf} {s : Hs} {k : Nat} {T : Nat → Prop}
/-- Both under writes of others. -/
theorem Bt.keep (h : Bt w o a b c s k) (hk : Keeps T w w') (hT : ∀ x, T x → o x = 0) : Bt w' o a b c s k :=
  ⟨h.p.keep hk (fun x h1 h2 => by have := hT x h2; unfold Ow9 at h1; omega) (fun _ _ => rfl) (fun x hx => Nat.lt_of_lt_of_le (h.p.sz x hx) hk.size), h.r.keep hk (fun x h1 h2 => by have := hT x h2; unfold Ow19 at h1; omega) (fun _ _ => rfl) (fun x hx => Nat.lt_of_lt_of_le (h.p.sz x hx) hk.size)⟩
/-- Rows that are read: N slices in block g, of V i j where j < L i; nobody's blocks. -/
structure RwsAt (w : World) (o : Nat → Nat) (g N : Nat) (kd : IntKind) (L : Nat → Nat) (V : Nat → Nat → Int) : Prop where
  og : o g = 0
  lt : g < w.heap.size
  row : ∀ i, i < N → w.frozen? ⟨g, i, none⟩ = false ∧ ∃ ao cap, w.cell? ⟨g, i, none⟩ = some (.slice ao (L i) cap) ∧ ∀ j, j < L i → ∃ q off, ao = some ⟨q, off, none⟩ ∧ w.cell? ⟨q, off + j, none⟩ = some (.int kd (V i j)) ∧ o q = 0 ∧ q ≠ g
variable {g N : Nat} {kd : IntKind} {L : Nat → Nat} {V : Nat → Nat → Int}
theorem RwsAt.keep (h : RwsAt w o g N kd L V) (hk : Keeps (OwX o) w w') (ho : ∀ x, x < w.heap.size → o' x = o x) : RwsAt w' o' g N kd L V := by
  have hg : ¬ OwX o g := fun e => e h.og
  refine ⟨by rw [ho g h.lt]; exact h.og, Nat.lt_of_lt_of_le h.lt hk.size, fun i hi => ?_⟩
  obtain ⟨h0, ao, cap, h1, h2⟩ := h.row i hi
  refine ⟨by rw [hk.frozen h.lt hg]; exact h0, ao, cap, by rw [hk.cell h.lt hg]; exact h1, fun j hj => ?_⟩
  obtain ⟨q, off, e, h3, h4, h5⟩ := h2 j hj
  have hl := World.block_lt_of_cell? w _ h3
  exact ⟨q, off, e, by rw [hk.cell hl (fun e => e h4)]; exact h3, by rw [ho q hl]; exact h4, h5⟩
theorem RwsAt.below (h : RwsAt w o g N kd L V) (hb : Below w.heap.size w w') : RwsAt w' o g N kd L V := h.keep (Below.keeps (S := OwX o) hb) (fun _ _ => rfl)
/-- One row is another one: the block g is written at i, the others below are as they were. -/
theorem RwsAt.setRow (h : RwsAt w o g N kd L V) (hk : Keeps (fun x => x = g) w w') (i : Nat) (hc : ∀ j, j < N → j ≠ i → w'.cell? ⟨g, j, none⟩ = w.cell? ⟨g, j, none⟩) (hf : ∀ j, j < N → w'.frozen? ⟨g, j, none⟩ = w.frozen? ⟨g, j, none⟩)
    {L' : Nat → Nat} {V' : Nat → Nat → Int} (hL : ∀ j, j ≠ i → L' j = L j ∧ ∀ q, q < L j → V' j q = V j q)
    (hr : ∃ ao cap, w'.cell? ⟨g, i, none⟩ = some (.slice ao (L' i) cap) ∧ ∀ j, j < L' i → ∃ q off, ao = some ⟨q, off, none⟩ ∧ w'.cell? ⟨q, off + j, none⟩ = some (.int kd (V' i j)) ∧ o q = 0 ∧ q ≠ g) : RwsAt w' o g N kd L' V' := by
  refine ⟨h.og, Nat.lt_of_lt_of_le h.lt hk.size, fun j hj => ?_⟩
  obtain ⟨h0, ao, cap, h1, h2⟩ := h.row j hj
  refine ⟨by rw [hf j hj]; exact h0, ?_⟩
  by_cases e : j = i
  · subst e; exact hr
  · obtain ⟨e1, e2⟩ := hL j e
    refine ⟨ao, cap, by rw [hc j hj e, e1]; exact h1, fun q hq => ?_⟩
    rw [e1] at hq
    obtain ⟨r, off, e3, h3, h4, h5⟩ := h2 q hq
    exact ⟨r, off, e3, by rw [hk.cell (World.block_lt_of_cell? w _ h3) h5, e2 q hq]; exact h3, h4, h5⟩
end
end Go.Proofs.YtfghfbmmaclcnaaGreat
