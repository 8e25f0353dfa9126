/- Lists of actions as rows of memory; what is kept of a world when only some blocks are written. -/
import Derived.Test.YtodkbhboapledaaW0
import Derived.Deep.AppendLies
import Derived.Deep.RegionHeld3
import Derived.Deep.RegionLaw
namespace Go.Proofs.Ytodkbhboapledaa
open Go.RowKit
/-- An action. -/
structure A3 where
  e : Int
  k : Int
  p : Int
instance : Inhabited A3 := ⟨⟨0, 0, 0⟩⟩
def A3.cells (a : A3) : List Value := [.int .u64 a.e, .int .i64 a.k, .int .i64 a.p]
def A3.val (a : A3) : Value := .agg #[.int .u64 a.e, .int .i64 a.k, .int .i64 a.p]
def actsV (l : List A3) : List Value := l.flatMap A3.cells
theorem actsV_length (l : List A3) : (actsV l).length = l.length * 3 := by
  induction l with
  | nil => rfl
  | cons a l ih => simp [actsV, A3.cells] at ih ⊢; omega
theorem actsV_snoc (l : List A3) (a : A3) : actsV (l ++ [a]) = actsV l ++ [.int .u64 a.e, .int .i64 a.k, .int .i64 a.p] := by simp [actsV, A3.cells]
def getL (l : List A3) (j : Nat) : A3 := l.getD j ⟨0, 0, 0⟩
theorem actsV_get (l : List A3) (j : Nat) (h : j < l.length) :
    (actsV l)[j * 3]? = some (.int .u64 (getL l j).e) ∧ (actsV l)[j * 3 + 1]? = some (.int .i64 (getL l j).k) ∧ (actsV l)[j * 3 + 2]? = some (.int .i64 (getL l j).p) := by
  induction l generalizing j with
  | nil => simp at h
  | cons a l ih =>
    match j with
    | 0 => simp [actsV, A3.cells, getL]
    | j + 1 =>
      have := ih j (by simpa using h)
      have e : actsV (a :: l) = .int .u64 a.e :: .int .i64 a.k :: .int .i64 a.p :: actsV l := rfl
      have g : getL (a :: l) (j + 1) = getL l j := by simp [getL]
      rw [e, g, show (j + 1) * 3 = j * 3 + 1 + 1 + 1 by omega]
      simpa using this
theorem getL_take (l : List A3) (k : Nat) (h : k < l.length) : l.take (k + 1) = l.take k ++ [getL l k] := by
  rw [List.take_succ_eq_append_getElem h]; simp [getL, List.getD_eq_getElem?_getD, h]
/-- A slice of actions that is read. -/
def As (w : World) (ao : Option Addr) (n : Nat) (z : Nat → A3) : Prop :=
  ∀ j, j < n → ∃ b off, ao = some ⟨b, off, none⟩ ∧ w.cell? ⟨b, off + j * 3, none⟩ = some (.int .u64 (z j).e) ∧ w.cell? ⟨b, off + j * 3 + 1, none⟩ = some (.int .i64 (z j).k) ∧ w.cell? ⟨b, off + j * 3 + 2, none⟩ = some (.int .i64 (z j).p)
theorem As.drew {w : World} {ao : Option Addr} {n : Nat} {z : Nat → A3} (h : As w ao n z) (m : Nat) : As (w.drewN m) ao n z := h
/-- Of the blocks that were there, those outside S are as they were. -/
structure Keeps (S : Nat → Prop) (w w' : World) : Prop where
  os : w'.os = w.os
  tape : w'.tape = w.tape
  output : w'.output = w.output
  size : w.heap.size ≤ w'.heap.size
  block : ∀ k, k < w.heap.size → ¬ S k → w'.heap[k]? = w.heap[k]?
theorem Keeps.refl (S : Nat → Prop) (w : World) : Keeps S w w := ⟨rfl, rfl, rfl, Nat.le_refl _, fun _ _ _ => rfl⟩
theorem Keeps.trans {S T : Nat → Prop} {a b c : World} (h : Keeps S a b) (k : Keeps T b c) (hT : ∀ i, i < a.heap.size → T i → S i) : Keeps S a c :=
  ⟨k.os.trans h.os, k.tape.trans h.tape, k.output.trans h.output, Nat.le_trans h.size k.size, fun i hi ho => (k.block i (Nat.lt_of_lt_of_le hi h.size) (fun t => ho (hT i hi t))).trans (h.block i hi ho)⟩
theorem Keeps.wider {S T : Nat → Prop} {a b : World} (h : Keeps S a b) (hT : ∀ i, i < a.heap.size → S i → T i) : Keeps T a b :=
  ⟨h.os, h.tape, h.output, h.size, fun i hi ho => h.block i hi (fun t => ho (hT i hi t))⟩
theorem Below.keeps {S : Nat → Prop} {w w' : World} (h : Below w.heap.size w w') : Keeps S w w' := ⟨h.os, h.tape, h.output, h.size, fun k hk _ => h.block k hk⟩
theorem Keeps.below {S : Nat → Prop} {w w' : World} {B : Nat} (h : Keeps S w w') (hB : B ≤ w.heap.size) (hS : ∀ k, S k → B ≤ k) : Below B w w' :=
  ⟨h.os, h.tape, h.output, h.size, fun k hk => h.block k (Nat.lt_of_lt_of_le hk hB) (fun s => by have := hS k s; omega)⟩
theorem Keeps.drewN {S : Nat → Prop} {w w' : World} (h : Keeps S w w') (k : Nat) : Keeps S w (w'.drewN k) := h.trans (Below.keeps (S := S) (below_drewN (Below.refl _ _) k)) (fun _ _ t => t)
theorem Keeps.alloc {S : Nat → Prop} {w w' : World} (h : Keeps S w w') (o : Obj) : Keeps S w (w'.alloc o) := h.trans (Below.keeps (S := S) ((Below.refl _ w').alloc (Nat.le_refl _) o)) (fun _ _ t => t)
theorem Keeps.setCell {S : Nat → Prop} {w w' : World} (h : Keeps S w w') (p : Addr) (hp : p.block < w.heap.size → S p.block) (u : Value) : Keeps S w (w'.setCell p u) :=
  ⟨h.os, h.tape, h.output, by simpa [World.setCell] using h.size, fun k hk ho => by
    rw [Below.heap_setCell _ _ _ _ (fun e => ho (by subst e; exact hp hk))]; exact h.block k hk ho⟩
theorem Keeps.grown {S : Nat → Prop} {w w' w1 : World} {row : Option Nat} (h : Keeps S w w') (hg : w'.grownBy w1 row) (hr : ∀ k, row = some k → k < w.heap.size → S k) : Keeps S w w1 :=
  ⟨hg.os.trans h.os, hg.tape.trans h.tape, hg.output.trans h.output, Nat.le_trans h.size hg.size, fun k hk ho => by
    rw [hg.block k (Nat.lt_of_lt_of_le hk h.size) (fun e => ho (hr k e.symm hk))]; exact h.block k hk ho⟩
theorem Keeps.cell {S : Nat → Prop} {w w' : World} (h : Keeps S w w') {p : Addr} (hl : p.block < w.heap.size) (hp : ¬ S p.block) : w'.cell? p = w.cell? p := World.cell?_of_block (w := w) (h.block p.block hl hp)
theorem Keeps.frozen {S : Nat → Prop} {w w' : World} (h : Keeps S w w') {p : Addr} (hl : p.block < w.heap.size) (hp : ¬ S p.block) : w'.frozen? p = w.frozen? p := World.frozen?_of_block (w := w) (h.block p.block hl hp)
theorem As.keep {w w' : World} {ao : Option Addr} {n : Nat} {z : Nat → A3} {S : Nat → Prop} (h : As w ao n z) (hk : Keeps S w w') (hS : 0 < n → ∀ g off, ao = some ⟨g, off, none⟩ → ¬ S g) : As w' ao n z := by
  intro j hj
  obtain ⟨b, off, h1, h2, h3, h4⟩ := h j hj
  have hl : b < w.heap.size := World.block_lt_of_cell? w _ h2
  have hs := hS (by omega) b off h1
  exact ⟨b, off, h1, by rw [hk.cell hl hs]; exact h2, by rw [hk.cell hl hs]; exact h3, by rw [hk.cell hl hs]; exact h4⟩
theorem As.below {w w' : World} {ao : Option Addr} {n : Nat} {z : Nat → A3} (h : As w ao n z) (hb : Below w.heap.size w w') : As w' ao n z := h.keep (Below.keeps (S := fun _ => False) hb) (fun _ _ _ _ => id)
theorem own_keep {w w' : World} {base : Nat} {e : TypeId} {size : Nat} {v : Value} {n : Nat} {xs : List Value} {S : Nat → Prop} (h : w.ownsRow base e size v n xs) (hk : Keeps S w w') (hS : ∀ g, v.ownBlock = some g → ¬ S g) : w'.ownsRow base e size v n xs := by
  obtain ⟨h1, h2⟩ := h
  refine ⟨h1, ?_⟩
  rcases h2 with h2 | ⟨g, cap, cur, hv, hg, hh, r⟩
  · exact .inl h2
  · exact .inr ⟨g, cap, cur, hv, hg, by rw [hk.block g (Array.getElem?_eq_some_iff.1 hh).1 (hS g (by rw [hv]; rfl))]; exact hh, r⟩
/-- A row of actions that is owned. -/
def Own3 (w : World) (v : Value) (l : List A3) : Prop := w.ownsRow 0 33 3 v l.length (actsV l)
theorem Own3.form {w : World} {v : Value} {l : List A3} (h : Own3 w v l) : ∃ ao cap, v = .slice ao l.length cap ∧ As w ao l.length (getL l) ∧ (∀ g off, ao = some ⟨g, off, none⟩ → v.ownBlock = some g) ∧ l.length ≤ cap ∧ cap ≤ 9223372036854775807 := by
  have h' := h
  rcases h.2 with ⟨h1, h0⟩ | ⟨g, cap, cur, hv, _, hg, hc, hm, _⟩
  · exact ⟨none, 0, by rw [h1, h0], fun j hj => by omega, fun g off e => by simp at e, by omega, by omega⟩
  · refine ⟨_, _, hv, fun j hj => ⟨g, 0, rfl, ?_⟩, fun g' off e => ?_, hc, by unfold maxLen at hm; exact hm⟩
    · have hcell := h'.cells (g := g) (by rw [hv]; rfl)
      have hadd : ∀ i, (⟨g, 0, none⟩ : Addr).add i = ⟨g, i, none⟩ := fun i => by unfold Addr.add; split <;> simp_all
      obtain ⟨g1, g2, g3⟩ := actsV_get l j hj
      have c1 := hcell _ _ g1
      have c2 := hcell _ _ g2
      have c3 := hcell _ _ g3
      rw [hadd] at c1 c2 c3
      rw [Nat.zero_add]
      exact ⟨c1, c2, c3⟩
    · simp at e; rw [hv]; simp [Value.ownBlock, e]
theorem Own3.nil (w : World) : Own3 w (.slice none 0 0) [] := World.ownsRow_nil w 0 _ 3
theorem Own3.keep {w w' : World} {v : Value} {l : List A3} {S : Nat → Prop} (h : Own3 w v l) (hk : Keeps S w w') (hS : ∀ g, v.ownBlock = some g → ¬ S g) : Own3 w' v l := own_keep h hk hS
theorem Own3.below {w w' : World} {v : Value} {l : List A3} (h : Own3 w v l) (hb : Below w.heap.size w w') : Own3 w' v l := own_below h hb
theorem Own3.drew {w : World} {v : Value} {l : List A3} (h : Own3 w v l) (m : Nat) : Own3 (w.drewN m) v l := h.below (below_drewN (Below.refl _ _) m)
theorem three_ints {a b c : Int} : ∀ u ∈ [Value.int .u64 a, Value.int .i64 b, Value.int .i64 c], u.oneCell' = true := by
  intro u hu; simp at hu; rcases hu with rfl | rfl | rfl <;> rfl
theorem cell_three (w : World) (a b c : Value) (t : TypeId) : ∀ j u, [a, b, c][j]? = some u → (w.alloc (.cells #[a, b, c] t)).cell? ((⟨w.heap.size, 0, none⟩ : Addr).add j) = some u := by
  intro j u hj
  match j, hj with
  | 0, hj => simp at hj; subst hj; simp [Addr.add]
  | 1, hj => simp at hj; subst hj; simp [Addr.add]
  | 2, hj => simp at hj; subst hj; simp [Addr.add]
theorem Try.infoAct : (Try.prog.info? 33).map (fun i => (i.zero, i.size, i.bytes)) = some (some (.agg #[.int .u64 0, .int .i64 0, .int .i64 0]), 3, 24) := by kernel_rfl
/-- S, and the blocks that came between. -/
def More (S : Nat → Prop) (w w' : World) : Nat → Prop := fun k => S k ∨ (w.heap.size ≤ k ∧ k < w'.heap.size)
/-- The program's list, in block t, with its row; S holds both. -/
def DrIs (w : World) (S : Nat → Prop) (t : Nat) (l : List A3) : Prop :=
  ∃ v, w.cell? ⟨t, 0, none⟩ = some v ∧ w.frozen? ⟨t, 0, none⟩ = false ∧ S t ∧ Own3 w v l ∧ ∀ g, v.ownBlock = some g → S g ∧ g ≠ t
theorem DrIs.keep {w w' : World} {S M : Nat → Prop} {t : Nat} {l : List A3} (h : DrIs w S t l) (hk : Keeps M w w') (hM : ∀ k, S k → ¬ M k) : DrIs w' S t l := by
  obtain ⟨v, h1, h2, h3, h4, h5⟩ := h
  have hl : t < w.heap.size := World.block_lt_of_cell? w _ h1
  exact ⟨v, by rw [hk.cell hl (hM t h3)]; exact h1, by rw [hk.frozen hl (hM t h3)]; exact h2, h3, h4.keep hk (fun g hg => hM g (h5 g hg).1), h5⟩
theorem DrIs.below {w w' : World} {S : Nat → Prop} {t : Nat} {l : List A3} (h : DrIs w S t l) (hb : Below w.heap.size w w') : DrIs w' S t l := h.keep (Below.keeps (S := fun _ => False) hb) (fun _ _ => id)
theorem DrIs.drew {w : World} {S : Nat → Prop} {t : Nat} {l : List A3} (h : DrIs w S t l) (m : Nat) : DrIs (w.drewN m) S t l := h.below (below_drewN (Below.refl _ _) m)
theorem DrIs.wider {w : World} {S T : Nat → Prop} {t : Nat} {l : List A3} (h : DrIs w S t l) (hT : ∀ k, S k → T k) : DrIs w T t l := by
  obtain ⟨v, h1, h2, h3, h4, h5⟩ := h
  exact ⟨v, h1, h2, hT t h3, h4, fun g hg => ⟨hT g (h5 g hg).1, (h5 g hg).2⟩⟩
theorem dr_store {w w1 : World} {S : Nat → Prop} {t : Nat} {l : List A3} {u v : Value} (hS : S t) (hc : w1.cell? ⟨t, 0, none⟩ = some u) (hf : w1.frozen? ⟨t, 0, none⟩ = false) (ho : Own3 w1 v l) (hv : ∀ g, v.ownBlock = some g → (S g ∨ w.heap.size ≤ g) ∧ g ≠ t) (hk : Keeps S w w1) :
    DrIs (w1.setCell ⟨t, 0, none⟩ v) (More S w (w1.setCell ⟨t, 0, none⟩ v)) t l ∧ Keeps S w (w1.setCell ⟨t, 0, none⟩ v) := by
  have hsz : (w1.setCell ⟨t, 0, none⟩ v).heap.size = w1.heap.size := by simp [World.setCell]
  have K1 : Keeps (fun k => k = t) w1 (w1.setCell ⟨t, 0, none⟩ v) := (Keeps.refl (fun k => k = t) w1).setCell ⟨t, 0, none⟩ (fun _ => rfl) v
  refine ⟨⟨v, World.cell?_setCell_same _ _ _ hc, by rw [World.frozen?_setCell]; exact hf, .inl hS, ho.keep K1 (fun g hg e => (hv g hg).2 e), fun g hg => ⟨?_, (hv g hg).2⟩⟩, hk.setCell _ (fun _ => hS) v⟩
  rcases (hv g hg).1 with h | h
  · exact .inl h
  · exact .inr ⟨h, by rw [hsz]; exact (ho.lt g hg).2⟩
end Go.Proofs.Ytodkbhboapledaa
