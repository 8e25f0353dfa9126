/- Parts of the proof: Js. -/
import Derived.Test.YtikpphbgjbfddaaJ34
import Derived.Deep.AppendLies
namespace Go.Proofs.Ytikpphbgjbfddaa
set_option maxRecDepth 20000
open Go.RowKit
theorem Try.infoPW : (Try.prog.info? 51).map (fun i => (i.zero, i.size, i.bytes)) = some (some (.pointer none), 1, 8) := by kernel_rfl
theorem Try.infoPR : (Try.prog.info? 49).map (fun i => (i.zero, i.size, i.bytes)) = some (some (.pointer none), 1, 8) := by kernel_rfl
theorem Try.infoPM : (Try.prog.info? 38).map (fun i => (i.zero, i.size, i.bytes)) = some (some (.pointer none), 1, 8) := by kernel_rfl
theorem one_ptr {p : Option Nat} : ∀ u ∈ [ptrV p], u.oneCell' = true := by
  intro u hu; simp at hu; subst hu; cases p <;> rfl
/-- A scene whose rows may be of different lengths. -/
structure Sn3 (w : World) (B sx t m : Nat) (va vb vm : Value) (la lb lm : List Value) : Prop where
  c0 : w.cell? ⟨sx, 0, none⟩ = some (.pointer (some ⟨t, 0, none⟩))
  c1 : w.cell? ⟨sx, 1, none⟩ = some (.pointer (some ⟨m, 0, none⟩))
  c2 : w.cell? ⟨sx, 2, none⟩ = some va
  c3 : w.cell? ⟨sx, 3, none⟩ = some vb
  c4 : w.cell? ⟨sx, 4, none⟩ = some vm
  f2 : w.frozen? ⟨sx, 2, none⟩ = false
  f3 : w.frozen? ⟨sx, 3, none⟩ = false
  f4 : w.frozen? ⟨sx, 4, none⟩ = false
  oa : w.ownsRow B 51 1 va la.length la
  ob : w.ownsRow B 49 1 vb lb.length lb
  om : w.ownsRow B 38 1 vm lm.length lm
  na : va.ownBlock ≠ some sx ∧ vb.ownBlock ≠ some sx ∧ vm.ownBlock ≠ some sx
  nb : ∀ g, va.ownBlock = some g → vb.ownBlock ≠ some g ∧ vm.ownBlock ≠ some g
  nc : ∀ g, vb.ownBlock = some g → vm.ownBlock ≠ some g
theorem Sn3.lt {w : World} {B sx t m : Nat} {va vb vm : Value} {la lb lm : List Value} (h : Sn3 w B sx t m va vb vm la lb lm) : sx < w.heap.size := World.block_lt_of_cell? w _ h.c0
theorem Sn3.below {w w' : World} {B sx t m : Nat} {va vb vm : Value} {la lb lm : List Value} (h : Sn3 w B sx t m va vb vm la lb lm) (hb : Below w.heap.size w w') : Sn3 w' B sx t m va vb vm la lb lm :=
  ⟨(hb.cell h.lt).trans h.c0, (hb.cell h.lt).trans h.c1, (hb.cell h.lt).trans h.c2, (hb.cell h.lt).trans h.c3, (hb.cell h.lt).trans h.c4, (hb.frozen h.lt).trans h.f2, (hb.frozen h.lt).trans h.f3, (hb.frozen h.lt).trans h.f4, own_below h.oa hb, own_below h.ob hb, own_below h.om hb, h.na, h.nb, h.nc⟩
theorem SnIs.three {w : World} {B : Nat} {d : Sn} (h : SnIs w B d) : Sn3 w B d.sx d.t d.m d.va d.vb d.vm (ptrsV d.fa d.K) (ptrsV d.fb d.K) (ptrsV d.fm d.K) :=
  ⟨h.c0, h.c1, h.c2, h.c3, h.c4, h.f2, h.f3, h.f4, by rw [ptrsV_length]; exact h.oa, by rw [ptrsV_length]; exact h.ob, by rw [ptrsV_length]; exact h.om, h.na, h.nb, h.nc⟩
theorem Sn3.one {w : World} {B : Nat} {d : Sn} (h : Sn3 w B d.sx d.t d.m d.va d.vb d.vm (ptrsV d.fa d.K) (ptrsV d.fb d.K) (ptrsV d.fm d.K)) : SnIs w B d :=
  ⟨h.c0, h.c1, h.c2, h.c3, h.c4, h.f2, h.f3, h.f4, by have := h.oa; rw [ptrsV_length] at this; exact this, by have := h.ob; rw [ptrsV_length] at this; exact this, by have := h.om; rw [ptrsV_length] at this; exact this, h.na, h.nb, h.nc⟩

theorem Sn3.pushA {w z w1 : World} {B sx t m : Nat} {va vb vm : Value} {la lb lm : List Value} (h : Sn3 w B sx t m va vb vm la lb lm) (hz : Below w.heap.size w z) {g cap : Nat} {u v1 : Value} (hv : v1 = .slice (some ⟨g, 0, none⟩) (la.length + 1) cap)
    (ho : w1.ownsRow B 51 1 v1 (la.length + 1) (la ++ [u])) (hgr : z.grownBy w1 va.ownBlock) (hat : va.ownBlock = some g ∨ g = w.heap.size + 1) :
    (w1.cell? ⟨sx, 2, none⟩ = some va ∧ w1.frozen? ⟨sx, 2, none⟩ = false) ∧ Sn3 (w1.setCell ⟨sx, 2, none⟩ v1) B sx t m v1 vb vm (la ++ [u]) lb lm ∧ Keeps (fun k => k = sx ∨ va.ownBlock = some k) w (w1.setCell ⟨sx, 2, none⟩ v1) ∧ (∀ k, v1.ownBlock = some k → va.ownBlock = some k ∨ w.heap.size ≤ k ∧ k < (w1.setCell ⟨sx, 2, none⟩ v1).heap.size) := by
  have K1 : Keeps (fun k => va.ownBlock = some k) w w1 := (Below.keeps (S := fun k => va.ownBlock = some k) hz).trans ((Keeps.refl (fun k => va.ownBlock = some k) z).grown hgr (fun k hk _ => hk)) (fun _ _ t => t)
  have K2 : Keeps (fun k => k = sx) w1 (w1.setCell ⟨sx, 2, none⟩ v1) := (Keeps.refl (fun k => k = sx) w1).setCell _ (fun _ => rfl) _
  have hl := h.lt
  have ns : ¬ va.ownBlock = some sx := h.na.1
  have gl : ∀ (T : TypeId) (v : Value) (l : List Value), w.ownsRow B T 1 v l.length l → ∀ k, v.ownBlock = some k → k < w.heap.size := fun T v l ho k hk => (World.ownsRow.lt ho k hk).2
  have hg1 : g < w1.heap.size := by subst hv; exact (World.ownsRow.lt ho g rfl).2
  have hv1 : v1.ownBlock = some g := by subst hv; rfl
  have gs : g ≠ sx := fun e => by rcases hat with e1 | e1; exact ns (by rw [← e]; exact e1); omega
  have nb : ∀ k, vb.ownBlock = some k → ¬ va.ownBlock = some k := fun k hk e => (h.nb k e).1 hk
  have mb : vb.ownBlock ≠ some g := fun hk => by
    rcases hat with e1 | e1
    · exact nb g hk e1
    · have := gl _ _ _ h.ob g hk; omega
  have kb : ∀ k, vb.ownBlock = some k → ¬ k = sx := fun k hk e => h.na.2.1 (by rw [← e]; exact hk)
  have nm : ∀ k, vm.ownBlock = some k → ¬ va.ownBlock = some k := fun k hk e => (h.nb k e).2 hk
  have mm : vm.ownBlock ≠ some g := fun hk => by
    rcases hat with e1 | e1
    · exact nm g hk e1
    · have := gl _ _ _ h.om g hk; omega
  have km : ∀ k, vm.ownBlock = some k → ¬ k = sx := fun k hk e => h.na.2.2 (by rw [← e]; exact hk)
  refine ⟨⟨(K1.cell (p := ⟨sx, 2, none⟩) hl ns).trans h.c2, (K1.frozen (p := ⟨sx, 2, none⟩) hl ns).trans h.f2⟩, ⟨(cell_set_off _ _ _ _ (by decide)).trans ((K1.cell (p := ⟨sx, 0, none⟩) hl ns).trans h.c0), (cell_set_off _ _ _ _ (by decide)).trans ((K1.cell (p := ⟨sx, 1, none⟩) hl ns).trans h.c1), World.cell?_setCell_same _ _ _ ((K1.cell (p := ⟨sx, 2, none⟩) hl ns).trans h.c2), (cell_set_off _ _ _ _ (by decide)).trans ((K1.cell (p := ⟨sx, 3, none⟩) hl ns).trans h.c3), (cell_set_off _ _ _ _ (by decide)).trans ((K1.cell (p := ⟨sx, 4, none⟩) hl ns).trans h.c4), by rw [World.frozen?_setCell]; exact (K1.frozen (p := ⟨sx, 2, none⟩) hl ns).trans h.f2, by rw [World.frozen?_setCell]; exact (K1.frozen (p := ⟨sx, 3, none⟩) hl ns).trans h.f3, by rw [World.frozen?_setCell]; exact (K1.frozen (p := ⟨sx, 4, none⟩) hl ns).trans h.f4, (by have := own_keep ho K2 (fun k hk e => by rw [hv1] at hk; cases hk; exact gs e); rw [List.length_append]; exact this), own_keep (own_keep h.ob K1 nb) K2 kb, own_keep (own_keep h.om K1 nm) K2 km, ⟨fun e => by rw [hv1] at e; cases e; exact gs rfl, h.na.2.1, h.na.2.2⟩, fun k hk => by rw [hv1] at hk; cases hk; exact ⟨mb, mm⟩, h.nc⟩, (K1.wider (T := fun k => k = sx ∨ va.ownBlock = some k) (fun i _ hi => .inr hi)).trans K2 (fun i _ hi => .inl hi), fun k hk => ?_⟩
  rw [hv1] at hk
  cases hk
  rcases hat with e1 | e1
  · exact .inl e1
  · exact .inr ⟨by omega, by simpa using hg1⟩

theorem Sn3.pushB {w z w1 : World} {B sx t m : Nat} {va vb vm : Value} {la lb lm : List Value} (h : Sn3 w B sx t m va vb vm la lb lm) (hz : Below w.heap.size w z) {g cap : Nat} {u v1 : Value} (hv : v1 = .slice (some ⟨g, 0, none⟩) (lb.length + 1) cap)
    (ho : w1.ownsRow B 49 1 v1 (lb.length + 1) (lb ++ [u])) (hgr : z.grownBy w1 vb.ownBlock) (hat : vb.ownBlock = some g ∨ g = w.heap.size + 1) :
    (w1.cell? ⟨sx, 3, none⟩ = some vb ∧ w1.frozen? ⟨sx, 3, none⟩ = false) ∧ Sn3 (w1.setCell ⟨sx, 3, none⟩ v1) B sx t m va v1 vm la (lb ++ [u]) lm ∧ Keeps (fun k => k = sx ∨ vb.ownBlock = some k) w (w1.setCell ⟨sx, 3, none⟩ v1) ∧ (∀ k, v1.ownBlock = some k → vb.ownBlock = some k ∨ w.heap.size ≤ k ∧ k < (w1.setCell ⟨sx, 3, none⟩ v1).heap.size) := by
  have K1 : Keeps (fun k => vb.ownBlock = some k) w w1 := (Below.keeps (S := fun k => vb.ownBlock = some k) hz).trans ((Keeps.refl (fun k => vb.ownBlock = some k) z).grown hgr (fun k hk _ => hk)) (fun _ _ t => t)
  have K2 : Keeps (fun k => k = sx) w1 (w1.setCell ⟨sx, 3, none⟩ v1) := (Keeps.refl (fun k => k = sx) w1).setCell _ (fun _ => rfl) _
  have hl := h.lt
  have ns : ¬ vb.ownBlock = some sx := h.na.2.1
  have gl : ∀ (T : TypeId) (v : Value) (l : List Value), w.ownsRow B T 1 v l.length l → ∀ k, v.ownBlock = some k → k < w.heap.size := fun T v l ho k hk => (World.ownsRow.lt ho k hk).2
  have hg1 : g < w1.heap.size := by subst hv; exact (World.ownsRow.lt ho g rfl).2
  have hv1 : v1.ownBlock = some g := by subst hv; rfl
  have gs : g ≠ sx := fun e => by rcases hat with e1 | e1; exact ns (by rw [← e]; exact e1); omega
  have na : ∀ k, va.ownBlock = some k → ¬ vb.ownBlock = some k := fun k hk e => (h.nb k hk).1 e
  have ma : va.ownBlock ≠ some g := fun hk => by
    rcases hat with e1 | e1
    · exact na g hk e1
    · have := gl _ _ _ h.oa g hk; omega
  have ka : ∀ k, va.ownBlock = some k → ¬ k = sx := fun k hk e => h.na.1 (by rw [← e]; exact hk)
  have nm : ∀ k, vm.ownBlock = some k → ¬ vb.ownBlock = some k := fun k hk e => h.nc k e hk
  have mm : vm.ownBlock ≠ some g := fun hk => by
    rcases hat with e1 | e1
    · exact nm g hk e1
    · have := gl _ _ _ h.om g hk; omega
  have km : ∀ k, vm.ownBlock = some k → ¬ k = sx := fun k hk e => h.na.2.2 (by rw [← e]; exact hk)
  refine ⟨⟨(K1.cell (p := ⟨sx, 3, none⟩) hl ns).trans h.c3, (K1.frozen (p := ⟨sx, 3, none⟩) hl ns).trans h.f3⟩, ⟨(cell_set_off _ _ _ _ (by decide)).trans ((K1.cell (p := ⟨sx, 0, none⟩) hl ns).trans h.c0), (cell_set_off _ _ _ _ (by decide)).trans ((K1.cell (p := ⟨sx, 1, none⟩) hl ns).trans h.c1), (cell_set_off _ _ _ _ (by decide)).trans ((K1.cell (p := ⟨sx, 2, none⟩) hl ns).trans h.c2), World.cell?_setCell_same _ _ _ ((K1.cell (p := ⟨sx, 3, none⟩) hl ns).trans h.c3), (cell_set_off _ _ _ _ (by decide)).trans ((K1.cell (p := ⟨sx, 4, none⟩) hl ns).trans h.c4), by rw [World.frozen?_setCell]; exact (K1.frozen (p := ⟨sx, 2, none⟩) hl ns).trans h.f2, by rw [World.frozen?_setCell]; exact (K1.frozen (p := ⟨sx, 3, none⟩) hl ns).trans h.f3, by rw [World.frozen?_setCell]; exact (K1.frozen (p := ⟨sx, 4, none⟩) hl ns).trans h.f4, own_keep (own_keep h.oa K1 na) K2 ka, (by have := own_keep ho K2 (fun k hk e => by rw [hv1] at hk; cases hk; exact gs e); rw [List.length_append]; exact this), own_keep (own_keep h.om K1 nm) K2 km, ⟨h.na.1, fun e => by rw [hv1] at e; cases e; exact gs rfl, h.na.2.2⟩, fun k hk => ⟨fun e => by rw [hv1] at e; cases e; exact ma hk, (h.nb k hk).2⟩, fun k hk => by rw [hv1] at hk; cases hk; exact mm⟩, (K1.wider (T := fun k => k = sx ∨ vb.ownBlock = some k) (fun i _ hi => .inr hi)).trans K2 (fun i _ hi => .inl hi), fun k hk => ?_⟩
  rw [hv1] at hk
  cases hk
  rcases hat with e1 | e1
  · exact .inl e1
  · exact .inr ⟨by omega, by simpa using hg1⟩

theorem Sn3.pushM {w z w1 : World} {B sx t m : Nat} {va vb vm : Value} {la lb lm : List Value} (h : Sn3 w B sx t m va vb vm la lb lm) (hz : Below w.heap.size w z) {g cap : Nat} {u v1 : Value} (hv : v1 = .slice (some ⟨g, 0, none⟩) (lm.length + 1) cap)
    (ho : w1.ownsRow B 38 1 v1 (lm.length + 1) (lm ++ [u])) (hgr : z.grownBy w1 vm.ownBlock) (hat : vm.ownBlock = some g ∨ g = w.heap.size + 1) :
    (w1.cell? ⟨sx, 4, none⟩ = some vm ∧ w1.frozen? ⟨sx, 4, none⟩ = false) ∧ Sn3 (w1.setCell ⟨sx, 4, none⟩ v1) B sx t m va vb v1 la lb (lm ++ [u]) ∧ Keeps (fun k => k = sx ∨ vm.ownBlock = some k) w (w1.setCell ⟨sx, 4, none⟩ v1) ∧ (∀ k, v1.ownBlock = some k → vm.ownBlock = some k ∨ w.heap.size ≤ k ∧ k < (w1.setCell ⟨sx, 4, none⟩ v1).heap.size) := by
  have K1 : Keeps (fun k => vm.ownBlock = some k) w w1 := (Below.keeps (S := fun k => vm.ownBlock = some k) hz).trans ((Keeps.refl (fun k => vm.ownBlock = some k) z).grown hgr (fun k hk _ => hk)) (fun _ _ t => t)
  have K2 : Keeps (fun k => k = sx) w1 (w1.setCell ⟨sx, 4, none⟩ v1) := (Keeps.refl (fun k => k = sx) w1).setCell _ (fun _ => rfl) _
  have hl := h.lt
  have ns : ¬ vm.ownBlock = some sx := h.na.2.2
  have gl : ∀ (T : TypeId) (v : Value) (l : List Value), w.ownsRow B T 1 v l.length l → ∀ k, v.ownBlock = some k → k < w.heap.size := fun T v l ho k hk => (World.ownsRow.lt ho k hk).2
  have hg1 : g < w1.heap.size := by subst hv; exact (World.ownsRow.lt ho g rfl).2
  have hv1 : v1.ownBlock = some g := by subst hv; rfl
  have gs : g ≠ sx := fun e => by rcases hat with e1 | e1; exact ns (by rw [← e]; exact e1); omega
  have na : ∀ k, va.ownBlock = some k → ¬ vm.ownBlock = some k := fun k hk e => (h.nb k hk).2 e
  have ma : va.ownBlock ≠ some g := fun hk => by
    rcases hat with e1 | e1
    · exact na g hk e1
    · have := gl _ _ _ h.oa g hk; omega
  have ka : ∀ k, va.ownBlock = some k → ¬ k = sx := fun k hk e => h.na.1 (by rw [← e]; exact hk)
  have nb : ∀ k, vb.ownBlock = some k → ¬ vm.ownBlock = some k := fun k hk e => h.nc k hk e
  have mb : vb.ownBlock ≠ some g := fun hk => by
    rcases hat with e1 | e1
    · exact nb g hk e1
    · have := gl _ _ _ h.ob g hk; omega
  have kb : ∀ k, vb.ownBlock = some k → ¬ k = sx := fun k hk e => h.na.2.1 (by rw [← e]; exact hk)
  refine ⟨⟨(K1.cell (p := ⟨sx, 4, none⟩) hl ns).trans h.c4, (K1.frozen (p := ⟨sx, 4, none⟩) hl ns).trans h.f4⟩, ⟨(cell_set_off _ _ _ _ (by decide)).trans ((K1.cell (p := ⟨sx, 0, none⟩) hl ns).trans h.c0), (cell_set_off _ _ _ _ (by decide)).trans ((K1.cell (p := ⟨sx, 1, none⟩) hl ns).trans h.c1), (cell_set_off _ _ _ _ (by decide)).trans ((K1.cell (p := ⟨sx, 2, none⟩) hl ns).trans h.c2), (cell_set_off _ _ _ _ (by decide)).trans ((K1.cell (p := ⟨sx, 3, none⟩) hl ns).trans h.c3), World.cell?_setCell_same _ _ _ ((K1.cell (p := ⟨sx, 4, none⟩) hl ns).trans h.c4), by rw [World.frozen?_setCell]; exact (K1.frozen (p := ⟨sx, 2, none⟩) hl ns).trans h.f2, by rw [World.frozen?_setCell]; exact (K1.frozen (p := ⟨sx, 3, none⟩) hl ns).trans h.f3, by rw [World.frozen?_setCell]; exact (K1.frozen (p := ⟨sx, 4, none⟩) hl ns).trans h.f4, own_keep (own_keep h.oa K1 na) K2 ka, own_keep (own_keep h.ob K1 nb) K2 kb, (by have := own_keep ho K2 (fun k hk e => by rw [hv1] at hk; cases hk; exact gs e); rw [List.length_append]; exact this), ⟨h.na.1, h.na.2.1, fun e => by rw [hv1] at e; cases e; exact gs rfl⟩, fun k hk => ⟨(h.nb k hk).1, fun e => by rw [hv1] at e; cases e; exact ma hk⟩, fun k hk e => by rw [hv1] at e; cases e; exact mb hk⟩, (K1.wider (T := fun k => k = sx ∨ vm.ownBlock = some k) (fun i _ hi => .inr hi)).trans K2 (fun i _ hi => .inl hi), fun k hk => ?_⟩
  rw [hv1] at hk
  cases hk
  rcases hat with e1 | e1
  · exact .inl e1
  · exact .inr ⟨by omega, by simpa using hg1⟩
end Go.Proofs.Ytikpphbgjbfddaa
