/- Parts of the proof: Za Zb Zc Zd Ze Zf Zg Zh Zi Zj. -/
import Derived.Test.YtfghfbmmaclcnaaGreatJ4
import Derived.Deep.AppendLies
import Derived.Deep.RegionHeld3
import Derived.Deep.RegionLaw
import Derived.Laws.CopyOwn
import Derived.Deep.Slices
import Derived.ChangeArms
import Derived.ChangeSame
namespace Go.Proofs.YtfghfbmmaclcnaaGreat
set_option maxRecDepth 20000
open Go.RowKit
/-- An action. -/
structure A3 where
  e : Int
  k : Int
  p : Int
instance : Inhabited A3 := ⟨⟨0, 0, 0⟩⟩
def A3.cells (a : A3) : List Value := [.int .u64 a.e, .int .i64 a.k, .int .i64 a.p]
def A3.val (a : A3) : Value := .agg #[.int .u64 a.e, .int .i64 a.k, .int .i64 a.p]
def actsV (l : List A3) : List Value := l.flatMap A3.cells
theorem actsV_length (l : List A3) : (actsV l).length = l.length * 3 := by
  induction l with
  | nil => rfl
  | cons a l ih => simp [actsV, A3.cells] at ih ⊢; omega
theorem actsV_snoc (l : List A3) (a : A3) : actsV (l ++ [a]) = actsV l ++ [.int .u64 a.e, .int .i64 a.k, .int .i64 a.p] := by simp [actsV, A3.cells]
def getL (l : List A3) (j : Nat) : A3 := l.getD j ⟨0, 0, 0⟩
theorem actsV_get (l : List A3) (j : Nat) (h : j < l.length) :
    (actsV l)[j * 3]? = some (.int .u64 (getL l j).e) ∧ (actsV l)[j * 3 + 1]? = some (.int .i64 (getL l j).k) ∧ (actsV l)[j * 3 + 2]? = some (.int .i64 (getL l j).p) := by
  induction l generalizing j with
  | nil => simp at h
  | cons a l ih =>
    match j with
    | 0 => simp [actsV, A3.cells, getL]
    | j + 1 =>
      have := ih j (by simpa using h)
      have e : actsV (a :: l) = .int .u64 a.e :: .int .i64 a.k :: .int .i64 a.p :: actsV l := rfl
      have g : getL (a :: l) (j + 1) = getL l j := by simp [getL]
      rw [e, g, show (j + 1) * 3 = j * 3 + 1 + 1 + 1 by omega]
      simpa using this
theorem getL_take (l : List A3) (k : Nat) (h : k < l.length) : l.take (k + 1) = l.take k ++ [getL l k] := by
  rw [List.take_succ_eq_append_getElem h]; simp [getL, List.getD_eq_getElem?_getD, h]
/-- A slice of actions that is read. -/
def As (w : World) (ao : Option Addr) (n : Nat) (z : Nat → A3) : Prop :=
  ∀ j, j < n → ∃ b off, ao = some ⟨b, off, none⟩ ∧ w.cell? ⟨b, off + j * 3, none⟩ = some (.int .u64 (z j).e) ∧ w.cell? ⟨b, off + j * 3 + 1, none⟩ = some (.int .i64 (z j).k) ∧ w.cell? ⟨b, off + j * 3 + 2, none⟩ = some (.int .i64 (z j).p)
theorem As.drew {w : World} {ao : Option Addr} {n : Nat} {z : Nat → A3} (h : As w ao n z) (m : Nat) : As (w.drewN m) ao n z := h
theorem As.keep {w w' : World} {ao : Option Addr} {n : Nat} {z : Nat → A3} {S : Nat → Prop} (h : As w ao n z) (hk : Keeps S w w') (hS : 0 < n → ∀ g off, ao = some ⟨g, off, none⟩ → ¬ S g) : As w' ao n z := by
  intro j hj
  obtain ⟨b, off, h1, h2, h3, h4⟩ := h j hj
  have hl : b < w.heap.size := World.block_lt_of_cell? w _ h2
  have hs := hS (by omega) b off h1
  exact ⟨b, off, h1, by rw [hk.cell hl hs]; exact h2, by rw [hk.cell hl hs]; exact h3, by rw [hk.cell hl hs]; exact h4⟩
theorem As.below {w w' : World} {ao : Option Addr} {n : Nat} {z : Nat → A3} (h : As w ao n z) (hb : Below w.heap.size w w') : As w' ao n z := h.keep (Below.keeps (S := fun _ => False) hb) (fun _ _ _ _ => id)
/-- A row of actions that is owned. -/
def Own3 (w : World) (v : Value) (l : List A3) : Prop := w.ownsRow 0 151 3 v l.length (actsV l)
theorem Own3.form {w : World} {v : Value} {l : List A3} (h : Own3 w v l) : ∃ ao cap, v = .slice ao l.length cap ∧ As w ao l.length (getL l) ∧ (∀ g off, ao = some ⟨g, off, none⟩ → v.ownBlock = some g) ∧ l.length ≤ cap ∧ cap ≤ 9223372036854775807 := by
  have h' := h
  rcases h.2 with ⟨h1, h0⟩ | ⟨g, cap, cur, hv, _, hg, hc, hm, _⟩
  · exact ⟨none, 0, by rw [h1, h0], fun j hj => by omega, fun g off e => by simp at e, by omega, by omega⟩
  · refine ⟨_, _, hv, fun j hj => ⟨g, 0, rfl, ?_⟩, fun g' off e => ?_, hc, by unfold maxLen at hm; exact hm⟩
    · have hcell := h'.cells (g := g) (by rw [hv]; rfl)
      have hadd : ∀ i, (⟨g, 0, none⟩ : Addr).add i = ⟨g, i, none⟩ := fun i => by unfold Addr.add; split <;> simp_all
      obtain ⟨g1, g2, g3⟩ := actsV_get l j hj
      have c1 := hcell _ _ g1
      have c2 := hcell _ _ g2
      have c3 := hcell _ _ g3
      rw [hadd] at c1 c2 c3
      rw [Nat.zero_add]
      exact ⟨c1, c2, c3⟩
    · simp at e; rw [hv]; simp [Value.ownBlock, e]
theorem Own3.nil (w : World) : Own3 w (.slice none 0 0) [] := World.ownsRow_nil w 0 _ 3
theorem Own3.keep {w w' : World} {v : Value} {l : List A3} {S : Nat → Prop} (h : Own3 w v l) (hk : Keeps S w w') (hS : ∀ g, v.ownBlock = some g → ¬ S g) : Own3 w' v l := own_keep h hk hS
theorem Own3.below {w w' : World} {v : Value} {l : List A3} (h : Own3 w v l) (hb : Below w.heap.size w w') : Own3 w' v l := own_below h hb
theorem Own3.drew {w : World} {v : Value} {l : List A3} (h : Own3 w v l) (m : Nat) : Own3 (w.drewN m) v l := h.below (below_drewN (Below.refl _ _) m)
theorem three_ints {a b c : Int} : ∀ u ∈ [Value.int .u64 a, Value.int .i64 b, Value.int .i64 c], u.oneCell' = true := by
  intro u hu; simp at hu; rcases hu with rfl | rfl | rfl <;> rfl
theorem cell_three (w : World) (a b c : Value) (t : TypeId) : ∀ j u, [a, b, c][j]? = some u → (w.alloc (.cells #[a, b, c] t)).cell? ((⟨w.heap.size, 0, none⟩ : Addr).add j) = some u := by
  intro j u hj
  match j, hj with
  | 0, hj => simp at hj; subst hj; simp [Addr.add]
  | 1, hj => simp at hj; subst hj; simp [Addr.add]
  | 2, hj => simp at hj; subst hj; simp [Addr.add]
theorem Tryz.infoAct : (Tryz.prog.info? 151).map (fun i => (i.zero, i.size, i.bytes)) = some (some (.agg #[.int .u64 0, .int .i64 0, .int .i64 0]), 3, 24) := by kernel_rfl
/-- The program's list, in block t, with its row; S holds both. -/
def DrIs (w : World) (S : Nat → Prop) (t : Nat) (l : List A3) : Prop :=
  ∃ v, w.cell? ⟨t, 0, none⟩ = some v ∧ w.frozen? ⟨t, 0, none⟩ = false ∧ S t ∧ Own3 w v l ∧ ∀ g, v.ownBlock = some g → S g ∧ g ≠ t
theorem DrIs.keep {w w' : World} {S M : Nat → Prop} {t : Nat} {l : List A3} (h : DrIs w S t l) (hk : Keeps M w w') (hM : ∀ k, S k → ¬ M k) : DrIs w' S t l := by
  obtain ⟨v, h1, h2, h3, h4, h5⟩ := h
  have hl : t < w.heap.size := World.block_lt_of_cell? w _ h1
  exact ⟨v, by rw [hk.cell hl (hM t h3)]; exact h1, by rw [hk.frozen hl (hM t h3)]; exact h2, h3, h4.keep hk (fun g hg => hM g (h5 g hg).1), h5⟩
theorem DrIs.below {w w' : World} {S : Nat → Prop} {t : Nat} {l : List A3} (h : DrIs w S t l) (hb : Below w.heap.size w w') : DrIs w' S t l := h.keep (Below.keeps (S := fun _ => False) hb) (fun _ _ => id)
theorem DrIs.drew {w : World} {S : Nat → Prop} {t : Nat} {l : List A3} (h : DrIs w S t l) (m : Nat) : DrIs (w.drewN m) S t l := h.below (below_drewN (Below.refl _ _) m)
theorem DrIs.wider {w : World} {S T : Nat → Prop} {t : Nat} {l : List A3} (h : DrIs w S t l) (hT : ∀ k, S k → T k) : DrIs w T t l := by
  obtain ⟨v, h1, h2, h3, h4, h5⟩ := h
  exact ⟨v, h1, h2, hT t h3, h4, fun g hg => ⟨hT g (h5 g hg).1, (h5 g hg).2⟩⟩
theorem dr_store {w w1 : World} {S : Nat → Prop} {t : Nat} {l : List A3} {u v : Value} (hS : S t) (hc : w1.cell? ⟨t, 0, none⟩ = some u) (hf : w1.frozen? ⟨t, 0, none⟩ = false) (ho : Own3 w1 v l) (hv : ∀ g, v.ownBlock = some g → (S g ∨ w.heap.size ≤ g) ∧ g ≠ t) (hk : Keeps S w w1) :
    DrIs (w1.setCell ⟨t, 0, none⟩ v) (More S w (w1.setCell ⟨t, 0, none⟩ v)) t l ∧ Keeps S w (w1.setCell ⟨t, 0, none⟩ v) := by
  have hsz : (w1.setCell ⟨t, 0, none⟩ v).heap.size = w1.heap.size := by simp [World.setCell]
  have K1 : Keeps (fun k => k = t) w1 (w1.setCell ⟨t, 0, none⟩ v) := (Keeps.refl (fun k => k = t) w1).setCell ⟨t, 0, none⟩ (fun _ => rfl) v
  refine ⟨⟨v, World.cell?_setCell_same _ _ _ hc, by rw [World.frozen?_setCell]; exact hf, .inl hS, ho.keep K1 (fun g hg e => (hv g hg).2 e), fun g hg => ⟨?_, (hv g hg).2⟩⟩, hk.setCell _ (fun _ => hS) v⟩
  rcases (hv g hg).1 with h | h
  · exact .inl h
  · exact .inr ⟨h, by rw [hsz]; exact (ho.lt g hg).2⟩
end Go.Proofs.YtfghfbmmaclcnaaGreat
namespace Go.Proofs.YtfghfbmmaclcnaaGreat
set_option maxRecDepth 20000
open Go.RowKit
theorem drain_new (w : World) :
    Calls Tryz.prog 76 #[] w fun e w' => e = .returned (.pointer (some ⟨w.heap.size, 0, none⟩)) ∧ w'.heap.size = w.heap.size + 1 ∧ DrIs w' (fun k => k = w.heap.size) w.heap.size [] ∧ Below w.heap.size w w' := by
  go_enter Tryz.func76, Tryz.ntmps76
  go_wp2
  go_ret
  refine ⟨rfl, by simp, ⟨.slice none 0 0, by simp, by simp, rfl, Own3.nil _, fun g hg => by simp [Value.ownBlock] at hg⟩, (Below.refl _ _).alloc (Nat.le_refl _) _⟩
/-- What Put answers, and the list behind it. -/
def putEZ (l : List A3) : Int := if 16 ≤ l.length then 9 else 0
def putL (l : List A3) (a : A3) : List A3 := if 16 ≤ l.length then l else l ++ [a]
theorem drain_put_full {w : World} {S : Nat → Prop} {t : Nat} {l : List A3} (h : DrIs w S t l) (a : A3) (hl : 16 ≤ l.length) :
    Calls Tryz.prog 173 #[.pointer (some ⟨t, 0, none⟩), a.val] w fun e w' => e = .returned (.int .i64 9) ∧ Below w.heap.size w w' := by
  obtain ⟨v, h1, -, -, h4, -⟩ := h
  obtain ⟨ao, cap, rfl, -, -, hc⟩ := h4.form
  obtain ⟨ae, ak, ap⟩ := a
  simp only [A3.val]
  have h1' := cell_alloc h1 (.cells #[.int .u64 ae, .int .i64 ak, .int .i64 ap] 151)
  clear h4
  generalize l.length = n at *
  go_enter Tryz.func173, Tryz.ntmps173
  go_wp2
  go_ret
  exact ⟨rfl, (Below.refl _ _).alloc (Nat.le_refl _) _⟩
set_option maxHeartbeats 1000000 in
theorem drain_put_room {w : World} {S : Nat → Prop} {t : Nat} {l : List A3} (h : DrIs w S t l) (a : A3) (hl : l.length < 16) :
    Calls Tryz.prog 173 #[.pointer (some ⟨t, 0, none⟩), a.val] w fun e w' => e = .returned (.int .i64 0) ∧ DrIs w' (More S w w') t (l ++ [a]) ∧ Keeps S w w' := by
  obtain ⟨i0, hi, hz0, hz1, hz2⟩ := info_parts Tryz.infoAct
  obtain ⟨v, h1, h2, h3, h4, h5⟩ := h
  have ht : t < w.heap.size := World.block_lt_of_cell? w _ h1
  obtain ⟨ao, cap, rfl, -, -, hc⟩ := h4.form
  obtain ⟨ae, ak, ap⟩ := a
  simp only [A3.val]
  obtain ⟨o1, ho1⟩ : ∃ o1 : Obj, o1 = .cells #[.int .u64 ae, .int .i64 ak, .int .i64 ap] 151 := ⟨_, rfl⟩
  have h1' := cell_alloc h1 o1
  have h2' := frozen_alloc h2 ht o1
  have h2'' := frozen_alloc h2' (by simp; omega) o1
  have hown2 : (((w.alloc o1).drewN 1).alloc o1).ownsRow 0 151 3 (.slice ao l.length cap) l.length (actsV l) := own_below h4 ((below_drewN ((Below.refl _ w).alloc (Nat.le_refl _) _) 1).alloc (by simp) _)
  have hnews : ∀ j u, [Value.int .u64 ae, .int .i64 ak, .int .i64 ap][j]? = some u → (((w.alloc o1).drewN 1).alloc o1).cell? ((⟨w.heap.size + 1, 0, none⟩ : Addr).add j) = some u := by
    subst ho1
    have := cell_three ((w.alloc (.cells #[.int .u64 ae, .int .i64 ak, .int .i64 ap] 151)).drewN 1) (.int .u64 ae) (.int .i64 ak) (.int .i64 ap) 151
    simpa using this
  have HK : ∀ w1, (((w.alloc o1).drewN 1).alloc o1).grownBy w1 (Value.slice ao l.length cap).ownBlock → w1.frozen? ⟨t, 0, none⟩ = false ∧ w1.cell? ⟨t, 0, none⟩ = some (.slice ao l.length cap) ∧ Keeps S w w1 := by
    intro w1 hg
    have hne : some t ≠ (Value.slice ao l.length cap).ownBlock := fun e => (h5 t e.symm).2 rfl
    have K1 : Keeps S w (((w.alloc o1).drewN 1).alloc o1) := (((Keeps.refl S w).alloc o1).drewN 1).alloc o1
    refine ⟨?_, ?_, K1.grown hg (fun k hk _ => (h5 k hk).1)⟩
    · rw [hg.frozen_far _ (by simp; omega) hne]; exact h2''
    · rw [hg.cell_far _ (by simp; omega) hne]; exact cell_alloc (w := (w.alloc o1).drewN 1) h1' o1
  subst ho1
  generalize hn : l.length = n at *
  go_enter Tryz.func173, Tryz.ntmps173
  go_wp2
  go_region_law
    ((refine step_append_lies _ (by rfl) _ _ 74 (by rfl) 0 151 i0 (.agg #[.int .u64 0, .int .i64 0, .int .i64 0]) 3 24 Tryz.underlying74 hi hz0 hz1 hz2 rfl (by decide) _ _ _ (by rfl) hown2 ⟨w.heap.size + 1, 0, none⟩ 1 1 [.int .u64 ae, .int .i64 ak, .int .i64 ap] (by rfl) rfl hnews three_ints (by decide) (by unfold maxLen; omega) (by omega) (Nat.zero_le _) (w.heap.size + 2) (by simp) ?_; intro g cap' w1 hown' hgrow hat hlt; obtain ⟨f1, f2, hk⟩ := HK w1 hgrow))
  all_goals
    have hd := dr_store (v := .slice (some ⟨g, 0, none⟩) (n + 1) cap') (l := l ++ [⟨ae, ak, ap⟩]) h3 f2 f1 (by unfold Own3; rw [actsV_snoc, List.length_append, hn]; exact hown') (fun k hk => by
      have e : g = k := by simpa [Value.ownBlock] using hk
      subst e
      rcases hat with hat | hat
      · exact ⟨.inl (h5 g hat).1, (h5 g hat).2⟩
      · exact ⟨.inr (by omega), by omega⟩) hk
    clear hown' hgrow hat hk hown2 hnews HK h4 f1 f2 h1' h2' h2'' hi
    generalize w1.setCell ⟨t, 0, none⟩ (.slice (some ⟨g, 0, none⟩) (n + 1) cap') = w2 at *
    go_wp2
    go_ret
    exact ⟨rfl, hd.1, hd.2⟩
/-- Put. -/
theorem drain_put {w : World} {S : Nat → Prop} {t : Nat} {l : List A3} (h : DrIs w S t l) (a : A3) :
    Calls Tryz.prog 173 #[.pointer (some ⟨t, 0, none⟩), a.val] w fun e w' => e = .returned (.int .i64 (putEZ l)) ∧ DrIs w' (More S w w') t (putL l a) ∧ Keeps S w w' := by
  by_cases hl : 16 ≤ l.length
  · refine (drain_put_full h a hl).mono ?_
    rintro e w' ⟨rfl, hb⟩
    exact ⟨by simp [putEZ, hl], by simp only [putL, if_pos hl]; exact (h.below hb).wider (fun _ => .inl), Below.keeps hb⟩
  · refine (drain_put_room h a (by omega)).mono ?_
    rintro e w' ⟨rfl, hd, hk⟩
    exact ⟨by simp [putEZ, hl], by simp only [putL, if_neg hl]; exact hd, hk⟩
theorem drain_len {w : World} {S : Nat → Prop} {t : Nat} {l : List A3} (h : DrIs w S t l) :
    Calls Tryz.prog 171 #[.pointer (some ⟨t, 0, none⟩)] w fun e w' => e = .returned (.int .i64 (l.length : Int)) ∧ w' = w := by
  obtain ⟨v, h1, -, -, h4, -⟩ := h
  obtain ⟨ao, cap, rfl, -, -, hc⟩ := h4.form
  clear h4
  generalize l.length = n at *
  go_enter Tryz.func171, Tryz.ntmps171
  go_wp2
  go_ret
  exact ⟨rfl, rfl⟩
end Go.Proofs.YtfghfbmmaclcnaaGreat
namespace Go.Proofs.YtfghfbmmaclcnaaGreat
set_option maxRecDepth 20000
open Go.RowKit
/-- Those that are ready for s, and those that go on waiting. -/
def readyL (s : Int) (l : List A3) : List A3 := l.filter fun a => decide (a.e ≤ s)
def restL (s : Int) (l : List A3) : List A3 := l.filter fun a => !decide (a.e ≤ s)
theorem readyL_snoc (s : Int) (l : List A3) (a : A3) : readyL s (l ++ [a]) = readyL s l ++ (if a.e ≤ s then [a] else []) := by
  simp only [readyL, List.filter_append, List.filter_cons, List.filter_nil, decide_eq_true_eq]
theorem restL_snoc (s : Int) (l : List A3) (a : A3) : restL s (l ++ [a]) = restL s l ++ (if a.e ≤ s then [] else [a]) := by
  by_cases h : a.e ≤ s <;> simp [restL, List.filter_append, h]
theorem readyL_length (s : Int) (l : List A3) : (readyL s l).length ≤ l.length := List.length_filter_le _ _
theorem restL_length (s : Int) (l : List A3) : (restL s l).length ≤ l.length := List.length_filter_le _ _
theorem own_two {w : World} {v : Value} {l : List A3} (h : Own3 w v l) (a b c : Int) : ((w.alloc (.cells #[.int .u64 a, .int .i64 b, .int .i64 c] 151)).alloc (.cells #[.int .u64 a, .int .i64 b, .int .i64 c] 151)).ownsRow 0 151 3 v l.length (actsV l) :=
  (World.ownsRow.alloc h _).alloc _
theorem cell_three2 (w : World) (a b c : Int) : ∀ j u, [Value.int .u64 a, .int .i64 b, .int .i64 c][j]? = some u → ((w.alloc (.cells #[.int .u64 a, .int .i64 b, .int .i64 c] 151)).alloc (.cells #[.int .u64 a, .int .i64 b, .int .i64 c] 151)).cell? ((⟨w.heap.size + 1, 0, none⟩ : Addr).add j) = some u := by
  have := cell_three (w.alloc (.cells #[.int .u64 a, .int .i64 b, .int .i64 c] 151)) (.int .u64 a) (.int .i64 b) (.int .i64 c) 151
  simpa using this
/-- One row grows by an action, another stays. -/
theorem grow_two {W w w1 : World} {o1 o2 : Obj} {v v' u : Value} {l m : List A3} {a : A3} (hu : Own3 w u m)
    (b1 : ∀ g, v.ownBlock = some g → W.heap.size ≤ g) (hd : ∀ g, v.ownBlock = some g → u.ownBlock ≠ some g) (hb : Below W.heap.size W w)
    (hown : w1.ownsRow 0 151 3 v' (l.length + 1) (actsV l ++ [.int .u64 a.e, .int .i64 a.k, .int .i64 a.p])) (hg : ((w.alloc o1).alloc o2).grownBy w1 v.ownBlock) (hat : ∀ g, v'.ownBlock = some g → v.ownBlock = some g ∨ g = w.heap.size + 2) :
    Own3 w1 v' (l ++ [a]) ∧ Own3 w1 u m ∧ (∀ g, v'.ownBlock = some g → W.heap.size ≤ g) ∧ (∀ g, v'.ownBlock = some g → u.ownBlock ≠ some g) ∧ Below W.heap.size W w1 := by
  have hW := hb.size
  refine ⟨by unfold Own3; rw [actsV_snoc, List.length_append]; exact hown, ?_, fun g h => ?_, fun g h e => ?_, ?_⟩
  · have K : Keeps (fun k => v.ownBlock = some k) w w1 := (((Keeps.refl _ w).alloc o1).alloc o2).grown hg (fun k hk _ => hk)
    exact hu.keep K (fun g hg' hv' => hd g hv' hg')
  · rcases hat g h with h | h
    · exact b1 g h
    · omega
  · rcases hat g h with h | h
    · exact hd g h e
    · have := (hu.lt g e).2; omega
  · exact ((hb.alloc hW o1).alloc (by simp; omega) o2).grown hg (by simp; omega) (fun k hk => b1 k hk)
set_option maxHeartbeats 1000000 in
theorem drain_ready {w : World} {S : Nat → Prop} {t : Nat} {l : List A3} (h : DrIs w S t l) (hl : l.length ≤ 16) (s : Int) :
    Calls Tryz.prog 95 #[.pointer (some ⟨t, 0, none⟩), .int .u64 s] w fun e w' => ∃ ao cap, e = .returned (.slice ao (readyL s l).length cap) ∧ As w' ao (readyL s l).length (getL (readyL s l)) ∧ (∀ g off, ao = some ⟨g, off, none⟩ → w.heap.size ≤ g) ∧ DrIs w' (More S w w') t (restL s l) ∧ Keeps S w w' := by
  obtain ⟨i0, hi, hz0, hz1, hz2⟩ := info_parts Tryz.infoAct
  obtain ⟨v, h1, h2, h3, h4, h5⟩ := h
  have ht : t < w.heap.size := World.block_lt_of_cell? w _ h1
  obtain ⟨ao, cap, rfl, hs, hao, hc⟩ := h4.form
  generalize hn : l.length = n at *
  go_enter Tryz.func95, Tryz.ntmps95
  go_wp2
  go_loopw [5, 6, 16] (fun told rest i wr => ∃ k : Nat, k ≤ n ∧ i = .int .i64 k ∧ Own3 wr told (readyL s (l.take k)) ∧ Own3 wr rest (restL s (l.take k)) ∧ (∀ g, told.ownBlock = some g → w.heap.size ≤ g) ∧ (∀ g, rest.ownBlock = some g → w.heap.size ≤ g) ∧ (∀ g, told.ownBlock = some g → rest.ownBlock ≠ some g) ∧ Below w.heap.size w wr)
    (fun _ _ i _ => n - (intOf i).toNat)
  case atStart => exact ⟨0, Nat.zero_le _, rfl, Own3.nil _, Own3.nil _, fun g hg => by simp [Value.ownBlock] at hg, fun g hg => by simp [Value.ownBlock] at hg, fun g hg => by simp [Value.ownBlock] at hg, Below.refl _ _⟩
  case round =>
    obtain ⟨k, hk, rfl, ho1, ho2, b1, b2, hd, hbel⟩ := hrel
    have hB := hbel.size
    have hs' := hs.below hbel
    by_cases hlt : k < n
    · obtain ⟨b, off, rfl, c1, c2, c3⟩ := hs' k hlt
      have HT := hide (getL_take l k (by omega))
      generalize hga : getL l k = a at *
      obtain ⟨ae, ak, ap⟩ := a
      simp only at c1 c2 c3
      by_cases hle : ae ≤ s
      · have e1 : readyL s (l.take (k + 1)) = readyL s (l.take k) ++ [⟨ae, ak, ap⟩] := by rw [HT.out, readyL_snoc, if_pos hle]
        have e2 : restL s (l.take (k + 1)) = restL s (l.take k) := by rw [HT.out, restL_snoc, if_pos hle, List.append_nil]
        have hq := readyL_length s (l.take k)
        rw [List.length_take, hn] at hq
        have E1 := hide e1
        have E2 := hide e2
        clear e1 e2
        have hown2 := own_two ho1 ae ak ap
        have hnews := cell_three2 wr ae ak ap
        go_wp2_with (at_builtin; refine wpList_append_lies _ rfl _ _ 74 rfl 0 151 i0 (.agg #[.int .u64 0, .int .i64 0, .int .i64 0]) 3 24 Tryz.underlying74 hi hz0 hz1 hz2 rfl (by decide) _ _ _ rfl hown2 ⟨wr.heap.size + 1, 0, none⟩ 1 1 [.int .u64 ae, .int .i64 ak, .int .i64 ap] rfl rfl hnews three_ints (by decide) ?c3 ?c4 (Nat.zero_le _) (wr.heap.size + 2) (by simp) ?_)
        case c3 => unfold maxLen; omega
        case c4 => omega
        intro g cap' w1 hown' hgrow hat _
        obtain ⟨r1, r2, r3, r4, r5⟩ := grow_two (a := ⟨ae, ak, ap⟩) ho2 b1 hd hbel hown' hgrow (fun g' h => by
          have e : g = g' := by simpa [Value.ownBlock] using h
          subst e; exact hat)
        clear hgrow hown' ho1 ho2 hown2 hnews hat
        go_wp2
        go_roundw
        case rel => exact ⟨k + 1, by omega, by go_num, by rw [E1.out]; exact r1, by rw [E2.out]; exact r2, r3, b2, r4, r5⟩
        case measure => simp [intOf]; omega
      · have e1 : readyL s (l.take (k + 1)) = readyL s (l.take k) := by rw [HT.out, readyL_snoc, if_neg hle, List.append_nil]
        have e2 : restL s (l.take (k + 1)) = restL s (l.take k) ++ [⟨ae, ak, ap⟩] := by rw [HT.out, restL_snoc, if_neg hle]
        have hq := restL_length s (l.take k)
        rw [List.length_take, hn] at hq
        have E1 := hide e1
        have E2 := hide e2
        clear e1 e2
        have hown2 := own_two ho2 ae ak ap
        have hnews := cell_three2 wr ae ak ap
        go_wp2_with (at_builtin; refine wpList_append_lies _ rfl _ _ 74 rfl 0 151 i0 (.agg #[.int .u64 0, .int .i64 0, .int .i64 0]) 3 24 Tryz.underlying74 hi hz0 hz1 hz2 rfl (by decide) _ _ _ rfl hown2 ⟨wr.heap.size + 1, 0, none⟩ 1 1 [.int .u64 ae, .int .i64 ak, .int .i64 ap] rfl rfl hnews three_ints (by decide) ?c3 ?c4 (Nat.zero_le _) (wr.heap.size + 2) (by simp) ?_)
        case c3 => unfold maxLen; omega
        case c4 => omega
        intro g cap' w1 hown' hgrow hat _
        obtain ⟨r1, r2, r3, r4, r5⟩ := grow_two (a := ⟨ae, ak, ap⟩) ho1 b2 (fun g h1 h2 => hd g h2 h1) hbel hown' hgrow (fun g' h => by
          have e : g = g' := by simpa [Value.ownBlock] using h
          subst e; exact hat)
        clear hgrow hown' ho1 ho2 hown2 hnews hat
        go_wp2
        go_roundw
        case rel => exact ⟨k + 1, by omega, by go_num, by rw [E1.out]; exact r2, by rw [E2.out]; exact r1, b1, r3, fun g h1 h2 => r4 g h2 h1, r5⟩
        case measure => simp [intOf]; omega
    · have e : l.take k = l := List.take_of_length_le (by omega)
      rw [e] at ho1 ho2
      have f1 : wr.cell? ⟨t, 0, none⟩ = some (.slice ao n cap) := by rw [hbel.cell ht]; exact h1
      have f2 : wr.frozen? ⟨t, 0, none⟩ = false := by rw [hbel.frozen ht]; exact h2
      obtain ⟨ao', cap', rfl, q1, q2, -⟩ := ho1.form
      obtain ⟨ao2, cap2, rfl, -, -, -⟩ := ho2.form
      have hdr := dr_store (w := w) h3 f1 f2 ho2 (fun g hg => ⟨.inr (b2 g hg), by have := b2 g hg; omega⟩) (Below.keeps hbel)
      have hst := q1.keep ((Keeps.refl (fun k => k = t) wr).setCell ⟨t, 0, none⟩ (fun _ => rfl) (.slice ao2 (restL s l).length cap2)) (fun _ g off hg e => by have := b1 g (q2 g off hg); omega)
      clear q1 ho1 ho2 h4 hi e
      go_wp2
      go_ret
      exact ⟨ao', cap', rfl, hst, fun g off hg => b1 g (q2 g off hg), hdr.1, hdr.2⟩
end Go.Proofs.YtfghfbmmaclcnaaGreat
namespace Go.Proofs.YtfghfbmmaclcnaaGreat
set_option maxRecDepth 20000
open Go.RowKit
theorem run_copy_whole {P : Program} (w : World) (dT sT ty elem : TypeId) (g n cap : Nat) (ad : Addr) (sCap size : Nat) (cur : Array Value) (t : TypeId) (cs : List Value)
    (hu : P.underlying dT = some (.slice elem)) (hs : (P.info? elem).map (·.size) = some size)
    (hg : w.heap[g]? = some (.cells cur t (0, 0))) (hn : cs.length = n * size)
    (hsrc : ∀ j v, cs[j]? = some v → w.cell? (ad.add j) = some v) (hfit : cs.length ≤ cur.size) (h1 : ∀ v ∈ cs, v.oneCell' = true) :
    (Builtin.copy_ #[dT, sT] ty #[.slice (some ⟨g, 0, none⟩) n cap, .slice (some ad) n sCap]).run P w =
      .ok (goInt n) (w.setRow g (cs ++ cur.toList.drop cs.length).toArray) := by
  have hl := run_firstCells_some (P := P) w size n ad n sCap cs hn hsrc
  have hst := run_storeCells_at P g 0 t cs 0 cur w hg (by simpa using hfit) h1
  simp only [Nat.add_zero, List.take_zero, List.nil_append, Nat.zero_add] at hst
  have hmin : Nat.min n n = n := Nat.min_self n
  cases hq : P.info? elem with
  | none => simp [hq] at hs
  | some i =>
    have hi : i.size = size := by simpa [hq] using hs
    simp [Builtin.copy_, run_underlying hu, Builtin.lenOf, sizeOf, typeInfo, hq, hi, hmin, hl, hst]
theorem run_copy_zero {P : Program} (w : World) (dT sT ty elem : TypeId) (d a : Option Addr) (dCap sCap size : Nat) (hu : P.underlying dT = some (.slice elem)) (hs : (P.info? elem).map (·.size) = some size) :
    (Builtin.copy_ #[dT, sT] ty #[.slice d 0 dCap, .slice a 0 sCap]).run P w = .ok (goInt 0) w := by
  cases hq : P.info? elem with
  | none => simp [hq] at hs
  | some i =>
    have hl : ∀ (x : Addr), (loadCells x 0).run P w = .ok #[] w := fun x => by simpa using run_loadCells_list (P := P) w x [] (by simp)
    cases d <;> cases a <;> simp [Builtin.copy_, run_underlying hu, Builtin.lenOf, Builtin.firstCells, sizeOf, typeInfo, hq, storeCells, hl]
/-- copy of a whole row of structs into one that is as long and owned. -/
theorem run_copy_own {P : Program} {w : World} (dT sT ty : TypeId) (elem : TypeId) (hu : P.underlying dT = some (.slice elem)) (size : Nat) (hsz : (P.info? elem).map (·.size) = some size)
    (g n cap sCap : Nat) (sp : Option Addr) (base : Nat) (xs : List Value) (hown : w.ownsRow base elem size (.slice (some ⟨g, 0, none⟩) n cap) n xs) (cs : List Value) (hn : cs.length = n * size)
    (hsrc : 0 < n → ∃ ad, sp = some ad ∧ ∀ j v, cs[j]? = some v → w.cell? (ad.add j) = some v) (h1 : ∀ v ∈ cs, v.oneCell' = true) :
    ∃ w', (Builtin.copy_ #[dT, sT] ty #[.slice (some ⟨g, 0, none⟩) n cap, .slice sp n sCap]).run P w = .ok (goInt n) w' ∧ w'.ownsRow base elem size (.slice (some ⟨g, 0, none⟩) n cap) n cs ∧ w.grownBy w' (some g) := by
  by_cases h0 : n = 0
  · subst h0
    obtain rfl : cs = [] := List.eq_nil_of_length_eq_zero (by omega)
    have hx : xs = [] := List.eq_nil_of_length_eq_zero (by rw [hown.1]; omega)
    subst hx
    exact ⟨w, run_copy_zero (P := P) w dT sT ty elem (some ⟨g, 0, none⟩) sp cap sCap size hu hsz, hown, ⟨rfl, rfl, rfl, Nat.le_refl _, fun _ _ _ => rfl⟩⟩
  · obtain ⟨ad, rfl, hc⟩ := hsrc (by omega)
    rcases hown.2 with ⟨h', _⟩ | ⟨g', cap', cur, h', hb, hg, hnc, hm, hcs, _⟩
    · simp at h'
    · simp only [Value.slice.injEq, Option.some.injEq, Addr.mk.injEq, and_true, true_and] at h'
      obtain ⟨rfl, rfl⟩ := h'
      have hle : cs.length ≤ cur.size := by rw [hn, hcs]; exact Nat.mul_le_mul_right _ hnc
      refine ⟨_, run_copy_whole (P := P) w dT sT ty elem g n cap ad sCap size cur elem cs hu hsz hg hn hc hle h1, ⟨hn, .inr ⟨g, cap, _, rfl, hb, by simpa using setRow_heap w g cur _ elem _ hg, hnc, hm, ?_, ?_⟩⟩, ⟨rfl, rfl, rfl, by simp [World.setRow], fun k _ hk => setRow_other w g k _ (fun e => hk (by rw [e]))⟩⟩
      · simp only [List.size_toArray, List.length_append, List.length_drop, Array.length_toList]; omega
      · rw [← hn]; exact List.take_left
theorem actsV_one (l : List A3) : ∀ u ∈ actsV l, u.oneCell' = true := by
  intro u hu
  simp only [actsV, List.mem_flatMap, A3.cells] at hu
  obtain ⟨a, _, h⟩ := hu
  exact three_ints u h
theorem Tryz.sizeAct : (Tryz.prog.info? 151).map (·.size) = some 3 := by kernel_rfl
set_option maxHeartbeats 400000 in
theorem drain_waiting {w : World} {S : Nat → Prop} {t : Nat} {l : List A3} (h : DrIs w S t l) (hl : l.length ≤ 16) :
    Calls Tryz.prog 99 #[.pointer (some ⟨t, 0, none⟩)] w fun e w' => ∃ ao cap, e = .returned (.slice ao l.length cap) ∧ As w' ao l.length (getL l) ∧ (∀ g off, ao = some ⟨g, off, none⟩ → w.heap.size ≤ g) ∧ Below w.heap.size w w' := by
  obtain ⟨i0, hi, hz0, hz1, hz2⟩ := info_parts Tryz.infoAct
  obtain ⟨v, h1, h2, h3, h4, h5⟩ := h
  have ht : t < w.heap.size := World.block_lt_of_cell? w _ h1
  obtain ⟨ao, cap, rfl, hs, hao, hc⟩ := h4.form
  generalize hn : l.length = n at *
  go_enter Tryz.func99, Tryz.ntmps99
  go_wp2_with (at_make; refine wpList_make_full _ rfl _ _ 74 rfl 0 151 i0 (.agg #[.int .u64 0, .int .i64 0, .int .i64 0]) 3 Tryz.underlying74 hi hz0 hz1 _ _ _ _ n rfl rfl rfl rfl ?b1 ?b2 (Nat.zero_le _) ?_)
  case b1 => rw [hz2]; omega
  case b2 => unfold maxLen; omega
  intro w1 hown hgrow
  have hb1 : Below w.heap.size w w1 := (Below.refl _ _).grown hgrow (Nat.le_refl _) (by simp)
  have h1' : w1.cell? ⟨t, 0, none⟩ = some (.slice ao n cap) := by rw [hb1.cell ht]; exact h1
  have hsrc : 0 < n → ∃ ad, ao = some ad ∧ ∀ j v, (actsV l)[j]? = some v → w1.cell? (ad.add j) = some v := by
    intro h0
    obtain ⟨b, off, e, -⟩ := hs 0 h0
    have ho : (Value.slice ao n cap).ownBlock = some b := hao b off e
    have h4' := h4.below hb1
    rcases h4'.2 with ⟨_, hz⟩ | ⟨g', cap', cur, hv, _⟩
    · omega
    · simp only [Value.slice.injEq] at hv
      obtain ⟨rfl, -, -⟩ := hv
      exact ⟨_, rfl, h4'.cells (g := g') rfl⟩
  obtain ⟨w2, hrun, hown2, hgrow2⟩ := run_copy_own (P := Tryz.prog) 74 74 3 151 Tryz.underlying74 3 Tryz.sizeAct w.heap.size n n cap ao 0 _ hown (actsV l) (by rw [actsV_length, hn]) hsrc (actsV_one l)
  clear hgrow hsrc hi
  go_wp2
  go_ret
  obtain ⟨ao', cap', e, q1, q2, -⟩ := Own3.form (w := w2) (v := .slice (some ⟨w.heap.size, 0, none⟩) n n) (l := l) (by unfold Own3; rw [hn]; exact hown2)
  simp only [Value.slice.injEq] at e
  obtain ⟨rfl, -, rfl⟩ := e
  rw [hn] at q1
  exact ⟨_, _, rfl, q1, fun g off hg => by simp at hg; omega, hb1.grown hgrow2 hb1.size (fun k hk => by simp at hk; omega)⟩
/-- The least epoch of the first k, and the first one's. -/
def leastK (l : List A3) : Nat → Int
  | 0 => (getL l 0).e
  | k + 1 => min (leastK l k) (getL l k).e
def leastL (l : List A3) : Int := if l.length = 0 then 0 else leastK l l.length
end Go.Proofs.YtfghfbmmaclcnaaGreat
namespace Go.Proofs.YtfghfbmmaclcnaaGreat
set_option maxRecDepth 20000
open Go.RowKit
theorem nil_put (a b c : Int) (w : World) :
    Calls Tryz.prog 173 #[.pointer none, .agg #[.int .u64 a, .int .i64 b, .int .i64 c]] w fun e w' => e = .returned (.int .i64 2) ∧ Below w.heap.size w w' := by
  go_enter Tryz.func173, Tryz.ntmps173
  go_wp2
  go_ret
  exact ⟨rfl, (Below.refl _ _).alloc (Nat.le_refl _) _⟩
theorem nil_ready (s : Int) (w : World) :
    Calls Tryz.prog 95 #[.pointer none, .int .u64 s] w fun e w' => e = .returned (.slice none 0 0) ∧ w' = w := by
  go_enter Tryz.func95, Tryz.ntmps95
  go_wp2
  go_ret
  exact ⟨rfl, rfl⟩
theorem nil_waiting (w : World) :
    Calls Tryz.prog 99 #[.pointer none] w fun e w' => e = .returned (.slice none 0 0) ∧ w' = w := by
  go_enter Tryz.func99, Tryz.ntmps99
  go_wp2
  go_ret
  exact ⟨rfl, rfl⟩
theorem nil_len (w : World) :
    Calls Tryz.prog 171 #[.pointer none] w fun e w' => e = .returned (.int .i64 0) ∧ w' = w := by
  go_enter Tryz.func171, Tryz.ntmps171
  go_wp2
  go_ret
  exact ⟨rfl, rfl⟩
/-- The program's list, all of it in blocks from B on. -/
def DrLow (w : World) (B t : Nat) (l : List A3) : Prop := ∃ S, DrIs w S t l ∧ (∀ k, S k → B ≤ k) ∧ B ≤ w.heap.size
theorem more_low {S : Nat → Prop} {w w' : World} {B : Nat} (h : ∀ k, S k → B ≤ k) (hB : B ≤ w.heap.size) : ∀ k, More S w w' k → B ≤ k := by
  rintro k (hk | ⟨hk, _⟩)
  · exact h k hk
  · omega
theorem low_below {w w' : World} {B t : Nat} {l : List A3} (h : DrLow w B t l) (hb : Below w.heap.size w w') : DrLow w' B t l := by
  obtain ⟨S, h1, h2, h3⟩ := h
  exact ⟨S, h1.below hb, h2, Nat.le_trans h3 hb.size⟩
theorem low_new (w : World) :
    Calls Tryz.prog 76 #[] w fun e w' => ∃ t, e = .returned (.pointer (some ⟨t, 0, none⟩)) ∧ DrLow w' w.heap.size t [] ∧ Below w.heap.size w w' := by
  refine (drain_new w).mono ?_
  rintro e w' ⟨rfl, hz, h, hb⟩
  exact ⟨_, rfl, ⟨_, h, fun k hk => by omega, by omega⟩, hb⟩
theorem low_put {w : World} {B t : Nat} {l : List A3} (h : DrLow w B t l) (a : A3) :
    Calls Tryz.prog 173 #[.pointer (some ⟨t, 0, none⟩), a.val] w fun e w' => e = .returned (.int .i64 (putEZ l)) ∧ DrLow w' B t (putL l a) ∧ Below B w w' := by
  obtain ⟨S, h1, h2, h3⟩ := h
  refine (drain_put h1 a).mono ?_
  rintro e w' ⟨rfl, hd, hk⟩
  exact ⟨rfl, ⟨_, hd, more_low h2 h3, Nat.le_trans h3 hk.size⟩, hk.below h3 h2⟩
theorem low_ready {w : World} {B t : Nat} {l : List A3} (h : DrLow w B t l) (hl : l.length ≤ 16) (s : Int) :
    Calls Tryz.prog 95 #[.pointer (some ⟨t, 0, none⟩), .int .u64 s] w fun e w' => ∃ ao cap, e = .returned (.slice ao (readyL s l).length cap) ∧ As w' ao (readyL s l).length (getL (readyL s l)) ∧ DrLow w' B t (restL s l) ∧ Below B w w' := by
  obtain ⟨S, h1, h2, h3⟩ := h
  refine (drain_ready h1 hl s).mono ?_
  rintro e w' ⟨ao, cap, rfl, ha, -, hd, hk⟩
  exact ⟨ao, cap, rfl, ha, ⟨_, hd, more_low h2 h3, Nat.le_trans h3 hk.size⟩, hk.below h3 h2⟩
theorem low_len {w : World} {B t : Nat} {l : List A3} (h : DrLow w B t l) :
    Calls Tryz.prog 171 #[.pointer (some ⟨t, 0, none⟩)] w fun e w' => e = .returned (.int .i64 (l.length : Int)) ∧ w' = w := by
  obtain ⟨S, h1, _⟩ := h
  exact drain_len h1
end Go.Proofs.YtfghfbmmaclcnaaGreat
namespace Go.Proofs.YtfghfbmmaclcnaaGreat
set_option maxRecDepth 20000
open Go.ChangeShapes Go.WideShapes Go.RowKit
theorem act_cellsZ : Tryz.prog.cellsOf 151 = 3 := by kernel_rfl
theorem int_cellsZ : Tryz.prog.cellsOf 3 = 1 := by kernel_rfl
theorem u64_cells : Tryz.prog.cellsOf 32 = 1 := by kernel_rfl
/-- The cells of an action. -/
theorem act_of_trodZ {H : Type} {enc : TypeId × Value → H} {W : World} {base : Nat} {sp : Nat → Bool} {held : Bool} {fuel : Nat} {cs : List Value} {x : DataW H × List MemPlace}
    (h : DataW.trod enc Tryz.prog W base sp held fuel 151 cs = some x) (hl : cs.length = 3) : ∃ a : A3, cs = [.int .u64 a.e, .int .i64 a.k, .int .i64 a.p] := by
  obtain ⟨c0, c1, c2, rfl⟩ := list3 hl
  obtain ⟨xs, m, _, hx, _, hlen, hfs⟩ := DataW.trod_struct Tryz.underlying151 h
  obtain ⟨y0, y1, y2, rfl⟩ := list3 (l := xs) hlen
  have f0 := hfs 0 _ rfl
  have f1 := hfs 1 _ rfl
  have f2 := hfs 2 _ rfl
  simp [u64_cells] at f0
  simp [int_cellsZ] at f1 f2
  obtain ⟨e, e0, _, _⟩ := DataW.trod_int Tryz.underlying32 f0
  obtain ⟨k, e1, _, _⟩ := DataW.trod_int Tryz.underlying3 f1
  obtain ⟨p, e2, _, _⟩ := DataW.trod_int Tryz.underlying3 f2
  cases e0; cases e1; cases e2
  exact ⟨⟨e, k, p⟩, rfl⟩
/-- What is told of an argument that is an action. -/
def IsActZ (v : Value) : Prop := ∃ a : A3, v = a.val
theorem open_action {H : Type} {enc : TypeId × Value → H} {W : World} {base : Nat} {v : Value} {d : DataW H} {p : List MemPlace} (hv : Value.okWide Tryz.prog W .any base 151 v)
    (h : DataW.Trod enc Tryz.prog W 0 (fun _ => true) true 151 v d p) : IsActZ v := by
  obtain ⟨cs, rfl, hsz⟩ := okWide_struct Tryz.underlying151 hv
  rw [act_cellsZ] at hsz
  obtain ⟨l⟩ := cs
  obtain ⟨fuel, hf⟩ := h
  obtain ⟨a, e⟩ := act_of_trodZ (cs := l) (by simpa [Value.cells] using hf) (by simpa using hsz)
  exact ⟨a, by rw [e]; rfl⟩
/-- What is told of an argument that is a slice of actions. -/
def IsAs (w : World) (v : Value) : Prop := ∃ ao len cap z, v = .slice ao len cap ∧ len ≤ 9223372036854775807 ∧ As w ao len z
theorem open_actions {H : Type} {enc : TypeId × Value → H} {W : World} {base : Nat} {v : Value} {d : DataW H} {p : List MemPlace} (hv : Value.okWide Tryz.prog W .any base 74 v)
    (h : DataW.Trod enc Tryz.prog W 0 (fun _ => true) true 74 v d p) : IsAs W v := by
  obtain ⟨ao, len, cap, rfl⟩ := okWide_slice Tryz.underlying74 hv
  obtain ⟨fuel, hf⟩ := h
  rcases Go.Deep.open_slice Tryz.underlying74 hf with ⟨hcs, _⟩ | ⟨a, l, c, m, n, D, Pl, hcs, _, hl, hm, hmm, _, hc⟩
  · simp [Value.cells] at hcs
    obtain ⟨rfl, rfl, rfl⟩ := hcs
    exact ⟨_, _, _, fun _ => ⟨0, 0, 0⟩, rfl, by decide, fun j hj => by omega⟩
  · simp [Value.cells] at hcs
    obtain ⟨rfl, rfl, rfl⟩ := hcs
    simp only [if_true] at hmm
    subst hmm
    rw [act_cellsZ] at hc
    obtain ⟨b, off, spot⟩ := a
    have hone : ∀ i, i < m → ∃ z : A3, W.cell? (Addr.add ⟨b, off, spot⟩ (i * 3)) = some (.int .u64 z.e) ∧ W.cell? ((Addr.add ⟨b, off, spot⟩ (i * 3)).add 1) = some (.int .i64 z.k) ∧ W.cell? ((Addr.add ⟨b, off, spot⟩ (i * 3)).add 2) = some (.int .i64 z.p) := by
      intro i hi
      obtain ⟨cs', h1, h2⟩ := hc i hi
      obtain ⟨_, hlen, hget⟩ := World.cells?_some h1
      obtain ⟨z, rfl⟩ := act_of_trodZ h2 hlen
      refine ⟨z, ?_, ?_, ?_⟩
      · have := hget 0 (by decide); rw [show (Addr.add (Addr.add ⟨b, off, spot⟩ (i * 3)) 0) = Addr.add ⟨b, off, spot⟩ (i * 3) by simp [Addr.add]] at this; exact this
      · exact hget 1 (by decide)
      · exact hget 2 (by decide)
    by_cases h0 : len = 0
    · subst h0
      exact ⟨_, _, _, fun _ => ⟨0, 0, 0⟩, rfl, by decide, fun j hj => by omega⟩
    · have hspot : spot = none := by
        obtain ⟨z, h1, _⟩ := hone 0 (by omega)
        simpa [Addr.add] using World.cell?_spot h1
      subst hspot
      obtain ⟨z, hz⟩ := Go.Deep.choose_lt hone
      refine ⟨_, _, _, z, rfl, by unfold maxLen at hm; omega, fun j hj => ⟨b, off, rfl, ?_⟩⟩
      obtain ⟨q0, q1, q2⟩ := hz j (by omega)
      simp only [Go.WideShapes.add_plain] at q0 q1 q2
      exact ⟨q0, q1, q2⟩
end Go.Proofs.YtfghfbmmaclcnaaGreat
namespace Go.Proofs.YtfghfbmmaclcnaaGreat
set_option maxRecDepth 20000
open Go.ChangeShapes Go.WideShapes Go.RowKit
theorem u8_cells : Tryz.prog.cellsOf 5 = 1 := by kernel_rfl
/-- What is told of an argument that is a slice of bytes. -/
def IsU8s (w : World) (v : Value) : Prop := ∃ ao len cap z, v = .slice ao len cap ∧ len ≤ 9223372036854775807 ∧ Sl .u8 w ao len z ∧ ∀ j, j < len → 0 ≤ z j ∧ z j ≤ 255
theorem open_u8s {H : Type} {enc : TypeId × Value → H} {W : World} {base : Nat} {v : Value} {d : DataW H} {p : List MemPlace} (hv : Value.okWide Tryz.prog W .any base 252 v)
    (h : DataW.Trod enc Tryz.prog W 0 (fun _ => true) true 252 v d p) : IsU8s W v := by
  obtain ⟨ao, len, cap, rfl⟩ := okWide_slice Tryz.underlying252 hv
  obtain ⟨fuel, hf⟩ := h
  rcases Go.Deep.open_slice1 Tryz.underlying252 u8_cells hf with ⟨hcs, _⟩ | ⟨a, l, c, m, n, V, D, Pl, hcs, _, hl, hm, hmm, _, hc⟩
  · simp [Value.cells] at hcs
    obtain ⟨rfl, rfl, rfl⟩ := hcs
    exact ⟨_, _, _, fun _ => 0, rfl, by decide, fun j hj => by omega, fun j hj => by omega⟩
  · simp [Value.cells] at hcs
    obtain ⟨rfl, rfl, rfl⟩ := hcs
    simp only [if_true] at hmm
    subst hmm
    obtain ⟨b, off, spot⟩ := a
    have hone : ∀ i, i < m → W.cell? (Addr.add ⟨b, off, spot⟩ i) = some (.int .u8 (intOf (V i))) ∧ 0 ≤ intOf (V i) ∧ intOf (V i) ≤ 255 := by
      intro i hi
      obtain ⟨h1, h2⟩ := hc i hi
      obtain ⟨z, e, _, hwf⟩ := DataW.trod_int Tryz.underlying5 h2
      simp only [List.cons.injEq, and_true] at e
      have := bounds_u8 hwf
      rw [h1, e]
      exact ⟨rfl, by simp only [intOf]; omega, by simp only [intOf]; omega⟩
    by_cases h0 : len = 0
    · subst h0
      exact ⟨_, _, _, fun _ => 0, rfl, by decide, fun j hj => by omega, fun j hj => by omega⟩
    · have hspot : spot = none := by simpa [Addr.add] using World.cell?_spot (hone 0 (by omega)).1
      subst hspot
      refine ⟨_, _, _, fun j => intOf (V j), rfl, by unfold maxLen at hm; omega, fun j hj => ⟨b, off, rfl, ?_⟩, fun j hj => (hone j (by omega)).2⟩
      have := (hone j (by omega)).1
      rw [Go.WideShapes.add_plain] at this
      exact this
/-- The first i actions of a slice. -/
def takeZ (z : Nat → A3) (i : Nat) : List A3 := (List.range i).map z
theorem takeZ_length (z : Nat → A3) (i : Nat) : (takeZ z i).length = i := by simp [takeZ]
theorem takeZ_succ (z : Nat → A3) (i : Nat) : takeZ z (i + 1) = takeZ z i ++ [z i] := by simp [takeZ, List.range_succ]
theorem ready_rest_length (s : Int) (l : List A3) : (readyL s l).length + (restL s l).length = l.length := by
  induction l with
  | nil => rfl
  | cons a l ih =>
    unfold readyL restL at *
    by_cases h : a.e ≤ s <;> simp [h] <;> omega
theorem readyL_get (s : Int) (l : List A3) (i : Nat) (h : i < (readyL s l).length) : (getL (readyL s l) i).e ≤ s ∧ getL (readyL s l) i ∈ l := by
  have e : getL (readyL s l) i = (readyL s l)[i] := by simp [getL, List.getD_eq_getElem?_getD, h]
  have hm : getL (readyL s l) i ∈ readyL s l := by rw [e]; exact List.getElem_mem h
  generalize getL (readyL s l) i = a at *
  unfold readyL at hm
  rw [List.mem_filter] at hm
  exact ⟨by simpa using hm.2, hm.1⟩
theorem restL_above (s : Int) (l : List A3) : ∀ a ∈ restL s l, s < a.e := by
  intro a ha
  unfold restL at ha
  rw [List.mem_filter] at ha
  have := ha.2
  simp at this
  omega
end Go.Proofs.YtfghfbmmaclcnaaGreat
namespace Go.Proofs.YtfghfbmmaclcnaaGreat
set_option maxRecDepth 20000
open Go.RowKit
/-- Those of the first k that did not go. -/
def waitK (z : Nat → A3) (g : Nat → Bool) : Nat → List A3
  | 0 => []
  | k + 1 => waitK z g k ++ (if g k then [] else [z k])
theorem waitK_length (z : Nat → A3) (g : Nat → Bool) (k : Nat) : (waitK z g k).length ≤ k := by
  induction k with
  | zero => simp [waitK]
  | succ k ih => cases h : g k <;> simp [waitK, h] <;> omega
theorem waitK_congr {z z' : Nat → A3} {g g' : Nat → Bool} (k : Nat) (hz : ∀ i, i < k → z i = z' i) (hg : ∀ i, i < k → g i = g' i) : waitK z g k = waitK z' g' k := by
  induction k with
  | zero => rfl
  | succ k ih => rw [waitK, waitK, ih (fun i h => hz i (by omega)) (fun i h => hg i (by omega)), hz k (by omega), hg k (by omega)]
/-- Those of the first k that are ready for s go. -/
def goneK (z : Nat → A3) (g : Nat → Bool) (s : Int) (k : Nat) : Nat → Bool := fun i => g i || (decide (i < k) && decide ((z i).e ≤ s))
theorem goneK_zero (z : Nat → A3) (g : Nat → Bool) (s : Int) : goneK z g s 0 = g := by
  funext i; simp [goneK]
theorem goneK_skip (z : Nat → A3) (g : Nat → Bool) (s : Int) (k : Nat) (h : g k = true ∨ s < (z k).e) : goneK z g s (k + 1) = goneK z g s k := by
  funext i
  simp only [goneK]
  by_cases hi : i = k
  · subst hi
    rcases h with h | h
    · simp [h]
    · have : ¬ (z i).e ≤ s := by omega
      simp [this]
  · have : decide (i < k + 1) = decide (i < k) := by congr 1; exact propext (by omega)
    rw [this]
theorem goneK_take (z : Nat → A3) (g : Nat → Bool) (s : Int) (k : Nat) (h : (z k).e ≤ s) : goneK z g s (k + 1) = fun i => if i = k then true else goneK z g s k i := by
  funext i
  simp only [goneK]
  by_cases hi : i = k
  · subst hi; simp [h]
  · have : decide (i < k + 1) = decide (i < k) := by congr 1; exact propext (by omega)
    rw [this, if_neg hi]
theorem wait_gone (z : Nat → A3) (g : Nat → Bool) (s : Int) (n k : Nat) (h : k ≤ n) : waitK z (goneK z g s n) k = restL s (waitK z g k) := by
  induction k with
  | zero => rfl
  | succ k ih =>
    rw [waitK, waitK, ih (by omega)]
    have hkn : decide (k < n) = true := by simp; omega
    cases hg : g k
    · by_cases he : (z k).e ≤ s
      · simp [goneK, hg, hkn, he, restL_snoc]
      · simp [goneK, hg, he, restL_snoc]
    · simp [goneK, hg]
theorem wait_ready (z : Nat → A3) (g : Nat → Bool) (s : Int) (k : Nat) : readyL s (waitK z g (k + 1)) = readyL s (waitK z g k) ++ (if g k = false ∧ (z k).e ≤ s then [z k] else []) := by
  rw [waitK]
  cases hg : g k
  · simp [readyL_snoc]
  · simp
def boolsV (g : Nat → Bool) (n : Nat) : List Value := (List.range n).map fun i => .bool (g i)
theorem boolsV_length (g : Nat → Bool) (n : Nat) : (boolsV g n).length = n := by simp [boolsV]
theorem boolsV_get (g : Nat → Bool) (n i : Nat) (h : i < n) : (boolsV g n)[i]? = some (.bool (g i)) := by simp [boolsV, h]
theorem boolsV_set (g : Nat → Bool) (n k : Nat) (b : Bool) : (boolsV g n).set k (.bool b) = boolsV (fun i => if i = k then b else g i) n := by
  apply List.ext_getElem?
  intro j
  by_cases hj : j < n
  · rw [boolsV_get _ _ _ hj, List.getElem?_set]
    by_cases e : k = j
    · subst e; simp [boolsV_length, hj]
    · rw [if_neg e, boolsV_get _ _ _ hj, if_neg (fun h => e h.symm)]
  · rw [List.getElem?_eq_none (by rw [List.length_set, boolsV_length]; omega), List.getElem?_eq_none (by rw [boolsV_length]; omega)]
/-- A row of bools that is owned. -/
def OwnB (w : World) (v : Value) (g : Nat → Bool) (n : Nat) : Prop := w.ownsRow 0 4 1 v n (boolsV g n)
theorem OwnB.form {w : World} {v : Value} {g : Nat → Bool} {n : Nat} (h : OwnB w v g n) : ∃ ao cap, v = .slice ao n cap ∧ (∀ i, i < n → ∃ b, ao = some ⟨b, 0, none⟩ ∧ v.ownBlock = some b ∧ w.cell? ⟨b, i, none⟩ = some (.bool (g i)) ∧ w.frozen? ⟨b, i, none⟩ = false) ∧ n ≤ cap ∧ cap ≤ 9223372036854775807 := by
  have h' := h
  rcases h.2 with ⟨h1, h0⟩ | ⟨b, cap, cur, hv, _, hg, hc, hm, _⟩
  · exact ⟨none, 0, by rw [h1, h0], fun j hj => by omega, by omega, by omega⟩
  · subst hv
    refine ⟨_, _, rfl, fun i hi => ⟨b, rfl, rfl, ?_, World.ownsRow.frozenAt h' i⟩, hc, by unfold maxLen at hm; exact hm⟩
    rw [World.ownsRow.cellAt h' i (by omega), boolsV_get _ _ _ hi]
theorem OwnB.keep {w w' : World} {v : Value} {g : Nat → Bool} {n : Nat} {S : Nat → Prop} (h : OwnB w v g n) (hk : Keeps S w w') (hS : ∀ b, v.ownBlock = some b → ¬ S b) : OwnB w' v g n := own_keep h hk hS
/-- The reference's list, in block t, with its two rows; M holds all. -/
structure RefIs (w : World) (M : Nat → Prop) (t : Nat) (l : List A3) (n : Nat) (g : Nat → Bool) (vL vG : Value) : Prop where
  c0 : w.cell? ⟨t, 0, none⟩ = some vL
  f0 : w.frozen? ⟨t, 0, none⟩ = false
  c1 : w.cell? ⟨t, 1, none⟩ = some vG
  f1 : w.frozen? ⟨t, 1, none⟩ = false
  m : M t
  oL : Own3 w vL l
  oG : OwnB w vG g n
  mL : ∀ k, vL.ownBlock = some k → M k ∧ k ≠ t
  mG : ∀ k, vG.ownBlock = some k → M k ∧ k ≠ t
  ne : ∀ k, vL.ownBlock = some k → vG.ownBlock ≠ some k
theorem RefIs.lt {w : World} {M : Nat → Prop} {t n : Nat} {l : List A3} {g : Nat → Bool} {vL vG : Value} (h : RefIs w M t l n g vL vG) : t < w.heap.size := World.block_lt_of_cell? w _ h.c0
theorem RefIs.keep {w w' : World} {M S : Nat → Prop} {t n : Nat} {l : List A3} {g : Nat → Bool} {vL vG : Value} (h : RefIs w M t l n g vL vG) (hk : Keeps S w w') (hS : ∀ k, M k → ¬ S k) : RefIs w' M t l n g vL vG :=
  ⟨by rw [hk.cell h.lt (hS t h.m)]; exact h.c0, by rw [hk.frozen h.lt (hS t h.m)]; exact h.f0, by rw [hk.cell h.lt (hS t h.m)]; exact h.c1, by rw [hk.frozen h.lt (hS t h.m)]; exact h.f1, h.m,
    h.oL.keep hk (fun k e => hS k (h.mL k e).1), h.oG.keep hk (fun k e => hS k (h.mG k e).1), h.mL, h.mG, h.ne⟩
theorem RefIs.below {w w' : World} {M : Nat → Prop} {t n : Nat} {l : List A3} {g : Nat → Bool} {vL vG : Value} (h : RefIs w M t l n g vL vG) (hb : Below w.heap.size w w') : RefIs w' M t l n g vL vG := h.keep (Below.keeps (S := fun _ => False) hb) (fun _ _ => id)
theorem RefIs.wider {w : World} {M S : Nat → Prop} {t n : Nat} {l : List A3} {g : Nat → Bool} {vL vG : Value} (h : RefIs w M t l n g vL vG) (hS : ∀ k, M k → S k) : RefIs w S t l n g vL vG :=
  ⟨h.c0, h.f0, h.c1, h.f1, hS t h.m, h.oL, h.oG, fun k e => ⟨hS k (h.mL k e).1, (h.mL k e).2⟩, fun k e => ⟨hS k (h.mG k e).1, (h.mG k e).2⟩, h.ne⟩
/-- The same, told by those who wait. -/
def RefW (w : World) (M : Nat → Prop) (t : Nat) (l : List A3) (c : Nat) : Prop := ∃ n z g vL vG, n ≤ c ∧ RefIs w M t (takeZ z n) n g vL vG ∧ waitK z g n = l
theorem more_more {M : Nat → Prop} {a b c d : World} (h1 : a.heap.size ≤ b.heap.size) (h2 : b.heap.size ≤ c.heap.size) (h3 : c.heap.size ≤ d.heap.size) : ∀ k, More (More M b c) c d k → More M a d k := by
  rintro k ((h | ⟨h, h'⟩) | ⟨h, h'⟩)
  · exact .inl h
  · exact .inr ⟨by omega, by omega⟩
  · exact .inr ⟨by omega, h'⟩
/-- The row of actions is another one. -/
theorem RefIs.storeL {w w1 : World} {M : Nat → Prop} {t n : Nat} {l l' : List A3} {g : Nat → Bool} {vL vG v : Value} (h : RefIs w M t l n g vL vG) (hk : Keeps (fun k => vL.ownBlock = some k) w w1) (ho : Own3 w1 v l') (hv : ∀ k, v.ownBlock = some k → vL.ownBlock = some k ∨ w.heap.size ≤ k) :
    RefIs (w1.setCell ⟨t, 0, none⟩ v) (More M w (w1.setCell ⟨t, 0, none⟩ v)) t l' n g v vG ∧ Keeps M w (w1.setCell ⟨t, 0, none⟩ v) := by
  have hlt := h.lt
  have hsz : (w1.setCell ⟨t, 0, none⟩ v).heap.size = w1.heap.size := by simp [World.setCell]
  have hnt : ¬ vL.ownBlock = some t := fun e => (h.mL t e).2 rfl
  have K1 : Keeps (fun k => k = t) w1 (w1.setCell ⟨t, 0, none⟩ v) := (Keeps.refl (fun k => k = t) w1).setCell ⟨t, 0, none⟩ (fun _ => rfl) v
  have q0 : w1.cell? ⟨t, 0, none⟩ = some vL := by rw [hk.cell hlt hnt]; exact h.c0
  have q1 : w1.cell? ⟨t, 1, none⟩ = some vG := by rw [hk.cell hlt hnt]; exact h.c1
  have hvt : ∀ k, v.ownBlock = some k → k ≠ t := fun k e => by
    rcases hv k e with e | e
    · exact (h.mL k e).2
    · omega
  refine ⟨⟨World.cell?_setCell_same _ _ _ q0, ?_, ?_, ?_, .inl h.m, ho.keep K1 (fun k e => hvt k e), (h.oG.keep hk (fun k e e' => h.ne k e' e)).keep K1 (fun k e => (h.mG k e).2), fun k e => ⟨?_, hvt k e⟩, fun k e => ⟨.inl (h.mG k e).1, (h.mG k e).2⟩, fun k e e' => ?_⟩, (hk.wider (fun k _ e => (h.mL k e).1)).setCell _ (fun _ => h.m) v⟩
  · rw [World.frozen?_setCell, hk.frozen hlt hnt]; exact h.f0
  · rw [World.cell?_setCell_other _ _ _ _ (by simp)]; exact q1
  · rw [World.frozen?_setCell, hk.frozen hlt hnt]; exact h.f1
  · rcases hv k e with e' | e'
    · exact .inl (h.mL k e').1
    · exact .inr ⟨e', by rw [hsz]; exact (ho.lt k e).2⟩
  · rcases hv k e with e2 | e2
    · exact h.ne k e2 e'
    · have := (h.oG.lt k e').2; omega
/-- The row of bools is another one. -/
theorem RefIs.storeG {w w1 : World} {M : Nat → Prop} {t n m : Nat} {l : List A3} {g g' : Nat → Bool} {vL vG v : Value} (h : RefIs w M t l n g vL vG) (hk : Keeps (fun k => vG.ownBlock = some k) w w1) (ho : OwnB w1 v g' m) (hv : ∀ k, v.ownBlock = some k → vG.ownBlock = some k ∨ w.heap.size ≤ k) :
    RefIs (w1.setCell ⟨t, 1, none⟩ v) (More M w (w1.setCell ⟨t, 1, none⟩ v)) t l m g' vL v ∧ Keeps M w (w1.setCell ⟨t, 1, none⟩ v) := by
  have hlt := h.lt
  have hsz : (w1.setCell ⟨t, 1, none⟩ v).heap.size = w1.heap.size := by simp [World.setCell]
  have hnt : ¬ vG.ownBlock = some t := fun e => (h.mG t e).2 rfl
  have K1 : Keeps (fun k => k = t) w1 (w1.setCell ⟨t, 1, none⟩ v) := (Keeps.refl (fun k => k = t) w1).setCell ⟨t, 1, none⟩ (fun _ => rfl) v
  have q0 : w1.cell? ⟨t, 0, none⟩ = some vL := by rw [hk.cell hlt hnt]; exact h.c0
  have q1 : w1.cell? ⟨t, 1, none⟩ = some vG := by rw [hk.cell hlt hnt]; exact h.c1
  have hvt : ∀ k, v.ownBlock = some k → k ≠ t := fun k e => by
    rcases hv k e with e | e
    · exact (h.mG k e).2
    · omega
  refine ⟨⟨?_, ?_, World.cell?_setCell_same _ _ _ q1, ?_, .inl h.m, (h.oL.keep hk (fun k e e' => h.ne k e e')).keep K1 (fun k e => (h.mL k e).2), ho.keep K1 (fun k e => hvt k e), fun k e => ⟨.inl (h.mL k e).1, (h.mL k e).2⟩, fun k e => ⟨?_, hvt k e⟩, fun k e e' => ?_⟩, (hk.wider (fun k _ e => (h.mG k e).1)).setCell _ (fun _ => h.m) v⟩
  · rw [World.cell?_setCell_other _ _ _ _ (by simp)]; exact q0
  · rw [World.frozen?_setCell, hk.frozen hlt hnt]; exact h.f0
  · rw [World.frozen?_setCell, hk.frozen hlt hnt]; exact h.f1
  · rcases hv k e with e' | e'
    · exact .inl (h.mG k e').1
    · exact .inr ⟨e', by rw [hsz]; exact (ho.lt k e).2⟩
  · rcases hv k e' with e2 | e2
    · exact h.ne k e e2
    · have := (h.oL.lt k e).2; omega
/-- One bool is set. -/
theorem RefIs.setG {w : World} {M : Nat → Prop} {t n i b : Nat} {l : List A3} {g : Nat → Bool} {vL vG : Value} (h : RefIs w M t l n g vL vG) (hi : i < n) (hb : vG.ownBlock = some b) (u : Bool) :
    RefIs (w.setCell ⟨b, i, none⟩ (.bool u)) M t l n (fun j => if j = i then u else g j) vL vG ∧ Keeps M w (w.setCell ⟨b, i, none⟩ (.bool u)) := by
  have hbt := (h.mG b hb).2
  have K1 : Keeps (fun k => k = b) w (w.setCell ⟨b, i, none⟩ (.bool u)) := (Keeps.refl (fun k => k = b) w).setCell ⟨b, i, none⟩ (fun _ => rfl) _
  have hlt := h.lt
  have oG := h.oG
  obtain ⟨ao, cap, rfl, hs, -⟩ := h.oG.form
  obtain ⟨b', rfl, e, -⟩ := hs i hi
  have e' : b' = b := by rw [hb] at e; simpa using e.symm
  subst e'
  refine ⟨⟨?_, ?_, ?_, ?_, h.m, h.oL.keep K1 (fun k e e' => h.ne k e (by rw [e']; exact hb)), ?_, h.mL, h.mG, h.ne⟩, (Keeps.refl M w).setCell _ (fun _ => (h.mG b' hb).1) _⟩
  · rw [K1.cell hlt (fun e => hbt e.symm)]; exact h.c0
  · rw [K1.frozen hlt (fun e => hbt e.symm)]; exact h.f0
  · rw [K1.cell hlt (fun e => hbt e.symm)]; exact h.c1
  · rw [K1.frozen hlt (fun e => hbt e.symm)]; exact h.f1
  · have := (World.ownsRow.stored oG i (.bool u)).1
    unfold OwnB
    rw [← boolsV_set]
    exact this
theorem RefW.keep {w w' : World} {M S : Nat → Prop} {t c : Nat} {l : List A3} (h : RefW w M t l c) (hk : Keeps S w w') (hS : ∀ k, M k → ¬ S k) : RefW w' M t l c := by
  obtain ⟨n, z, g, vL, vG, h1, h2, h3⟩ := h
  exact ⟨n, z, g, vL, vG, h1, h2.keep hk hS, h3⟩
theorem RefW.below {w w' : World} {M : Nat → Prop} {t c : Nat} {l : List A3} (h : RefW w M t l c) (hb : Below w.heap.size w w') : RefW w' M t l c := h.keep (Below.keeps (S := fun _ => False) hb) (fun _ _ => id)
theorem RefW.drew {w : World} {M : Nat → Prop} {t c : Nat} {l : List A3} (h : RefW w M t l c) (m : Nat) : RefW (w.drewN m) M t l c := h.below (below_drewN (Below.refl _ _) m)
theorem own3_lit (w : World) : Own3 (w.alloc (.cells #[] 151)) (.slice (some ⟨w.heap.size, 0, none⟩) 0 0) [] := World.ownsRow_lit w #[] 0 (Nat.zero_le _) (by decide) rfl
theorem own_one {w : World} {v : Value} {l : List A3} (h : Own3 w v l) (o : Obj) : (w.alloc o).ownsRow 0 151 3 v l.length (actsV l) := World.ownsRow.alloc h _
theorem As.of_own {w : World} {v : Value} {l : List A3} (h : Own3 w v l) : ∃ ao cap, v = .slice ao l.length cap ∧ As w ao l.length (getL l) := by
  obtain ⟨ao, cap, h1, h2, -⟩ := h.form
  exact ⟨ao, cap, h1, h2⟩
theorem getL_takeZ (z : Nat → A3) (n i : Nat) (h : i < n) : getL (takeZ z n) i = z i := by simp [getL, takeZ, h]
set_option maxHeartbeats 1000000 in
theorem ref_waiting_at {w : World} {M : Nat → Prop} {t n : Nat} {z : Nat → A3} {g : Nat → Bool} {vL vG : Value} (h : RefIs w M t (takeZ z n) n g vL vG) (hn : n ≤ 1000) :
    Calls Tryz.prog 112 #[.pointer (some ⟨t, 0, none⟩)] w fun e w' => ∃ ao cap, e = .returned (.slice ao (waitK z g n).length cap) ∧ As w' ao (waitK z g n).length (getL (waitK z g n)) ∧ Below w.heap.size w w' := by
  obtain ⟨i0, hi, hz0, hz1, hz2⟩ := info_parts Tryz.infoAct
  obtain ⟨ao, cap, rfl, hsL, -, hcL⟩ := h.oL.form
  obtain ⟨bo, bcap, rfl, hsG, hcG⟩ := h.oG.form
  rw [takeZ_length] at *
  have c0 := h.c0
  have c1 := h.c1
  go_enter Tryz.func112, Tryz.ntmps112
  go_wp2
  go_loopw [3, 4] (fun out i wr => ∃ k : Nat, k ≤ n ∧ i = .int .i64 k ∧ Own3 wr out (waitK z g k) ∧ (∀ b, out.ownBlock = some b → w.heap.size ≤ b) ∧ Below w.heap.size w wr)
    (fun _ i _ => n - (intOf i).toNat)
  case atStart => exact ⟨0, Nat.zero_le _, rfl, own3_lit w, fun b hb => by simp [Value.ownBlock] at hb; omega, (Below.refl _ _).alloc (Nat.le_refl _) _⟩
  case round =>
    obtain ⟨k, hk, rfl, hown, hlow, hbel⟩ := hrel
    have hB := hbel.size
    have h' := h.below hbel
    have c0' := h'.c0
    have c1' := h'.c1
    clear c0 c1
    by_cases hlt : k < n
    · obtain ⟨b, off, rfl, d1, d2, d3⟩ := hsL k hlt
      have lb : b < w.heap.size := World.block_lt_of_cell? w _ d1
      obtain ⟨b', rfl, -, g1, -⟩ := hsG k hlt
      have lb' : b' < w.heap.size := World.block_lt_of_cell? w _ g1
      rw [getL_takeZ _ _ _ hlt] at d1 d2 d3
      rw [← hbel.cell lb] at d1 d2 d3
      rw [← hbel.cell lb'] at g1
      have hq := waitK_length z g k
      have HW : Hid (waitK z g (k + 1) = waitK z g k ++ (if g k then [] else [z k])) := rfl
      generalize z k = a at *
      obtain ⟨ae, ak, ap⟩ := a
      simp only at d1 d2 d3
      clear hsL hsG h h'
      cases hgk : g k with
      | true =>
        rw [hgk] at g1 HW
        go_wp2
        go_roundw
        case rel => exact ⟨k + 1, by omega, by go_num, by rw [HW.out, if_pos rfl, List.append_nil]; exact hown, hlow, hbel⟩
        case measure => simp [intOf]; omega
      | false =>
        rw [hgk] at g1 HW
        have hown2 := own_one hown (.cells #[.int .u64 ae, .int .i64 ak, .int .i64 ap] 151)
        have hnews := cell_three wr (.int .u64 ae) (.int .i64 ak) (.int .i64 ap) 151
        go_wp2_with (at_builtin; refine wpList_append_lies _ rfl _ _ 74 rfl 0 151 i0 (.agg #[.int .u64 0, .int .i64 0, .int .i64 0]) 3 24 Tryz.underlying74 hi hz0 hz1 hz2 rfl (by decide) _ _ _ rfl hown2 ⟨wr.heap.size, 0, none⟩ 1 1 [.int .u64 ae, .int .i64 ak, .int .i64 ap] rfl rfl hnews three_ints (by decide) ?c3 ?c4 (Nat.zero_le _) (wr.heap.size + 1) (by simp) ?_)
        case c3 => unfold maxLen; omega
        case c4 => omega
        intro b2 cap' w1 hown' hgrow hat _
        have r1 : Own3 w1 (.slice (some ⟨b2, 0, none⟩) ((waitK z g k).length + 1) cap') (waitK z g k ++ [⟨ae, ak, ap⟩]) := by unfold Own3; rw [actsV_snoc, List.length_append]; exact hown'
        have r2 : Below w.heap.size w w1 := (hbel.alloc hB _).grown hgrow (by simp; omega) (fun k hk => hlow k hk)
        have r3 : ∀ b, (Value.slice (some ⟨b2, 0, none⟩) ((waitK z g k).length + 1) cap').ownBlock = some b → w.heap.size ≤ b := fun b hb => by
          have e : b2 = b := by simpa [Value.ownBlock] using hb
          subst e
          rcases hat with hat | hat
          · exact hlow b2 hat
          · omega
        clear hown' hgrow hat hown hown2 hnews hi
        go_wp2
        go_roundw
        case rel => exact ⟨k + 1, by omega, by go_num, by rw [HW.out]; exact r1, r3, r2⟩
        case measure => simp [intOf]; omega
    · have e : k = n := by omega
      subst e
      obtain ⟨ro, rcap, rfl, hr⟩ := As.of_own hown
      clear hown h' h hi
      go_wp2
      go_ret
      exact ⟨ro, rcap, rfl, hr, hbel⟩
end Go.Proofs.YtfghfbmmaclcnaaGreat
namespace Go.Proofs.YtfghfbmmaclcnaaGreat
set_option maxRecDepth 20000
open Go.RowKit
theorem Tryz.infoBool : (Tryz.prog.info? 4).map (fun i => (i.zero, i.size, i.bytes)) = some (some (.bool false), 1, 1) := by kernel_rfl
theorem one_bool {b : Bool} : ∀ u ∈ [Value.bool b], u.oneCell' = true := by
  intro u hu; simp at hu; subst hu; rfl
theorem boolsV_snoc (g : Nat → Bool) (n : Nat) (b : Bool) : boolsV (fun i => if i = n then b else g i) (n + 1) = boolsV g n ++ [.bool b] := by
  unfold boolsV
  rw [List.range_succ, List.map_append]
  congr 1
  · apply List.map_congr_left
    intro i hi
    have : i < n := by simpa using hi
    simp [show i ≠ n by omega]
  · simp
theorem takeZ_snoc (z : Nat → A3) (n : Nat) (a : A3) : takeZ (fun i => if i = n then a else z i) (n + 1) = takeZ z n ++ [a] := by
  unfold takeZ
  rw [List.range_succ, List.map_append]
  congr 1
  · apply List.map_congr_left
    intro i hi
    have : i < n := by simpa using hi
    simp [show i ≠ n by omega]
  · simp
theorem waitK_snoc (z : Nat → A3) (g : Nat → Bool) (n : Nat) (a : A3) : waitK (fun i => if i = n then a else z i) (fun i => if i = n then false else g i) (n + 1) = waitK z g n ++ [a] := by
  rw [waitK, waitK_congr (z' := z) (g' := g) n (fun i hi => by simp [show i ≠ n by omega]) (fun i hi => by simp [show i ≠ n by omega])]
  simp
set_option maxHeartbeats 2000000 in
theorem ref_put_at {w : World} {M : Nat → Prop} {t n : Nat} {z : Nat → A3} {g : Nat → Bool} {vL vG : Value} (h : RefIs w M t (takeZ z n) n g vL vG) (hn : n ≤ 1000) (a : A3) (hl : (waitK z g n).length < 16) :
    Calls Tryz.prog 114 #[.pointer (some ⟨t, 0, none⟩), a.val] w fun e w' => e = .returned (.int .i64 0) ∧ (∃ vL' vG', RefIs w' (More M w w') t (takeZ z n ++ [a]) (n + 1) (fun i => if i = n then false else g i) vL' vG') ∧ Keeps M w w' := by
  obtain ⟨i0, hi, hz0, hz1, hz2⟩ := info_parts Tryz.infoAct
  obtain ⟨j0, hj, hy0, hy1, hy2⟩ := info_parts Tryz.infoBool
  obtain ⟨ae, ak, ap⟩ := a
  simp only [A3.val]
  have hw := ref_waiting_at (h.below ((Below.refl _ w).alloc (Nat.le_refl _) (.cells #[.int .u64 ae, .int .i64 ak, .int .i64 ap] 151))) hn
  generalize (waitK z g n).length = m at *
  go_enter Tryz.func114, Tryz.ntmps114
  go_wp2_with fail
  refine hw.mono ?_
  rintro e x ⟨ao, cap, rfl, -, hb⟩
  obtain ⟨d0, d1, d2⟩ := cell_arg hb
  have hb' : Below w.heap.size w x := ((Below.refl _ w).alloc (Nat.le_refl _) _).trans (hb.mono (by simp))
  have hx := h.below hb'
  have hsz : w.heap.size < x.heap.size := World.block_lt_of_cell? x _ d0
  clear hb hw
  have hS := h.lt
  obtain ⟨lo, lcap, hvL, hsL, -, hcL⟩ := hx.oL.form
  obtain ⟨bo, bcap, hvG, hsG, hcG⟩ := hx.oG.form
  subst hvL
  subst hvG
  rw [takeZ_length] at *
  have c0 := hx.c0
  have c0' := cell_alloc c0 (.cells #[.int .u64 ae, .int .i64 ak, .int .i64 ap] 151)
  have f0 := hx.f0
  have f0' : (x.alloc (.cells #[.int .u64 ae, .int .i64 ak, .int .i64 ap] 151)).frozen? ⟨t, 0, none⟩ = false := frozen_alloc f0 (by simp; omega) _
  have hown2 : ((x.drewN 1).alloc (.cells #[.int .u64 ae, .int .i64 ak, .int .i64 ap] 151)).ownsRow 0 151 3 (.slice lo n lcap) n (actsV (takeZ z n)) := by
    have := own_below hx.oL ((below_drewN (Below.refl _ x) 1).alloc (by simp) (.cells #[.int .u64 ae, .int .i64 ak, .int .i64 ap] 151))
    rw [takeZ_length] at this
    exact this
  have hnews : ∀ j u, [Value.int .u64 ae, .int .i64 ak, .int .i64 ap][j]? = some u → ((x.drewN 1).alloc (.cells #[.int .u64 ae, .int .i64 ak, .int .i64 ap] 151)).cell? ((⟨x.heap.size, 0, none⟩ : Addr).add j) = some u := cell_three (x.drewN 1) (.int .u64 ae) (.int .i64 ak) (.int .i64 ap) 151
  have HK : ∀ w1, ((x.drewN 1).alloc (.cells #[.int .u64 ae, .int .i64 ak, .int .i64 ap] 151)).grownBy w1 (Value.slice lo n lcap).ownBlock → w1.frozen? ⟨t, 0, none⟩ = false ∧ w1.cell? ⟨t, 0, none⟩ = some (.slice lo n lcap) ∧ Keeps (fun k => (Value.slice lo n lcap).ownBlock = some k) x w1 := by
    intro w1 hg
    have hne : ¬ (Value.slice lo n lcap).ownBlock = some t := fun e => (hx.mL t e).2 rfl
    have K1 : Keeps (fun k => (Value.slice lo n lcap).ownBlock = some k) x w1 := (((Keeps.refl _ x).drewN 1).alloc _).grown hg (fun k hk _ => hk)
    refine ⟨?_, ?_, K1⟩
    · rw [K1.frozen hx.lt hne]; exact f0
    · rw [K1.cell hx.lt hne]; exact c0
  go_wp2
  go_region_law
    ((refine step_append_lies _ (by rfl) _ _ 74 (by rfl) 0 151 i0 (.agg #[.int .u64 0, .int .i64 0, .int .i64 0]) 3 24 Tryz.underlying74 hi hz0 hz1 hz2 rfl (by decide) _ _ _ (by rfl) hown2 ⟨x.heap.size, 0, none⟩ 1 1 [.int .u64 ae, .int .i64 ak, .int .i64 ap] (by rfl) rfl hnews three_ints (by decide) (by unfold maxLen; omega) (by omega) (Nat.zero_le _) (x.heap.size + 1) (by simp) ?_; intro g1 cap1 w1 hown1 hgrow hat hlt; obtain ⟨q1, q2, hk⟩ := HK w1 hgrow))
  all_goals
    obtain ⟨hr1, kr1⟩ := hx.storeL (l' := takeZ z n ++ [⟨ae, ak, ap⟩]) (v := .slice (some ⟨g1, 0, none⟩) (n + 1) cap1) hk (by unfold Own3; rw [actsV_snoc, List.length_append, takeZ_length]; exact hown1) (fun k e => by
      have e' : g1 = k := by simpa [Value.ownBlock] using e
      subst e'
      rcases hat with hat | hat
      · exact .inl hat
      · exact .inr (by omega))
    clear hown1 hgrow hat hk hown2 hnews HK q1 q2 c0 c0' f0 f0' hi d0 d1 d2
    generalize w1.setCell ⟨t, 0, none⟩ (.slice (some ⟨g1, 0, none⟩) (n + 1) cap1) = X1 at *
    have hbo : ((X1.drewN 0).alloc (.cells #[.bool false] 4)).ownsRow 0 4 1 (.slice bo n bcap) n (boolsV g n) := World.ownsRow.alloc hr1.oG _
    have c1 := hr1.c1
    have f1 := hr1.f1
    have ht1 := hr1.lt
    have hne : ¬ (Value.slice bo n bcap).ownBlock = some t := fun e => (hr1.mG t e).2 rfl
    go_wp2_with (at_builtin; refine wpList_append_lies _ rfl _ _ 168 rfl 0 4 j0 (.bool false) 1 1 Tryz.underlying168 hj hy0 hy1 hy2 rfl (by decide) _ _ _ rfl hbo ⟨X1.heap.size, 0, none⟩ 1 1 [.bool false] rfl rfl (cell_one _ _ _) one_bool (by decide) ?c3 ?c4 (Nat.zero_le _) (X1.heap.size + 1) (by simp) ?_)
    case c3 => unfold maxLen; omega
    case c4 => omega
    intro g2 cap2 w2 hown2 hgrow2 hat2 hlt2
    have K2 : Keeps (fun k => (Value.slice bo n bcap).ownBlock = some k) X1 w2 := ((Keeps.refl _ X1).alloc _).grown hgrow2 (fun k hk _ => hk)
    have q0 : w2.cell? ⟨t, 1, none⟩ = some (.slice bo n bcap) := by rw [K2.cell ht1 hne]; exact c1
    have q1 : w2.frozen? ⟨t, 1, none⟩ = false := by rw [K2.frozen ht1 hne]; exact f1
    obtain ⟨hr2, kr2⟩ := hr1.storeG (g' := fun i => if i = n then false else g i) (m := n + 1) (v := .slice (some ⟨g2, 0, none⟩) (n + 1) cap2) K2 (by unfold OwnB; rw [boolsV_snoc]; exact hown2) (fun k e => by
      have e' : g2 = k := by simpa [Value.ownBlock] using e
      subst e'
      rcases hat2 with hat | hat
      · exact .inl hat
      · exact .inr (by omega))
    clear hown2 hgrow2 hat2 hbo K2 hne hj
    go_wp2
    go_ret
    exact ⟨rfl, ⟨_, _, hr2.wider (more_more hb'.size kr1.size kr2.size)⟩, ((Below.keeps hb').trans kr1 (fun _ _ h => h)).trans kr2 (fun i hi hm => hm.elim id (fun h => absurd h.1 (by have := hb'.size; omega)))⟩
end Go.Proofs.YtfghfbmmaclcnaaGreat
namespace Go.Proofs.YtfghfbmmaclcnaaGreat
set_option maxRecDepth 20000
open Go.RowKit
theorem ref_put_full {w : World} {M : Nat → Prop} {t n : Nat} {z : Nat → A3} {g : Nat → Bool} {vL vG : Value} (h : RefIs w M t (takeZ z n) n g vL vG) (hn : n ≤ 1000) (a : A3) (hl : 16 ≤ (waitK z g n).length) :
    Calls Tryz.prog 114 #[.pointer (some ⟨t, 0, none⟩), a.val] w fun e w' => e = .returned (.int .i64 9) ∧ Below w.heap.size w w' := by
  obtain ⟨ae, ak, ap⟩ := a
  simp only [A3.val]
  have hw := ref_waiting_at (h.below ((Below.refl _ w).alloc (Nat.le_refl _) (.cells #[.int .u64 ae, .int .i64 ak, .int .i64 ap] 151))) hn
  have hm := waitK_length z g n
  generalize (waitK z g n).length = m at *
  go_enter Tryz.func114, Tryz.ntmps114
  go_wp2_with fail
  refine hw.mono ?_
  rintro e x ⟨ao, cap, rfl, -, hb⟩
  have hb' : Below w.heap.size w x := ((Below.refl _ w).alloc (Nat.le_refl _) _).trans (hb.mono (by simp))
  clear hb hw
  go_wp2
  go_ret
  exact ⟨rfl, hb'⟩
theorem ref_put {w : World} {M : Nat → Prop} {t c : Nat} {l : List A3} (h : RefW w M t l c) (hc : c ≤ 1000) (a : A3) :
    Calls Tryz.prog 114 #[.pointer (some ⟨t, 0, none⟩), a.val] w fun e w' => e = .returned (.int .i64 (putEZ l)) ∧ RefW w' (More M w w') t (putL l a) (c + 1) ∧ Keeps M w w' := by
  obtain ⟨n, z, g, vL, vG, hn, hr, rfl⟩ := h
  by_cases hl : 16 ≤ (waitK z g n).length
  · refine (ref_put_full hr (by omega) a hl).mono ?_
    rintro e w' ⟨rfl, hb⟩
    exact ⟨by simp [putEZ, hl], ⟨n, z, g, vL, vG, by omega, (hr.below hb).wider (fun _ => .inl), by simp [putL, hl]⟩, Below.keeps hb⟩
  · refine (ref_put_at hr (by omega) a (by omega)).mono ?_
    rintro e w' ⟨rfl, ⟨vL', vG', hr'⟩, hk⟩
    refine ⟨by simp [putEZ, hl], ⟨n + 1, fun i => if i = n then a else z i, fun i => if i = n then false else g i, vL', vG', by omega, by rw [takeZ_snoc]; exact hr', ?_⟩, hk⟩
    rw [waitK_snoc, putL, if_neg hl]
theorem ref_waiting {w : World} {M : Nat → Prop} {t c : Nat} {l : List A3} (h : RefW w M t l c) (hc : c ≤ 1000) :
    Calls Tryz.prog 112 #[.pointer (some ⟨t, 0, none⟩)] w fun e w' => ∃ ao cap, e = .returned (.slice ao l.length cap) ∧ As w' ao l.length (getL l) ∧ Below w.heap.size w w' := by
  obtain ⟨n, z, g, vL, vG, hn, hr, rfl⟩ := h
  exact ref_waiting_at hr (by omega)
set_option maxHeartbeats 2000000 in
theorem ref_ready_at {w : World} {M : Nat → Prop} {t n : Nat} {z : Nat → A3} {g : Nat → Bool} {vL vG : Value} (h : RefIs w M t (takeZ z n) n g vL vG) (hM : ∀ k, M k → k < w.heap.size) (hn : n ≤ 1000) (s : Int) :
    Calls Tryz.prog 119 #[.pointer (some ⟨t, 0, none⟩), .int .u64 s] w fun e w' => ∃ ao cap, e = .returned (.slice ao (readyL s (waitK z g n)).length cap) ∧ As w' ao (readyL s (waitK z g n)).length (getL (readyL s (waitK z g n))) ∧ RefIs w' M t (takeZ z n) n (goneK z g s n) vL vG ∧ Keeps M w w' := by
  obtain ⟨i0, hi, hz0, hz1, hz2⟩ := info_parts Tryz.infoAct
  obtain ⟨lo, lcap, hvL, hsL, -, hcL⟩ := h.oL.form
  obtain ⟨bo, bcap, hvG, hsG, hcG⟩ := h.oG.form
  subst hvL
  subst hvG
  rw [takeZ_length] at *
  have hMt := hM t h.m
  have HM : Hid (∀ k, M k → k < w.heap.size) := hM
  clear hM
  go_enter Tryz.func119, Tryz.ntmps119
  go_wp2
  go_loopw [5, 6] (fun out i wr => ∃ k : Nat, k ≤ n ∧ i = .int .i64 k ∧ Own3 wr out (readyL s (waitK z g k)) ∧ (∀ b, out.ownBlock = some b → w.heap.size ≤ b) ∧ RefIs wr M t (takeZ z n) n (goneK z g s k) (.slice lo n lcap) (.slice bo n bcap) ∧ Keeps M w wr)
    (fun _ i _ => n - (intOf i).toNat)
  case atStart => exact ⟨0, Nat.zero_le _, rfl, own3_lit w, fun b hb => by simp [Value.ownBlock] at hb; omega, by rw [goneK_zero]; exact h.below ((Below.refl _ _).alloc (Nat.le_refl _) _), Below.keeps ((Below.refl _ _).alloc (Nat.le_refl _) _)⟩
  case round =>
    clear hsL hsG h
    obtain ⟨k, hk, rfl, hown, hlow, hr, hkp⟩ := hrel
    have hB := hkp.size
    have c0 := hr.c0
    have c1 := hr.c1
    by_cases hlt : k < n
    · obtain ⟨lo', lcap', e1, hsL, -, -⟩ := hr.oL.form
      rw [takeZ_length] at e1 hsL
      simp only [Value.slice.injEq] at e1
      obtain ⟨rfl, -, rfl⟩ := e1
      obtain ⟨bo', bcap', e2, hsG, -⟩ := hr.oG.form
      simp only [Value.slice.injEq] at e2
      obtain ⟨rfl, -, rfl⟩ := e2
      obtain ⟨b, off, rfl, d1, d2, d3⟩ := hsL k hlt
      obtain ⟨b', rfl, hob, g1, gf⟩ := hsG k hlt
      rw [getL_takeZ _ _ _ hlt] at d1 d2 d3
      have hq := readyL_length s (waitK z g k)
      have hq2 := waitK_length z g k
      have HW := hide (wait_ready z g s k)
      have hgk : goneK z g s k k = g k := by simp [goneK]
      rw [hgk] at g1
      have HT := hide (goneK_take z g s k)
      have HS := hide (goneK_skip z g s k)
      generalize hzk : z k = a at *
      obtain ⟨ae, ak, ap⟩ := a
      simp only at d1 d2 d3
      clear hsL hsG hgk
      cases hg : g k with
      | true =>
        rw [hg] at g1 HW HS
        clear hg
        go_wp2
        go_roundw
        case rel => exact ⟨k + 1, by omega, by go_num, by rw [HW.out]; simpa using hown, hlow, by rw [HS.out (.inl rfl)]; exact hr, hkp⟩
        case measure => simp [intOf]; omega
      | false =>
        rw [hg] at g1 HW HS
        clear hg
        by_cases hle : ae ≤ s
        · have hown2 := own_one hown (.cells #[.int .u64 ae, .int .i64 ak, .int .i64 ap] 151)
          have hnews := cell_three wr (.int .u64 ae) (.int .i64 ak) (.int .i64 ap) 151
          go_wp2_with (at_builtin; refine wpList_append_lies _ rfl _ _ 74 rfl 0 151 i0 (.agg #[.int .u64 0, .int .i64 0, .int .i64 0]) 3 24 Tryz.underlying74 hi hz0 hz1 hz2 rfl (by decide) _ _ _ rfl hown2 ⟨wr.heap.size, 0, none⟩ 1 1 [.int .u64 ae, .int .i64 ak, .int .i64 ap] rfl rfl hnews three_ints (by decide) ?c3 ?c4 (Nat.zero_le _) (wr.heap.size + 1) (by simp) ?_)
          case c3 => unfold maxLen; omega
          case c4 => omega
          intro b2 cap' w1 hown' hgrow hat hlt2
          have K1 : Keeps (fun k => w.heap.size ≤ k) wr w1 := ((Keeps.refl _ wr).alloc _).grown hgrow (fun k hk _ => hlow k hk)
          have hr1 : RefIs w1 M t (takeZ z n) n (goneK z g s k) _ _ := hr.keep K1 (fun k hm hge => by have := HM.out k hm; omega)
          have r3 : w.heap.size ≤ b2 := by
            rcases hat with hat | hat
            · exact hlow b2 hat
            · omega
          have r1 : Own3 w1 (.slice (some ⟨b2, 0, none⟩) ((readyL s (waitK z g k)).length + 1) cap') (readyL s (waitK z g k) ++ [⟨ae, ak, ap⟩]) := by unfold Own3; rw [actsV_snoc, List.length_append]; exact hown'
          have kp1 : Keeps M w w1 := hkp.trans K1 (fun i hi hge => by omega)
          have hMb := (hr1.mG b' hob).1
          obtain ⟨hr2, kp2⟩ := hr1.setG hlt hob true
          have r1' : Own3 (w1.setCell ⟨b', k, none⟩ (.bool true)) (.slice (some ⟨b2, 0, none⟩) ((readyL s (waitK z g k)).length + 1) cap') (readyL s (waitK z g k) ++ [⟨ae, ak, ap⟩]) := r1.keep kp2 (fun b hb hm => by
            have e : b2 = b := by simpa [Value.ownBlock] using hb
            subst e
            have := HM.out b2 hm; omega)
          have c1' := hr1.c1
          have q1 : w1.cell? ⟨b', k, none⟩ = some (.bool false) := by rw [K1.cell (World.block_lt_of_cell? wr _ g1) (by have := HM.out b' hMb; simp; omega)]; exact g1
          have q2 : w1.frozen? ⟨b', k, none⟩ = false := by rw [K1.frozen (World.block_lt_of_cell? wr _ g1) (by have := HM.out b' hMb; simp; omega)]; exact gf
          clear hown' hgrow hat hown hown2 hnews hi K1 r1 hr1 hr
          go_wp2
          go_roundw
          case rel => exact ⟨k + 1, by omega, by go_num, by rw [HW.out, if_pos (by simp [hle])]; exact r1', fun b hb => by simp [Value.ownBlock] at hb; omega, by rw [HT.out hle]; exact hr2, kp1.trans kp2 (fun _ _ h => h)⟩
          case measure => simp [intOf]; omega
        · go_wp2
          go_roundw
          case rel => exact ⟨k + 1, by omega, by go_num, by rw [HW.out]; simpa [hle] using hown, hlow, by rw [HS.out (.inr (by simp only; omega))]; exact hr, hkp⟩
          case measure => simp [intOf]; omega
    · have e : k = n := by omega
      subst e
      obtain ⟨ro, rcap, rfl, hrr⟩ := As.of_own hown
      clear hown hi
      go_wp2
      go_ret
      exact ⟨ro, rcap, rfl, hrr, hr, hkp⟩
theorem ref_ready {w : World} {M : Nat → Prop} {t c : Nat} {l : List A3} (h : RefW w M t l c) (hM : ∀ k, M k → k < w.heap.size) (hc : c ≤ 1000) (s : Int) :
    Calls Tryz.prog 119 #[.pointer (some ⟨t, 0, none⟩), .int .u64 s] w fun e w' => ∃ ao cap, e = .returned (.slice ao (readyL s l).length cap) ∧ As w' ao (readyL s l).length (getL (readyL s l)) ∧ RefW w' M t (restL s l) c ∧ Keeps M w w' := by
  obtain ⟨n, z, g, vL, vG, hn, hr, rfl⟩ := h
  refine (ref_ready_at hr hM (by omega) s).mono ?_
  rintro e w' ⟨ao, cap, rfl, ha, hr', hk⟩
  exact ⟨ao, cap, rfl, ha, ⟨n, z, goneK z g s n, vL, vG, hn, hr', wait_gone z g s n n (Nat.le_refl _)⟩, hk⟩
end Go.Proofs.YtfghfbmmaclcnaaGreat
