/- The reference's list: who waits; Same, Waiting. -/
import Derived.Test.YtodkbhboapledaaZg
namespace Go.Proofs.Ytodkbhboapledaa
open Go.RowKit
/-- Those of the first k that did not go. -/
def waitK (z : Nat → A3) (g : Nat → Bool) : Nat → List A3
  | 0 => []
  | k + 1 => waitK z g k ++ (if g k then [] else [z k])
theorem waitK_length (z : Nat → A3) (g : Nat → Bool) (k : Nat) : (waitK z g k).length ≤ k := by
  induction k with
  | zero => simp [waitK]
  | succ k ih => cases h : g k <;> simp [waitK, h] <;> omega
theorem waitK_congr {z z' : Nat → A3} {g g' : Nat → Bool} (k : Nat) (hz : ∀ i, i < k → z i = z' i) (hg : ∀ i, i < k → g i = g' i) : waitK z g k = waitK z' g' k := by
  induction k with
  | zero => rfl
  | succ k ih => rw [waitK, waitK, ih (fun i h => hz i (by omega)) (fun i h => hg i (by omega)), hz k (by omega), hg k (by omega)]
/-- Those of the first k that are ready for s go. -/
def goneK (z : Nat → A3) (g : Nat → Bool) (s : Int) (k : Nat) : Nat → Bool := fun i => g i || (decide (i < k) && decide ((z i).e ≤ s))
theorem goneK_zero (z : Nat → A3) (g : Nat → Bool) (s : Int) : goneK z g s 0 = g := by
  funext i; simp [goneK]
theorem goneK_skip (z : Nat → A3) (g : Nat → Bool) (s : Int) (k : Nat) (h : g k = true ∨ s < (z k).e) : goneK z g s (k + 1) = goneK z g s k := by
  funext i
  simp only [goneK]
  by_cases hi : i = k
  · subst hi
    rcases h with h | h
    · simp [h]
    · have : ¬ (z i).e ≤ s := by omega
      simp [this]
  · have : decide (i < k + 1) = decide (i < k) := by congr 1; exact propext (by omega)
    rw [this]
theorem goneK_take (z : Nat → A3) (g : Nat → Bool) (s : Int) (k : Nat) (h : (z k).e ≤ s) : goneK z g s (k + 1) = fun i => if i = k then true else goneK z g s k i := by
  funext i
  simp only [goneK]
  by_cases hi : i = k
  · subst hi; simp [h]
  · have : decide (i < k + 1) = decide (i < k) := by congr 1; exact propext (by omega)
    rw [this, if_neg hi]
theorem wait_gone (z : Nat → A3) (g : Nat → Bool) (s : Int) (n k : Nat) (h : k ≤ n) : waitK z (goneK z g s n) k = restL s (waitK z g k) := by
  induction k with
  | zero => rfl
  | succ k ih =>
    rw [waitK, waitK, ih (by omega)]
    have hkn : decide (k < n) = true := by simp; omega
    cases hg : g k
    · by_cases he : (z k).e ≤ s
      · simp [goneK, hg, hkn, he, restL_snoc]
      · simp [goneK, hg, he, restL_snoc]
    · simp [goneK, hg]
theorem wait_ready (z : Nat → A3) (g : Nat → Bool) (s : Int) (k : Nat) : readyL s (waitK z g (k + 1)) = readyL s (waitK z g k) ++ (if g k = false ∧ (z k).e ≤ s then [z k] else []) := by
  rw [waitK]
  cases hg : g k
  · simp [readyL_snoc]
  · simp
def boolsV (g : Nat → Bool) (n : Nat) : List Value := (List.range n).map fun i => .bool (g i)
theorem boolsV_length (g : Nat → Bool) (n : Nat) : (boolsV g n).length = n := by simp [boolsV]
theorem boolsV_get (g : Nat → Bool) (n i : Nat) (h : i < n) : (boolsV g n)[i]? = some (.bool (g i)) := by simp [boolsV, h]
theorem boolsV_set (g : Nat → Bool) (n k : Nat) (b : Bool) : (boolsV g n).set k (.bool b) = boolsV (fun i => if i = k then b else g i) n := by
  apply List.ext_getElem?
  intro j
  by_cases hj : j < n
  · rw [boolsV_get _ _ _ hj, List.getElem?_set]
    by_cases e : k = j
    · subst e; simp [boolsV_length, hj]
    · rw [if_neg e, boolsV_get _ _ _ hj, if_neg (fun h => e h.symm)]
  · rw [List.getElem?_eq_none (by rw [List.length_set, boolsV_length]; omega), List.getElem?_eq_none (by rw [boolsV_length]; omega)]
/-- A row of bools that is owned. -/
def OwnB (w : World) (v : Value) (g : Nat → Bool) (n : Nat) : Prop := w.ownsRow 0 4 1 v n (boolsV g n)
theorem OwnB.form {w : World} {v : Value} {g : Nat → Bool} {n : Nat} (h : OwnB w v g n) : ∃ ao cap, v = .slice ao n cap ∧ (∀ i, i < n → ∃ b, ao = some ⟨b, 0, none⟩ ∧ v.ownBlock = some b ∧ w.cell? ⟨b, i, none⟩ = some (.bool (g i)) ∧ w.frozen? ⟨b, i, none⟩ = false) ∧ n ≤ cap ∧ cap ≤ 9223372036854775807 := by
  have h' := h
  rcases h.2 with ⟨h1, h0⟩ | ⟨b, cap, cur, hv, _, hg, hc, hm, _⟩
  · exact ⟨none, 0, by rw [h1, h0], fun j hj => by omega, by omega, by omega⟩
  · subst hv
    refine ⟨_, _, rfl, fun i hi => ⟨b, rfl, rfl, ?_, World.ownsRow.frozenAt h' i⟩, hc, by unfold maxLen at hm; exact hm⟩
    rw [World.ownsRow.cellAt h' i (by omega), boolsV_get _ _ _ hi]
theorem OwnB.keep {w w' : World} {v : Value} {g : Nat → Bool} {n : Nat} {S : Nat → Prop} (h : OwnB w v g n) (hk : Keeps S w w') (hS : ∀ b, v.ownBlock = some b → ¬ S b) : OwnB w' v g n := own_keep h hk hS
/-- The reference's list, in block t, with its two rows; M holds all. -/
structure RefIs (w : World) (M : Nat → Prop) (t : Nat) (l : List A3) (n : Nat) (g : Nat → Bool) (vL vG : Value) : Prop where
  c0 : w.cell? ⟨t, 0, none⟩ = some vL
  f0 : w.frozen? ⟨t, 0, none⟩ = false
  c1 : w.cell? ⟨t, 1, none⟩ = some vG
  f1 : w.frozen? ⟨t, 1, none⟩ = false
  m : M t
  oL : Own3 w vL l
  oG : OwnB w vG g n
  mL : ∀ k, vL.ownBlock = some k → M k ∧ k ≠ t
  mG : ∀ k, vG.ownBlock = some k → M k ∧ k ≠ t
  ne : ∀ k, vL.ownBlock = some k → vG.ownBlock ≠ some k
theorem RefIs.lt {w : World} {M : Nat → Prop} {t n : Nat} {l : List A3} {g : Nat → Bool} {vL vG : Value} (h : RefIs w M t l n g vL vG) : t < w.heap.size := World.block_lt_of_cell? w _ h.c0
theorem RefIs.keep {w w' : World} {M S : Nat → Prop} {t n : Nat} {l : List A3} {g : Nat → Bool} {vL vG : Value} (h : RefIs w M t l n g vL vG) (hk : Keeps S w w') (hS : ∀ k, M k → ¬ S k) : RefIs w' M t l n g vL vG :=
  ⟨by rw [hk.cell h.lt (hS t h.m)]; exact h.c0, by rw [hk.frozen h.lt (hS t h.m)]; exact h.f0, by rw [hk.cell h.lt (hS t h.m)]; exact h.c1, by rw [hk.frozen h.lt (hS t h.m)]; exact h.f1, h.m,
    h.oL.keep hk (fun k e => hS k (h.mL k e).1), h.oG.keep hk (fun k e => hS k (h.mG k e).1), h.mL, h.mG, h.ne⟩
theorem RefIs.below {w w' : World} {M : Nat → Prop} {t n : Nat} {l : List A3} {g : Nat → Bool} {vL vG : Value} (h : RefIs w M t l n g vL vG) (hb : Below w.heap.size w w') : RefIs w' M t l n g vL vG := h.keep (Below.keeps (S := fun _ => False) hb) (fun _ _ => id)
theorem RefIs.wider {w : World} {M S : Nat → Prop} {t n : Nat} {l : List A3} {g : Nat → Bool} {vL vG : Value} (h : RefIs w M t l n g vL vG) (hS : ∀ k, M k → S k) : RefIs w S t l n g vL vG :=
  ⟨h.c0, h.f0, h.c1, h.f1, hS t h.m, h.oL, h.oG, fun k e => ⟨hS k (h.mL k e).1, (h.mL k e).2⟩, fun k e => ⟨hS k (h.mG k e).1, (h.mG k e).2⟩, h.ne⟩
/-- The same, told by those who wait. -/
def RefW (w : World) (M : Nat → Prop) (t : Nat) (l : List A3) (c : Nat) : Prop := ∃ n z g vL vG, n ≤ c ∧ RefIs w M t (takeZ z n) n g vL vG ∧ waitK z g n = l
theorem more_more {M : Nat → Prop} {a b c d : World} (h1 : a.heap.size ≤ b.heap.size) (h2 : b.heap.size ≤ c.heap.size) (h3 : c.heap.size ≤ d.heap.size) : ∀ k, More (More M b c) c d k → More M a d k := by
  rintro k ((h | ⟨h, h'⟩) | ⟨h, h'⟩)
  · exact .inl h
  · exact .inr ⟨by omega, by omega⟩
  · exact .inr ⟨by omega, h'⟩
/-- The row of actions is another one. -/
theorem RefIs.storeL {w w1 : World} {M : Nat → Prop} {t n : Nat} {l l' : List A3} {g : Nat → Bool} {vL vG v : Value} (h : RefIs w M t l n g vL vG) (hk : Keeps (fun k => vL.ownBlock = some k) w w1) (ho : Own3 w1 v l') (hv : ∀ k, v.ownBlock = some k → vL.ownBlock = some k ∨ w.heap.size ≤ k) :
    RefIs (w1.setCell ⟨t, 0, none⟩ v) (More M w (w1.setCell ⟨t, 0, none⟩ v)) t l' n g v vG ∧ Keeps M w (w1.setCell ⟨t, 0, none⟩ v) := by
  have hlt := h.lt
  have hsz : (w1.setCell ⟨t, 0, none⟩ v).heap.size = w1.heap.size := by simp [World.setCell]
  have hnt : ¬ vL.ownBlock = some t := fun e => (h.mL t e).2 rfl
  have K1 : Keeps (fun k => k = t) w1 (w1.setCell ⟨t, 0, none⟩ v) := (Keeps.refl (fun k => k = t) w1).setCell ⟨t, 0, none⟩ (fun _ => rfl) v
  have q0 : w1.cell? ⟨t, 0, none⟩ = some vL := by rw [hk.cell hlt hnt]; exact h.c0
  have q1 : w1.cell? ⟨t, 1, none⟩ = some vG := by rw [hk.cell hlt hnt]; exact h.c1
  have hvt : ∀ k, v.ownBlock = some k → k ≠ t := fun k e => by
    rcases hv k e with e | e
    · exact (h.mL k e).2
    · omega
  refine ⟨⟨World.cell?_setCell_same _ _ _ q0, ?_, ?_, ?_, .inl h.m, ho.keep K1 (fun k e => hvt k e), (h.oG.keep hk (fun k e e' => h.ne k e' e)).keep K1 (fun k e => (h.mG k e).2), fun k e => ⟨?_, hvt k e⟩, fun k e => ⟨.inl (h.mG k e).1, (h.mG k e).2⟩, fun k e e' => ?_⟩, (hk.wider (fun k _ e => (h.mL k e).1)).setCell _ (fun _ => h.m) v⟩
  · rw [World.frozen?_setCell, hk.frozen hlt hnt]; exact h.f0
  · rw [World.cell?_setCell_other _ _ _ _ (by simp)]; exact q1
  · rw [World.frozen?_setCell, hk.frozen hlt hnt]; exact h.f1
  · rcases hv k e with e' | e'
    · exact .inl (h.mL k e').1
    · exact .inr ⟨e', by rw [hsz]; exact (ho.lt k e).2⟩
  · rcases hv k e with e2 | e2
    · exact h.ne k e2 e'
    · have := (h.oG.lt k e').2; omega
/-- The row of bools is another one. -/
theorem RefIs.storeG {w w1 : World} {M : Nat → Prop} {t n m : Nat} {l : List A3} {g g' : Nat → Bool} {vL vG v : Value} (h : RefIs w M t l n g vL vG) (hk : Keeps (fun k => vG.ownBlock = some k) w w1) (ho : OwnB w1 v g' m) (hv : ∀ k, v.ownBlock = some k → vG.ownBlock = some k ∨ w.heap.size ≤ k) :
    RefIs (w1.setCell ⟨t, 1, none⟩ v) (More M w (w1.setCell ⟨t, 1, none⟩ v)) t l m g' vL v ∧ Keeps M w (w1.setCell ⟨t, 1, none⟩ v) := by
  have hlt := h.lt
  have hsz : (w1.setCell ⟨t, 1, none⟩ v).heap.size = w1.heap.size := by simp [World.setCell]
  have hnt : ¬ vG.ownBlock = some t := fun e => (h.mG t e).2 rfl
  have K1 : Keeps (fun k => k = t) w1 (w1.setCell ⟨t, 1, none⟩ v) := (Keeps.refl (fun k => k = t) w1).setCell ⟨t, 1, none⟩ (fun _ => rfl) v
  have q0 : w1.cell? ⟨t, 0, none⟩ = some vL := by rw [hk.cell hlt hnt]; exact h.c0
  have q1 : w1.cell? ⟨t, 1, none⟩ = some vG := by rw [hk.cell hlt hnt]; exact h.c1
  have hvt : ∀ k, v.ownBlock = some k → k ≠ t := fun k e => by
    rcases hv k e with e | e
    · exact (h.mG k e).2
    · omega
  refine ⟨⟨?_, ?_, World.cell?_setCell_same _ _ _ q1, ?_, .inl h.m, (h.oL.keep hk (fun k e e' => h.ne k e e')).keep K1 (fun k e => (h.mL k e).2), ho.keep K1 (fun k e => hvt k e), fun k e => ⟨.inl (h.mL k e).1, (h.mL k e).2⟩, fun k e => ⟨?_, hvt k e⟩, fun k e e' => ?_⟩, (hk.wider (fun k _ e => (h.mG k e).1)).setCell _ (fun _ => h.m) v⟩
  · rw [World.cell?_setCell_other _ _ _ _ (by simp)]; exact q0
  · rw [World.frozen?_setCell, hk.frozen hlt hnt]; exact h.f0
  · rw [World.frozen?_setCell, hk.frozen hlt hnt]; exact h.f1
  · rcases hv k e with e' | e'
    · exact .inl (h.mG k e').1
    · exact .inr ⟨e', by rw [hsz]; exact (ho.lt k e).2⟩
  · rcases hv k e' with e2 | e2
    · exact h.ne k e e2
    · have := (h.oL.lt k e).2; omega
/-- One bool is set. -/
theorem RefIs.setG {w : World} {M : Nat → Prop} {t n i b : Nat} {l : List A3} {g : Nat → Bool} {vL vG : Value} (h : RefIs w M t l n g vL vG) (hi : i < n) (hb : vG.ownBlock = some b) (u : Bool) :
    RefIs (w.setCell ⟨b, i, none⟩ (.bool u)) M t l n (fun j => if j = i then u else g j) vL vG ∧ Keeps M w (w.setCell ⟨b, i, none⟩ (.bool u)) := by
  have hbt := (h.mG b hb).2
  have K1 : Keeps (fun k => k = b) w (w.setCell ⟨b, i, none⟩ (.bool u)) := (Keeps.refl (fun k => k = b) w).setCell ⟨b, i, none⟩ (fun _ => rfl) _
  have hlt := h.lt
  have oG := h.oG
  obtain ⟨ao, cap, rfl, hs, -⟩ := h.oG.form
  obtain ⟨b', rfl, e, -⟩ := hs i hi
  have e' : b' = b := by rw [hb] at e; simpa using e.symm
  subst e'
  refine ⟨⟨?_, ?_, ?_, ?_, h.m, h.oL.keep K1 (fun k e e' => h.ne k e (by rw [e']; exact hb)), ?_, h.mL, h.mG, h.ne⟩, (Keeps.refl M w).setCell _ (fun _ => (h.mG b' hb).1) _⟩
  · rw [K1.cell hlt (fun e => hbt e.symm)]; exact h.c0
  · rw [K1.frozen hlt (fun e => hbt e.symm)]; exact h.f0
  · rw [K1.cell hlt (fun e => hbt e.symm)]; exact h.c1
  · rw [K1.frozen hlt (fun e => hbt e.symm)]; exact h.f1
  · have := (World.ownsRow.stored oG i (.bool u)).1
    unfold OwnB
    rw [← boolsV_set]
    exact this
theorem RefW.keep {w w' : World} {M S : Nat → Prop} {t c : Nat} {l : List A3} (h : RefW w M t l c) (hk : Keeps S w w') (hS : ∀ k, M k → ¬ S k) : RefW w' M t l c := by
  obtain ⟨n, z, g, vL, vG, h1, h2, h3⟩ := h
  exact ⟨n, z, g, vL, vG, h1, h2.keep hk hS, h3⟩
theorem RefW.below {w w' : World} {M : Nat → Prop} {t c : Nat} {l : List A3} (h : RefW w M t l c) (hb : Below w.heap.size w w') : RefW w' M t l c := h.keep (Below.keeps (S := fun _ => False) hb) (fun _ _ => id)
theorem RefW.drew {w : World} {M : Nat → Prop} {t c : Nat} {l : List A3} (h : RefW w M t l c) (m : Nat) : RefW (w.drewN m) M t l c := h.below (below_drewN (Below.refl _ _) m)
set_option maxHeartbeats 400000 in
theorem ref_same {w : World} {ao bo : Option Addr} {n ca cb : Nat} {z : Nat → A3} (ha : As w ao n z) (hb : As w bo n z) (hn : n ≤ 9223372036854775807) :
    Calls Try.prog 10 #[.slice ao n ca, .slice bo n cb] w fun e w' => e = .returned (.bool true) ∧ Below w.heap.size w w' := by
  go_enter Try.func10, Try.ntmps10
  go_wp2
  go_loopw [5] (fun i wr => ∃ k : Nat, k ≤ n ∧ i = .int .i64 k ∧ Below w.heap.size w wr)
    (fun i _ => n - (intOf i).toNat)
  case atStart => exact ⟨0, Nat.zero_le _, rfl, Below.refl _ _⟩
  case round =>
    obtain ⟨k, hk, rfl, hbel⟩ := hrel
    by_cases hlt : k < n
    · obtain ⟨b, off, rfl, c1, c2, c3⟩ := ha.below hbel k hlt
      obtain ⟨b', off', rfl, d1, d2, d3⟩ := hb.below hbel k hlt
      generalize z k = a at *
      obtain ⟨ae, ak, ap⟩ := a
      simp only at c1 c2 c3 d1 d2 d3
      have i0 : (0 : Int) ≤ (k : Int) := by omega
      have i1 : (k : Int) < (n : Int) := by omega
      clear ha hb
      go_wp2
      go_region_held3 (fun W => W.cell? ⟨b, off + k * 3, none⟩ = some (.int .u64 ae) ∧ W.cell? ⟨b, off + k * 3 + 1, none⟩ = some (.int .i64 ak) ∧ W.cell? ⟨b, off + k * 3 + 2, none⟩ = some (.int .i64 ap) ∧ W.cell? ⟨b', off' + k * 3, none⟩ = some (.int .u64 ae) ∧ W.cell? ⟨b', off' + k * 3 + 1, none⟩ = some (.int .i64 ak) ∧ W.cell? ⟨b', off' + k * 3 + 2, none⟩ = some (.int .i64 ap))
        (go_keep) (fail)
      go_wp2
      go_roundw
      case rel => exact ⟨k + 1, by omega, by go_num, hbel.drew⟩
      case measure => simp [intOf]; omega
    · go_wp2
      go_ret
      exact ⟨rfl, hbel⟩
theorem own3_lit (w : World) : Own3 (w.alloc (.cells #[] 33)) (.slice (some ⟨w.heap.size, 0, none⟩) 0 0) [] := World.ownsRow_lit w #[] 0 (Nat.zero_le _) (by decide) rfl
theorem own_one {w : World} {v : Value} {l : List A3} (h : Own3 w v l) (o : Obj) : (w.alloc o).ownsRow 0 33 3 v l.length (actsV l) := World.ownsRow.alloc h _
theorem As.of_own {w : World} {v : Value} {l : List A3} (h : Own3 w v l) : ∃ ao cap, v = .slice ao l.length cap ∧ As w ao l.length (getL l) := by
  obtain ⟨ao, cap, h1, h2, -⟩ := h.form
  exact ⟨ao, cap, h1, h2⟩
theorem getL_takeZ (z : Nat → A3) (n i : Nat) (h : i < n) : getL (takeZ z n) i = z i := by simp [getL, takeZ, h]
set_option maxHeartbeats 1000000 in
theorem ref_waiting_at {w : World} {M : Nat → Prop} {t n : Nat} {z : Nat → A3} {g : Nat → Bool} {vL vG : Value} (h : RefIs w M t (takeZ z n) n g vL vG) (hn : n ≤ 1000) :
    Calls Try.prog 13 #[.pointer (some ⟨t, 0, none⟩)] w fun e w' => ∃ ao cap, e = .returned (.slice ao (waitK z g n).length cap) ∧ As w' ao (waitK z g n).length (getL (waitK z g n)) ∧ Below w.heap.size w w' := by
  obtain ⟨i0, hi, hz0, hz1, hz2⟩ := info_parts Try.infoAct
  obtain ⟨ao, cap, rfl, hsL, -, hcL⟩ := h.oL.form
  obtain ⟨bo, bcap, rfl, hsG, hcG⟩ := h.oG.form
  rw [takeZ_length] at *
  have c0 := h.c0
  have c1 := h.c1
  go_enter Try.func13, Try.ntmps13
  go_wp2
  go_loopw [3, 4] (fun out i wr => ∃ k : Nat, k ≤ n ∧ i = .int .i64 k ∧ Own3 wr out (waitK z g k) ∧ (∀ b, out.ownBlock = some b → w.heap.size ≤ b) ∧ Below w.heap.size w wr)
    (fun _ i _ => n - (intOf i).toNat)
  case atStart => exact ⟨0, Nat.zero_le _, rfl, own3_lit w, fun b hb => by simp [Value.ownBlock] at hb; omega, (Below.refl _ _).alloc (Nat.le_refl _) _⟩
  case round =>
    obtain ⟨k, hk, rfl, hown, hlow, hbel⟩ := hrel
    have hB := hbel.size
    have h' := h.below hbel
    have c0' := h'.c0
    have c1' := h'.c1
    clear c0 c1
    by_cases hlt : k < n
    · obtain ⟨b, off, rfl, d1, d2, d3⟩ := hsL k hlt
      have lb : b < w.heap.size := World.block_lt_of_cell? w _ d1
      obtain ⟨b', rfl, -, g1, -⟩ := hsG k hlt
      have lb' : b' < w.heap.size := World.block_lt_of_cell? w _ g1
      rw [getL_takeZ _ _ _ hlt] at d1 d2 d3
      rw [← hbel.cell lb] at d1 d2 d3
      rw [← hbel.cell lb'] at g1
      have hq := waitK_length z g k
      have HW : Hid (waitK z g (k + 1) = waitK z g k ++ (if g k then [] else [z k])) := rfl
      generalize z k = a at *
      obtain ⟨ae, ak, ap⟩ := a
      simp only at d1 d2 d3
      clear hsL hsG h h'
      cases hgk : g k with
      | true =>
        rw [hgk] at g1 HW
        go_wp2
        go_roundw
        case rel => exact ⟨k + 1, by omega, by go_num, by rw [HW.out, if_pos rfl, List.append_nil]; exact hown, hlow, hbel⟩
        case measure => simp [intOf]; omega
      | false =>
        rw [hgk] at g1 HW
        have hown2 := own_one hown (.cells #[.int .u64 ae, .int .i64 ak, .int .i64 ap] 33)
        have hnews := cell_three wr (.int .u64 ae) (.int .i64 ak) (.int .i64 ap) 33
        go_wp2_with (at_builtin; refine wpList_append_lies _ rfl _ _ 27 rfl 0 33 i0 (.agg #[.int .u64 0, .int .i64 0, .int .i64 0]) 3 24 Try.underlying27 hi hz0 hz1 hz2 rfl (by decide) _ _ _ rfl hown2 ⟨wr.heap.size, 0, none⟩ 1 1 [.int .u64 ae, .int .i64 ak, .int .i64 ap] rfl rfl hnews three_ints (by decide) ?c3 ?c4 (Nat.zero_le _) (wr.heap.size + 1) (by simp) ?_)
        case c3 => unfold maxLen; omega
        case c4 => omega
        intro b2 cap' w1 hown' hgrow hat _
        have r1 : Own3 w1 (.slice (some ⟨b2, 0, none⟩) ((waitK z g k).length + 1) cap') (waitK z g k ++ [⟨ae, ak, ap⟩]) := by unfold Own3; rw [actsV_snoc, List.length_append]; exact hown'
        have r2 : Below w.heap.size w w1 := (hbel.alloc hB _).grown hgrow (by simp; omega) (fun k hk => hlow k hk)
        have r3 : ∀ b, (Value.slice (some ⟨b2, 0, none⟩) ((waitK z g k).length + 1) cap').ownBlock = some b → w.heap.size ≤ b := fun b hb => by
          have e : b2 = b := by simpa [Value.ownBlock] using hb
          subst e
          rcases hat with hat | hat
          · exact hlow b2 hat
          · omega
        clear hown' hgrow hat hown hown2 hnews hi
        go_wp2
        go_roundw
        case rel => exact ⟨k + 1, by omega, by go_num, by rw [HW.out]; exact r1, r3, r2⟩
        case measure => simp [intOf]; omega
    · have e : k = n := by omega
      subst e
      obtain ⟨ro, rcap, rfl, hr⟩ := As.of_own hown
      clear hown h' h hi
      go_wp2
      go_ret
      exact ⟨ro, rcap, rfl, hr, hbel⟩
end Go.Proofs.Ytodkbhboapledaa
