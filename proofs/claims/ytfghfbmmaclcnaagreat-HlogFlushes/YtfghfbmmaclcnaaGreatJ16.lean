/- Parts of the proof: Sp. -/
import Derived.Test.YtfghfbmmaclcnaaGreatJ11
namespace Go.Proofs.YtfghfbmmaclcnaaGreat
set_option maxRecDepth 20000
open Go.RowKit Go.Sort
theorem rise_ext {α : Type} {lt : α → α → Prop} (ir : ∀ a, ¬ lt a a) (tr : ∀ {a b c}, lt a b → lt b c → lt a c) : ∀ {l m : List α}, l.Pairwise lt → m.Pairwise lt → (∀ x, x ∈ l ↔ x ∈ m) → l = m := by
  intro l
  induction l with
  | nil =>
    intro m _ _ h
    cases m with
    | nil => rfl
    | cons y m => exact absurd ((h y).2 (by simp)) (by simp)
  | cons x l ih =>
    intro m hl hm h
    cases m with
    | nil => exact absurd ((h x).1 (by simp)) (by simp)
    | cons y m =>
      obtain ⟨a1, a2⟩ := List.pairwise_cons.1 hl
      obtain ⟨b1, b2⟩ := List.pairwise_cons.1 hm
      have e : x = y := by
        rcases List.mem_cons.1 ((h x).1 (by simp)) with e | hx
        · exact e
        · rcases List.mem_cons.1 ((h y).2 (by simp)) with e | hy
          · exact e.symm
          · exact absurd (tr (b1 x hx) (a1 y hy)) (ir y)
      subst e
      congr 1
      refine ih a2 b2 (fun z => ⟨fun hz => ?_, fun hz => ?_⟩)
      · rcases List.mem_cons.1 ((h z).1 (by simp [hz])) with e | h'
        · subst e; exact absurd (a1 z hz) (ir z)
        · exact h'
      · rcases List.mem_cons.1 ((h z).2 (by simp [hz])) with e | h'
        · subst e; exact absurd (b1 z hz) (ir z)
        · exact h'
theorem own_holdI {w : World} {base : Nat} {v : Value} {zs : List Int} (h : w.ownsRow base 3 1 v zs.length (zs.map (Value.int .i64))) (hn : 0 < zs.length) :
    ∃ g cap, v = .slice (some ⟨g, 0, none⟩) zs.length cap ∧ base ≤ g ∧ g < w.heap.size ∧ Holds (Value.int .i64) w g 0 zs.toArray := by
  have h' := h
  rcases h.2 with ⟨_, h0⟩ | ⟨g, cap, cur, hv, hb, hg, _, _, _, _⟩
  · omega
  · refine ⟨g, cap, hv, hb, (Array.getElem?_eq_some_iff.1 hg).1, fun j hj => ⟨?_, ?_⟩⟩
    · have hc := h'.cells (g := g) (by rw [hv]; rfl) j (.int .i64 zs.toArray[j]!) (by
        simp at hj
        simp [hj])
      have hadd : (⟨g, 0, none⟩ : Addr).add j = ⟨g, j, none⟩ := by unfold Addr.add; split <;> simp_all
      rw [hadd] at hc
      rw [Nat.zero_add]
      exact hc
    · simp [World.frozen?, hg]
theorem hold_slI {w : World} {g : Nat} {zs : List Int} (h : Holds (Value.int .i64) w g 0 zs.toArray) : Sl .i64 w (some ⟨g, 0, none⟩) zs.length (fun j => zs.getD j 0) := by
  intro j hj
  refine ⟨g, 0, rfl, ?_⟩
  have := (h j (by simpa using hj)).1
  rw [this]
  simp [List.getD_eq_getElem?_getD, hj]
theorem sort_isI {zs : List Int} {L : List Nat} (hn : zs.Nodup) (hL : L.Pairwise (· < ·)) (hm : ∀ x, x ∈ zs ↔ x ∈ L.map fun (n : Nat) => (n : Int)) : zs.mergeSort (fun x y => decide (x ≤ y)) = L.map fun (n : Nat) => (n : Int) := by
  have hp := List.mergeSort_perm zs (fun x y => decide (x ≤ y))
  have hs : (zs.mergeSort (fun x y => decide (x ≤ y))).Pairwise (fun x y => decide (x ≤ y) = true) :=
    List.pairwise_mergeSort (fun a b c h1 h2 => by simp at *; omega) (fun a b => by simp; omega) zs
  have hn' : (zs.mergeSort (fun x y => decide (x ≤ y))).Nodup := hp.nodup_iff.2 hn
  refine rise_ext (lt := fun (a b : Int) => a < b) (fun a => by omega) (fun h1 h2 => by omega) ?_ ?_ (fun x => by rw [hp.mem_iff, hm])
  · exact (hs.and hn').imp (fun {a b} h => by
      have h1 := h.1
      have h2 : a ≠ b := h.2
      simp at h1
      omega)
  · rw [List.pairwise_map]
    exact hL.imp (fun h => by omega)
end Go.Proofs.YtfghfbmmaclcnaaGreat
