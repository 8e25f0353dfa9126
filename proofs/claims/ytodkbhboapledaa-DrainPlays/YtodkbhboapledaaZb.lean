/- Package drain: New, Put, Len. -/
import Derived.Test.YtodkbhboapledaaZa
namespace Go.Proofs.Ytodkbhboapledaa
open Go.RowKit
theorem drain_new (w : World) :
    Calls Try.prog 7 #[] w fun e w' => e = .returned (.pointer (some ⟨w.heap.size, 0, none⟩)) ∧ w'.heap.size = w.heap.size + 1 ∧ DrIs w' (fun k => k = w.heap.size) w.heap.size [] ∧ Below w.heap.size w w' := by
  go_enter Try.func7, Try.ntmps7
  go_wp2
  go_ret
  refine ⟨rfl, by simp, ⟨.slice none 0 0, by simp, by simp, rfl, Own3.nil _, fun g hg => by simp [Value.ownBlock] at hg⟩, (Below.refl _ _).alloc (Nat.le_refl _) _⟩
/-- What Put answers, and the list behind it. -/
def putE (l : List A3) : Int := if 16 ≤ l.length then 9 else 0
def putL (l : List A3) (a : A3) : List A3 := if 16 ≤ l.length then l else l ++ [a]
theorem cell_alloc {w : World} {p : Addr} {u : Value} (h : w.cell? p = some u) (o : Obj) : (w.alloc o).cell? p = some u := by
  rw [((Below.refl w.heap.size w).alloc (Nat.le_refl _) o).cell (World.block_lt_of_cell? w _ h)]; exact h
theorem frozen_alloc {w : World} {p : Addr} {b : Bool} (h : w.frozen? p = b) (hp : p.block < w.heap.size) (o : Obj) : (w.alloc o).frozen? p = b := by
  rw [((Below.refl w.heap.size w).alloc (Nat.le_refl _) o).frozen hp]; exact h
theorem drain_put_full {w : World} {S : Nat → Prop} {t : Nat} {l : List A3} (h : DrIs w S t l) (a : A3) (hl : 16 ≤ l.length) :
    Calls Try.prog 8 #[.pointer (some ⟨t, 0, none⟩), a.val] w fun e w' => e = .returned (.int .i64 9) ∧ Below w.heap.size w w' := by
  obtain ⟨v, h1, -, -, h4, -⟩ := h
  obtain ⟨ao, cap, rfl, -, -, hc⟩ := h4.form
  obtain ⟨ae, ak, ap⟩ := a
  simp only [A3.val]
  have h1' := cell_alloc h1 (.cells #[.int .u64 ae, .int .i64 ak, .int .i64 ap] 33)
  clear h4
  generalize l.length = n at *
  go_enter Try.func8, Try.ntmps8
  go_wp2
  go_ret
  exact ⟨rfl, (Below.refl _ _).alloc (Nat.le_refl _) _⟩
set_option maxHeartbeats 1000000 in
theorem drain_put_room {w : World} {S : Nat → Prop} {t : Nat} {l : List A3} (h : DrIs w S t l) (a : A3) (hl : l.length < 16) :
    Calls Try.prog 8 #[.pointer (some ⟨t, 0, none⟩), a.val] w fun e w' => e = .returned (.int .i64 0) ∧ DrIs w' (More S w w') t (l ++ [a]) ∧ Keeps S w w' := by
  obtain ⟨i0, hi, hz0, hz1, hz2⟩ := info_parts Try.infoAct
  obtain ⟨v, h1, h2, h3, h4, h5⟩ := h
  have ht : t < w.heap.size := World.block_lt_of_cell? w _ h1
  obtain ⟨ao, cap, rfl, -, -, hc⟩ := h4.form
  obtain ⟨ae, ak, ap⟩ := a
  simp only [A3.val]
  obtain ⟨o1, ho1⟩ : ∃ o1 : Obj, o1 = .cells #[.int .u64 ae, .int .i64 ak, .int .i64 ap] 33 := ⟨_, rfl⟩
  have h1' := cell_alloc h1 o1
  have h2' := frozen_alloc h2 ht o1
  have h2'' := frozen_alloc h2' (by simp; omega) o1
  have hown2 : (((w.alloc o1).drewN 1).alloc o1).ownsRow 0 33 3 (.slice ao l.length cap) l.length (actsV l) := own_below h4 ((below_drewN ((Below.refl _ w).alloc (Nat.le_refl _) _) 1).alloc (by simp) _)
  have hnews : ∀ j u, [Value.int .u64 ae, .int .i64 ak, .int .i64 ap][j]? = some u → (((w.alloc o1).drewN 1).alloc o1).cell? ((⟨w.heap.size + 1, 0, none⟩ : Addr).add j) = some u := by
    subst ho1
    have := cell_three ((w.alloc (.cells #[.int .u64 ae, .int .i64 ak, .int .i64 ap] 33)).drewN 1) (.int .u64 ae) (.int .i64 ak) (.int .i64 ap) 33
    simpa using this
  have HK : ∀ w1, (((w.alloc o1).drewN 1).alloc o1).grownBy w1 (Value.slice ao l.length cap).ownBlock → w1.frozen? ⟨t, 0, none⟩ = false ∧ w1.cell? ⟨t, 0, none⟩ = some (.slice ao l.length cap) ∧ Keeps S w w1 := by
    intro w1 hg
    have hne : some t ≠ (Value.slice ao l.length cap).ownBlock := fun e => (h5 t e.symm).2 rfl
    have K1 : Keeps S w (((w.alloc o1).drewN 1).alloc o1) := (((Keeps.refl S w).alloc o1).drewN 1).alloc o1
    refine ⟨?_, ?_, K1.grown hg (fun k hk _ => (h5 k hk).1)⟩
    · rw [hg.frozen_far _ (by simp; omega) hne]; exact h2''
    · rw [hg.cell_far _ (by simp; omega) hne]; exact cell_alloc (w := (w.alloc o1).drewN 1) h1' o1
  subst ho1
  generalize hn : l.length = n at *
  go_enter Try.func8, Try.ntmps8
  go_wp2
  go_region_law
    ((refine step_append_lies _ (by rfl) _ _ 27 (by rfl) 0 33 i0 (.agg #[.int .u64 0, .int .i64 0, .int .i64 0]) 3 24 Try.underlying27 hi hz0 hz1 hz2 rfl (by decide) _ _ _ (by rfl) hown2 ⟨w.heap.size + 1, 0, none⟩ 1 1 [.int .u64 ae, .int .i64 ak, .int .i64 ap] (by rfl) rfl hnews three_ints (by decide) (by unfold maxLen; omega) (by omega) (Nat.zero_le _) (w.heap.size + 2) (by simp) ?_; intro g cap' w1 hown' hgrow hat hlt; obtain ⟨f1, f2, hk⟩ := HK w1 hgrow))
  all_goals
    have hd := dr_store (v := .slice (some ⟨g, 0, none⟩) (n + 1) cap') (l := l ++ [⟨ae, ak, ap⟩]) h3 f2 f1 (by unfold Own3; rw [actsV_snoc, List.length_append, hn]; exact hown') (fun k hk => by
      have e : g = k := by simpa [Value.ownBlock] using hk
      subst e
      rcases hat with hat | hat
      · exact ⟨.inl (h5 g hat).1, (h5 g hat).2⟩
      · exact ⟨.inr (by omega), by omega⟩) hk
    clear hown' hgrow hat hk hown2 hnews HK h4 f1 f2 h1' h2' h2'' hi
    generalize w1.setCell ⟨t, 0, none⟩ (.slice (some ⟨g, 0, none⟩) (n + 1) cap') = w2 at *
    go_wp2
    go_ret
    exact ⟨rfl, hd.1, hd.2⟩
/-- Put. -/
theorem drain_put {w : World} {S : Nat → Prop} {t : Nat} {l : List A3} (h : DrIs w S t l) (a : A3) :
    Calls Try.prog 8 #[.pointer (some ⟨t, 0, none⟩), a.val] w fun e w' => e = .returned (.int .i64 (putE l)) ∧ DrIs w' (More S w w') t (putL l a) ∧ Keeps S w w' := by
  by_cases hl : 16 ≤ l.length
  · refine (drain_put_full h a hl).mono ?_
    rintro e w' ⟨rfl, hb⟩
    exact ⟨by simp [putE, hl], by simp only [putL, if_pos hl]; exact (h.below hb).wider (fun _ => .inl), Below.keeps hb⟩
  · refine (drain_put_room h a (by omega)).mono ?_
    rintro e w' ⟨rfl, hd, hk⟩
    exact ⟨by simp [putE, hl], by simp only [putL, if_neg hl]; exact hd, hk⟩
theorem drain_len {w : World} {S : Nat → Prop} {t : Nat} {l : List A3} (h : DrIs w S t l) :
    Calls Try.prog 15 #[.pointer (some ⟨t, 0, none⟩)] w fun e w' => e = .returned (.int .i64 (l.length : Int)) ∧ w' = w := by
  obtain ⟨v, h1, -, -, h4, -⟩ := h
  obtain ⟨ao, cap, rfl, -, -, hc⟩ := h4.form
  clear h4
  generalize l.length = n at *
  go_enter Try.func15, Try.ntmps15
  go_wp2
  go_ret
  exact ⟨rfl, rfl⟩
end Go.Proofs.Ytodkbhboapledaa
