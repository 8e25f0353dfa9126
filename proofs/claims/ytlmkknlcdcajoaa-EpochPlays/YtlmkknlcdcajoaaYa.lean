/- Package epoch at a table that is there: what lies in memory, and the short functions. -/
import Derived.Test.YtlmkknlcdcajoaaXd
namespace Go.Proofs.Ytlmkknlcdcajoaa
open Go.RowKit
theorem RowIs.other {w : World} {r b n : Nat} {v : Nat → Int} {won lost : Int} (h : RowIs w r b n v won lost) (p : Addr) (u : Value) (hr : p.block ≠ r) (hb : p.block ≠ b) : RowIs (w.setCell p u) r b n v won lost := by
  refine ⟨h.ne, ?_, ?_, ?_, ?_, ?_, ?_, ?_⟩
  · rw [cell_set_block _ _ _ hr]; exact h.c0
  · rw [cell_set_block _ _ _ hr]; exact h.c1
  · rw [World.frozen?_setCell]; exact h.f1
  · rw [cell_set_block _ _ _ hr]; exact h.c2
  · rw [World.frozen?_setCell]; exact h.f2
  · intro j hj
    rw [cell_set_block _ _ _ hb]; exact h.cs j hj
  · intro j hj
    rw [World.frozen?_setCell]; exact h.fs j hj
theorem RowIs.below {w w' : World} {r b n : Nat} {v : Nat → Int} {won lost : Int} (h : RowIs w r b n v won lost) (hb : Below w.heap.size w w') : RowIs w' r b n v won lost := by
  have hr : r < w.heap.size := World.block_lt_of_cell? w _ h.c0
  refine ⟨h.ne, ?_, ?_, ?_, ?_, ?_, ?_, ?_⟩
  · rw [hb.cell hr]; exact h.c0
  · rw [hb.cell hr]; exact h.c1
  · rw [hb.frozen hr]; exact h.f1
  · rw [hb.cell hr]; exact h.c2
  · rw [hb.frozen hr]; exact h.f2
  · intro j hj
    rw [hb.cell (World.block_lt_of_cell? w _ (h.cs j hj))]; exact h.cs j hj
  · intro j hj
    rw [hb.frozen (World.block_lt_of_cell? w _ (h.cs j hj))]; exact h.fs j hj
theorem RowIs.congr {w : World} {r b n : Nat} {v u : Nat → Int} {won lost : Int} (h : RowIs w r b n v won lost) (e : ∀ i, i < n → v i = u i) : RowIs w r b n u won lost :=
  ⟨h.ne, h.c0, h.c1, h.f1, h.c2, h.f2, fun i hi => by rw [h.cs i hi, e i hi], h.fs⟩
def updN (v : Nat → Nat) (i : Nat) (y : Nat) : Nat → Nat := fun j => if j = i then y else v j
theorem updN_same (v : Nat → Nat) (i : Nat) (y : Nat) : updN v i y i = y := by simp [updN]
theorem updN_other (v : Nat → Nat) (i j : Nat) (y : Nat) (h : j ≠ i) : updN v i y j = v j := by simp [updN, h]
/-- A table that is there: its struct in block t, the rows of the present epoch and of what each saw. -/
structure TabAt (w : World) (t r1 b1 r2 b2 n now : Nat) (v : Nat → Nat) (won lost : Int) : Prop where
  c0 : w.cell? ⟨t, 0, none⟩ = some (.pointer (some ⟨r1, 0, none⟩))
  c1 : w.cell? ⟨t, 1, none⟩ = some (.pointer (some ⟨r2, 0, none⟩))
  one : RowIs w r1 b1 1 (fun _ => (now : Int)) 0 0
  saw : RowIs w r2 b2 n (fun i => (v i : Int)) won lost
  n1 : b1 ≠ t
  n2 : r2 ≠ t
  n3 : b2 ≠ t
  n4 : b1 ≠ r2
  n5 : b1 ≠ b2
  n6 : r2 ≠ r1
  n7 : b2 ≠ r1
theorem TabAt.bump {w : World} {t r1 b1 r2 b2 n now : Nat} {v : Nat → Nat} {won lost : Int} (h : TabAt w t r1 b1 r2 b2 n now v won lost) (m : Nat) : TabAt (w.setCell ⟨b1, 0, none⟩ (.int .u64 (m : Int))) t r1 b1 r2 b2 n m v won lost := by
  refine ⟨?_, ?_, ?_, h.saw.other _ _ h.n4 h.n5, h.n1, h.n2, h.n3, h.n4, h.n5, h.n6, h.n7⟩
  · rw [cell_set_block _ _ _ h.n1]; exact h.c0
  · rw [cell_set_block _ _ _ h.n1]; exact h.c1
  · refine (h.one.word 0 (by decide) (m : Int)).congr ?_
    intro i hi
    have : i = 0 := by omega
    subst this
    rw [updV_same]
theorem TabAt.word {w : World} {t r1 b1 r2 b2 n now : Nat} {v : Nat → Nat} {won lost : Int} (h : TabAt w t r1 b1 r2 b2 n now v won lost) (s : Nat) (hs : s < n) (y : Nat) : TabAt (w.setCell ⟨b2, s, none⟩ (.int .u64 (y : Int))) t r1 b1 r2 b2 n now (updN v s y) won lost := by
  refine ⟨?_, ?_, h.one.other _ _ h.n7 (fun e => h.n5 e.symm), ?_, h.n1, h.n2, h.n3, h.n4, h.n5, h.n6, h.n7⟩
  · rw [cell_set_block _ _ _ h.n3]; exact h.c0
  · rw [cell_set_block _ _ _ h.n3]; exact h.c1
  · refine (h.saw.word s hs (y : Int)).congr ?_
    intro i hi
    by_cases e : i = s
    · subst e; simp only [updV_same, updN_same]
    · simp only [updV, updN, if_neg e]
theorem TabAt.wins {w : World} {t r1 b1 r2 b2 n now : Nat} {v : Nat → Nat} {won lost : Int} (h : TabAt w t r1 b1 r2 b2 n now v won lost) (y : Int) : TabAt (w.setCell ⟨r2, 1, none⟩ (.int .i64 y)) t r1 b1 r2 b2 n now v y lost := by
  refine ⟨?_, ?_, h.one.other _ _ h.n6 (fun e => h.n4 e.symm), h.saw.wins y, h.n1, h.n2, h.n3, h.n4, h.n5, h.n6, h.n7⟩
  · rw [cell_set_block _ _ _ h.n2]; exact h.c0
  · rw [cell_set_block _ _ _ h.n2]; exact h.c1
theorem TabAt.loses {w : World} {t r1 b1 r2 b2 n now : Nat} {v : Nat → Nat} {won lost : Int} (h : TabAt w t r1 b1 r2 b2 n now v won lost) (y : Int) : TabAt (w.setCell ⟨r2, 2, none⟩ (.int .i64 y)) t r1 b1 r2 b2 n now v won y := by
  refine ⟨?_, ?_, h.one.other _ _ h.n6 (fun e => h.n4 e.symm), h.saw.loses y, h.n1, h.n2, h.n3, h.n4, h.n5, h.n6, h.n7⟩
  · rw [cell_set_block _ _ _ h.n2]; exact h.c0
  · rw [cell_set_block _ _ _ h.n2]; exact h.c1
theorem TabAt.below {w w' : World} {t r1 b1 r2 b2 n now : Nat} {v : Nat → Nat} {won lost : Int} (h : TabAt w t r1 b1 r2 b2 n now v won lost) (hb : Below w.heap.size w w') : TabAt w' t r1 b1 r2 b2 n now v won lost := by
  have ht : t < w.heap.size := World.block_lt_of_cell? w _ h.c0
  refine ⟨?_, ?_, h.one.below hb, h.saw.below hb, h.n1, h.n2, h.n3, h.n4, h.n5, h.n6, h.n7⟩
  · rw [hb.cell ht]; exact h.c0
  · rw [hb.cell ht]; exact h.c1
theorem TabAt.drew {w : World} {t r1 b1 r2 b2 n now : Nat} {v : Nat → Nat} {won lost : Int} (h : TabAt w t r1 b1 r2 b2 n now v won lost) (k : Nat) : TabAt (w.drewN k) t r1 b1 r2 b2 n now v won lost :=
  ⟨h.c0, h.c1, h.one.drew k, h.saw.drew k, h.n1, h.n2, h.n3, h.n4, h.n5, h.n6, h.n7⟩
/-- The same, with its blocks from B on and below C, its counts up to k, and what its numbers keep to. -/
def TabIs (w : World) (B C t n now : Nat) (v : Nat → Nat) (k : Nat) : Prop :=
  ∃ r1 b1 r2 b2 won lost, TabAt w t r1 b1 r2 b2 n now v won lost ∧ ((B ≤ t ∧ t < C) ∧ (B ≤ r1 ∧ r1 < C) ∧ (B ≤ b1 ∧ b1 < C) ∧ (B ≤ r2 ∧ r2 < C) ∧ (B ≤ b2 ∧ b2 < C)) ∧ (0 ≤ won ∧ won ≤ (k : Int)) ∧ (0 ≤ lost ∧ lost ≤ (k : Int)) ∧ n ≤ 8 ∧ (1 ≤ now ∧ now ≤ k + 1)
theorem TabIs.below {w w' : World} {B C t n now : Nat} {v : Nat → Nat} {k : Nat} (h : TabIs w B C t n now v k) (hb : Below w.heap.size w w') : TabIs w' B C t n now v k := by
  obtain ⟨r1, b1, r2, b2, won, lost, h, rest⟩ := h
  exact ⟨r1, b1, r2, b2, won, lost, h.below hb, rest⟩
theorem TabIs.drew {w : World} {B C t n now : Nat} {v : Nat → Nat} {k : Nat} (h : TabIs w B C t n now v k) (m : Nat) : TabIs (w.drewN m) B C t n now v k := by
  obtain ⟨r1, b1, r2, b2, won, lost, h, rest⟩ := h
  exact ⟨r1, b1, r2, b2, won, lost, h.drew m, rest⟩
theorem TabIs.mono {w : World} {A B C D t n now : Nat} {v : Nat → Nat} {k : Nat} (h : TabIs w B C t n now v k) (hA : A ≤ B) (hD : C ≤ D) : TabIs w A D t n now v k := by
  obtain ⟨r1, b1, r2, b2, won, lost, h, hB, rest⟩ := h
  exact ⟨r1, b1, r2, b2, won, lost, h, by omega, rest⟩
theorem TabIs.more {w : World} {B C t n now : Nat} {v : Nat → Nat} {k m : Nat} (h : TabIs w B C t n now v k) (hm : k ≤ m) : TabIs w B C t n now v m := by
  obtain ⟨r1, b1, r2, b2, won, lost, h, hB, h1, h2, h3, h4⟩ := h
  exact ⟨r1, b1, r2, b2, won, lost, h, hB, by omega, by omega, h3, by omega⟩
theorem TabIs.lt {w : World} {B C t n now : Nat} {v : Nat → Nat} {k : Nat} (h : TabIs w B C t n now v k) : B ≤ w.heap.size := by
  obtain ⟨r1, b1, r2, b2, won, lost, h, hB, _⟩ := h
  have h0 : t < w.heap.size := World.block_lt_of_cell? w _ h.c0
  omega
set_option maxHeartbeats 400000 in
theorem now_at {w : World} {t r1 b1 r2 b2 n now : Nat} {v : Nat → Nat} {won lost : Int} (h : TabAt w t r1 b1 r2 b2 n now v won lost) :
    Calls Try.prog 15 #[.pointer (some ⟨t, 0, none⟩)] w fun e w' => e = .returned (.int .u64 (now : Int)) ∧ w' = w := by
  have c0 := h.c0
  go_enter Try.func15, Try.ntmps15
  go_wp2_with fail
  refine (rload h.one 0 (by decide) (now : Int) rfl).mono ?_
  rintro e x ⟨rfl, rfl⟩
  go_wp2
  go_ret
  exact ⟨rfl, rfl⟩
set_option maxHeartbeats 400000 in
theorem seen_at {w : World} {t r1 b1 r2 b2 n now : Nat} {v : Nat → Nat} {won lost : Int} (h : TabAt w t r1 b1 r2 b2 n now v won lost) (s : Nat) (hs : s < n) :
    Calls Try.prog 14 #[.pointer (some ⟨t, 0, none⟩), .int .i64 (s : Int)] w fun e w' => e = .returned (.int .u64 (v s : Int)) ∧ w' = w := by
  have c1 := h.c1
  go_enter Try.func14, Try.ntmps14
  go_wp2_with fail
  refine (rload h.saw s hs (v s : Int) rfl).mono ?_
  rintro e x ⟨rfl, rfl⟩
  go_wp2
  go_ret
  exact ⟨rfl, rfl⟩
set_option maxHeartbeats 400000 in
theorem seen_no_at {w : World} {t r1 b1 r2 b2 n now : Nat} {v : Nat → Nat} {won lost : Int} (h : TabAt w t r1 b1 r2 b2 n now v won lost) (s : Int) (hs : s < 0 ∨ (n : Int) ≤ s) :
    Calls Try.prog 14 #[.pointer (some ⟨t, 0, none⟩), .int .i64 s] w fun e w' => e = .returned (.int .u64 0) ∧ w' = w := by
  have c1 := h.c1
  go_enter Try.func14, Try.ntmps14
  go_wp2_with fail
  refine (load_no r2 _ n n s hs _ h.saw.c0).mono ?_
  rintro e x ⟨rfl, rfl⟩
  go_wp2
  go_ret
  exact ⟨rfl, rfl⟩
set_option maxHeartbeats 400000 in
theorem bump_at {w : World} {t r1 b1 r2 b2 n now : Nat} {v : Nat → Nat} {won lost : Int} (h : TabAt w t r1 b1 r2 b2 n now v won lost) (hn : now ≤ 1000000) :
    Calls Try.prog 10 #[.pointer (some ⟨t, 0, none⟩)] w fun e w' => e = .returned (.tuple #[.int .u64 (now : Int), .int .i64 0]) ∧ w' = w.setCell ⟨b1, 0, none⟩ (.int .u64 ((now + 1 : Nat) : Int)) := by
  have c0 := h.c0
  go_enter Try.func10, Try.ntmps10
  go_wp2_with fail
  refine (add_yes r1 b1 1 1 0 (now : Int) 1 (by decide) (by omega) (by decide) (by omega) _ h.one.c0 (h.one.cs 0 (by decide)) (h.one.fs 0 (by decide))).mono ?_
  rintro e x ⟨rfl, rfl⟩
  go_wp2
  go_ret2
  exact ⟨rfl, rfl⟩
end Go.Proofs.Ytlmkknlcdcajoaa
