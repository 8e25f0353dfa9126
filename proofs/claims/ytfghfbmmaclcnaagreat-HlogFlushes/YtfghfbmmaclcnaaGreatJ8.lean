/- Parts of the proof: Ya Yb Mg Yc Ye Mh Yf Yg. -/
import Derived.Test.YtfghfbmmaclcnaaGreatJ3
import Derived.Deep.RegionHeld3
namespace Go.Proofs.YtfghfbmmaclcnaaGreat
set_option maxRecDepth 20000
open Go.RowKit
theorem RowIs.other {w : World} {r b n : Nat} {v : Nat → Int} {won lost : Int} (h : RowIs w r b n v won lost) (p : Addr) (u : Value) (hr : p.block ≠ r) (hb : p.block ≠ b) : RowIs (w.setCell p u) r b n v won lost := by
  refine ⟨h.ne, ?_, ?_, ?_, ?_, ?_, ?_, ?_⟩
  · rw [cell_set_block _ _ _ hr]; exact h.c0
  · rw [cell_set_block _ _ _ hr]; exact h.c1
  · rw [World.frozen?_setCell]; exact h.f1
  · rw [cell_set_block _ _ _ hr]; exact h.c2
  · rw [World.frozen?_setCell]; exact h.f2
  · intro j hj
    rw [cell_set_block _ _ _ hb]; exact h.cs j hj
  · intro j hj
    rw [World.frozen?_setCell]; exact h.fs j hj
theorem RowIs.below {w w' : World} {r b n : Nat} {v : Nat → Int} {won lost : Int} (h : RowIs w r b n v won lost) (hb : Below w.heap.size w w') : RowIs w' r b n v won lost := by
  have hr : r < w.heap.size := World.block_lt_of_cell? w _ h.c0
  refine ⟨h.ne, ?_, ?_, ?_, ?_, ?_, ?_, ?_⟩
  · rw [hb.cell hr]; exact h.c0
  · rw [hb.cell hr]; exact h.c1
  · rw [hb.frozen hr]; exact h.f1
  · rw [hb.cell hr]; exact h.c2
  · rw [hb.frozen hr]; exact h.f2
  · intro j hj
    rw [hb.cell (World.block_lt_of_cell? w _ (h.cs j hj))]; exact h.cs j hj
  · intro j hj
    rw [hb.frozen (World.block_lt_of_cell? w _ (h.cs j hj))]; exact h.fs j hj
theorem RowIs.congr {w : World} {r b n : Nat} {v u : Nat → Int} {won lost : Int} (h : RowIs w r b n v won lost) (e : ∀ i, i < n → v i = u i) : RowIs w r b n u won lost :=
  ⟨h.ne, h.c0, h.c1, h.f1, h.c2, h.f2, fun i hi => by rw [h.cs i hi, e i hi], h.fs⟩
def updN (v : Nat → Nat) (i : Nat) (y : Nat) : Nat → Nat := fun j => if j = i then y else v j
theorem updN_same (v : Nat → Nat) (i : Nat) (y : Nat) : updN v i y i = y := by simp [updN]
theorem updN_other (v : Nat → Nat) (i j : Nat) (y : Nat) (h : j ≠ i) : updN v i y j = v j := by simp [updN, h]
/-- A table that is there: its struct in block t, the rows of the present epoch and of what each saw. -/
structure TabAt (w : World) (t r1 b1 r2 b2 n now : Nat) (v : Nat → Nat) (won lost : Int) : Prop where
  c0 : w.cell? ⟨t, 0, none⟩ = some (.pointer (some ⟨r1, 0, none⟩))
  c1 : w.cell? ⟨t, 1, none⟩ = some (.pointer (some ⟨r2, 0, none⟩))
  one : RowIs w r1 b1 1 (fun _ => (now : Int)) 0 0
  saw : RowIs w r2 b2 n (fun i => (v i : Int)) won lost
  n1 : b1 ≠ t
  n2 : r2 ≠ t
  n3 : b2 ≠ t
  n4 : b1 ≠ r2
  n5 : b1 ≠ b2
  n6 : r2 ≠ r1
  n7 : b2 ≠ r1
theorem TabAt.bump {w : World} {t r1 b1 r2 b2 n now : Nat} {v : Nat → Nat} {won lost : Int} (h : TabAt w t r1 b1 r2 b2 n now v won lost) (m : Nat) : TabAt (w.setCell ⟨b1, 0, none⟩ (.int .u64 (m : Int))) t r1 b1 r2 b2 n m v won lost := by
  refine ⟨?_, ?_, ?_, h.saw.other _ _ h.n4 h.n5, h.n1, h.n2, h.n3, h.n4, h.n5, h.n6, h.n7⟩
  · rw [cell_set_block _ _ _ h.n1]; exact h.c0
  · rw [cell_set_block _ _ _ h.n1]; exact h.c1
  · refine (h.one.word 0 (by decide) (m : Int)).congr ?_
    intro i hi
    have : i = 0 := by omega
    subst this
    rw [updV_same]
theorem TabAt.word {w : World} {t r1 b1 r2 b2 n now : Nat} {v : Nat → Nat} {won lost : Int} (h : TabAt w t r1 b1 r2 b2 n now v won lost) (s : Nat) (hs : s < n) (y : Nat) : TabAt (w.setCell ⟨b2, s, none⟩ (.int .u64 (y : Int))) t r1 b1 r2 b2 n now (updN v s y) won lost := by
  refine ⟨?_, ?_, h.one.other _ _ h.n7 (fun e => h.n5 e.symm), ?_, h.n1, h.n2, h.n3, h.n4, h.n5, h.n6, h.n7⟩
  · rw [cell_set_block _ _ _ h.n3]; exact h.c0
  · rw [cell_set_block _ _ _ h.n3]; exact h.c1
  · refine (h.saw.word s hs (y : Int)).congr ?_
    intro i hi
    by_cases e : i = s
    · subst e; simp only [updV_same, updN_same]
    · simp only [updV, updN, if_neg e]
theorem TabAt.wins {w : World} {t r1 b1 r2 b2 n now : Nat} {v : Nat → Nat} {won lost : Int} (h : TabAt w t r1 b1 r2 b2 n now v won lost) (y : Int) : TabAt (w.setCell ⟨r2, 1, none⟩ (.int .i64 y)) t r1 b1 r2 b2 n now v y lost := by
  refine ⟨?_, ?_, h.one.other _ _ h.n6 (fun e => h.n4 e.symm), h.saw.wins y, h.n1, h.n2, h.n3, h.n4, h.n5, h.n6, h.n7⟩
  · rw [cell_set_block _ _ _ h.n2]; exact h.c0
  · rw [cell_set_block _ _ _ h.n2]; exact h.c1
theorem TabAt.loses {w : World} {t r1 b1 r2 b2 n now : Nat} {v : Nat → Nat} {won lost : Int} (h : TabAt w t r1 b1 r2 b2 n now v won lost) (y : Int) : TabAt (w.setCell ⟨r2, 2, none⟩ (.int .i64 y)) t r1 b1 r2 b2 n now v won y := by
  refine ⟨?_, ?_, h.one.other _ _ h.n6 (fun e => h.n4 e.symm), h.saw.loses y, h.n1, h.n2, h.n3, h.n4, h.n5, h.n6, h.n7⟩
  · rw [cell_set_block _ _ _ h.n2]; exact h.c0
  · rw [cell_set_block _ _ _ h.n2]; exact h.c1
theorem TabAt.below {w w' : World} {t r1 b1 r2 b2 n now : Nat} {v : Nat → Nat} {won lost : Int} (h : TabAt w t r1 b1 r2 b2 n now v won lost) (hb : Below w.heap.size w w') : TabAt w' t r1 b1 r2 b2 n now v won lost := by
  have ht : t < w.heap.size := World.block_lt_of_cell? w _ h.c0
  refine ⟨?_, ?_, h.one.below hb, h.saw.below hb, h.n1, h.n2, h.n3, h.n4, h.n5, h.n6, h.n7⟩
  · rw [hb.cell ht]; exact h.c0
  · rw [hb.cell ht]; exact h.c1
theorem TabAt.drew {w : World} {t r1 b1 r2 b2 n now : Nat} {v : Nat → Nat} {won lost : Int} (h : TabAt w t r1 b1 r2 b2 n now v won lost) (k : Nat) : TabAt (w.drewN k) t r1 b1 r2 b2 n now v won lost :=
  ⟨h.c0, h.c1, h.one.drew k, h.saw.drew k, h.n1, h.n2, h.n3, h.n4, h.n5, h.n6, h.n7⟩
/-- The same, with its blocks from B on and below C, its counts up to k, and what its numbers keep to. -/
def TabIs (w : World) (B C t n now : Nat) (v : Nat → Nat) (k : Nat) : Prop :=
  ∃ r1 b1 r2 b2 won lost, TabAt w t r1 b1 r2 b2 n now v won lost ∧ ((B ≤ t ∧ t < C) ∧ (B ≤ r1 ∧ r1 < C) ∧ (B ≤ b1 ∧ b1 < C) ∧ (B ≤ r2 ∧ r2 < C) ∧ (B ≤ b2 ∧ b2 < C)) ∧ (0 ≤ won ∧ won ≤ (k : Int)) ∧ (0 ≤ lost ∧ lost ≤ (k : Int)) ∧ n ≤ 8 ∧ (1 ≤ now ∧ now ≤ k + 1)
theorem TabIs.below {w w' : World} {B C t n now : Nat} {v : Nat → Nat} {k : Nat} (h : TabIs w B C t n now v k) (hb : Below w.heap.size w w') : TabIs w' B C t n now v k := by
  obtain ⟨r1, b1, r2, b2, won, lost, h, rest⟩ := h
  exact ⟨r1, b1, r2, b2, won, lost, h.below hb, rest⟩
theorem TabIs.drew {w : World} {B C t n now : Nat} {v : Nat → Nat} {k : Nat} (h : TabIs w B C t n now v k) (m : Nat) : TabIs (w.drewN m) B C t n now v k := by
  obtain ⟨r1, b1, r2, b2, won, lost, h, rest⟩ := h
  exact ⟨r1, b1, r2, b2, won, lost, h.drew m, rest⟩
theorem TabIs.mono {w : World} {A B C D t n now : Nat} {v : Nat → Nat} {k : Nat} (h : TabIs w B C t n now v k) (hA : A ≤ B) (hD : C ≤ D) : TabIs w A D t n now v k := by
  obtain ⟨r1, b1, r2, b2, won, lost, h, hB, rest⟩ := h
  exact ⟨r1, b1, r2, b2, won, lost, h, by omega, rest⟩
theorem TabIs.more {w : World} {B C t n now : Nat} {v : Nat → Nat} {k m : Nat} (h : TabIs w B C t n now v k) (hm : k ≤ m) : TabIs w B C t n now v m := by
  obtain ⟨r1, b1, r2, b2, won, lost, h, hB, h1, h2, h3, h4⟩ := h
  exact ⟨r1, b1, r2, b2, won, lost, h, hB, by omega, by omega, h3, by omega⟩
theorem TabIs.lt {w : World} {B C t n now : Nat} {v : Nat → Nat} {k : Nat} (h : TabIs w B C t n now v k) : B ≤ w.heap.size := by
  obtain ⟨r1, b1, r2, b2, won, lost, h, hB, _⟩ := h
  have h0 : t < w.heap.size := World.block_lt_of_cell? w _ h.c0
  omega
set_option maxHeartbeats 400000 in
theorem now_at {w : World} {t r1 b1 r2 b2 n now : Nat} {v : Nat → Nat} {won lost : Int} (h : TabAt w t r1 b1 r2 b2 n now v won lost) :
    Calls Tryz.prog 11 #[.pointer (some ⟨t, 0, none⟩)] w fun e w' => e = .returned (.int .u64 (now : Int)) ∧ w' = w := by
  have c0 := h.c0
  go_enter Tryz.func11, Tryz.ntmps11
  go_wp2_with fail
  refine (rload h.one 0 (by decide) (now : Int) rfl).mono ?_
  rintro e x ⟨rfl, rfl⟩
  go_wp2
  go_ret
  exact ⟨rfl, rfl⟩
set_option maxHeartbeats 400000 in
theorem seen_at {w : World} {t r1 b1 r2 b2 n now : Nat} {v : Nat → Nat} {won lost : Int} (h : TabAt w t r1 b1 r2 b2 n now v won lost) (s : Nat) (hs : s < n) :
    Calls Tryz.prog 10 #[.pointer (some ⟨t, 0, none⟩), .int .i64 (s : Int)] w fun e w' => e = .returned (.int .u64 (v s : Int)) ∧ w' = w := by
  have c1 := h.c1
  go_enter Tryz.func10, Tryz.ntmps10
  go_wp2_with fail
  refine (rload h.saw s hs (v s : Int) rfl).mono ?_
  rintro e x ⟨rfl, rfl⟩
  go_wp2
  go_ret
  exact ⟨rfl, rfl⟩
set_option maxHeartbeats 400000 in
theorem seen_no_at {w : World} {t r1 b1 r2 b2 n now : Nat} {v : Nat → Nat} {won lost : Int} (h : TabAt w t r1 b1 r2 b2 n now v won lost) (s : Int) (hs : s < 0 ∨ (n : Int) ≤ s) :
    Calls Tryz.prog 10 #[.pointer (some ⟨t, 0, none⟩), .int .i64 s] w fun e w' => e = .returned (.int .u64 0) ∧ w' = w := by
  have c1 := h.c1
  go_enter Tryz.func10, Tryz.ntmps10
  go_wp2_with fail
  refine (load_no r2 _ n n s hs _ h.saw.c0).mono ?_
  rintro e x ⟨rfl, rfl⟩
  go_wp2
  go_ret
  exact ⟨rfl, rfl⟩
set_option maxHeartbeats 400000 in
theorem bump_at {w : World} {t r1 b1 r2 b2 n now : Nat} {v : Nat → Nat} {won lost : Int} (h : TabAt w t r1 b1 r2 b2 n now v won lost) (hn : now ≤ 1000000) :
    Calls Tryz.prog 172 #[.pointer (some ⟨t, 0, none⟩)] w fun e w' => e = .returned (.tuple #[.int .u64 (now : Int), .int .i64 0]) ∧ w' = w.setCell ⟨b1, 0, none⟩ (.int .u64 ((now + 1 : Nat) : Int)) := by
  have c0 := h.c0
  go_enter Tryz.func172, Tryz.ntmps172
  go_wp2_with fail
  refine (add_yes r1 b1 1 1 0 (now : Int) 1 (by decide) (by omega) (by decide) (by omega) _ h.one.c0 (h.one.cs 0 (by decide)) (h.one.fs 0 (by decide))).mono ?_
  rintro e x ⟨rfl, rfl⟩
  go_wp2
  go_ret2
  exact ⟨rfl, rfl⟩
end Go.Proofs.YtfghfbmmaclcnaaGreat
namespace Go.Proofs.YtfghfbmmaclcnaaGreat
set_option maxRecDepth 20000
open Go.RowKit
theorem tcas_hit {w : World} {t r1 b1 r2 b2 n now : Nat} {v : Nat → Nat} {won lost : Int} (h : TabAt w t r1 b1 r2 b2 n now v won lost) (s : Nat) (hs : s < n) (hv : v s = 0) (y : Nat) (hw : 0 ≤ won ∧ won ≤ 1000000) :
    Calls Tryz.prog 124 #[.pointer (some ⟨r2, 0, none⟩), .int .i64 (s : Int), .int .u64 0, .int .u64 (y : Int)] w fun e w' => e = .returned (.tuple #[.bool true, .int .i64 0]) ∧ TabAt w' t r1 b1 r2 b2 n now (updN v s y) (won + 1) lost ∧ ∀ B C, (B ≤ r2 ∧ r2 < C) → (B ≤ b2 ∧ b2 < C) → Apart B C w w' := by
  have hc := h.saw.cs s hs
  simp only [hv] at hc
  refine (cas_hit r2 b2 n n s 0 (y : Int) won hs h.saw.ne hw w h.saw.c0 hc (h.saw.fs s hs) h.saw.c1 h.saw.f1).mono ?_
  rintro e w' ⟨rfl, rfl⟩
  exact ⟨rfl, (h.word s hs y).wins _, fun B C hr hb => ((Apart.refl _ _ _).setCell _ hb _).setCell _ hr _⟩
theorem tcas_miss {w : World} {t r1 b1 r2 b2 n now : Nat} {v : Nat → Nat} {won lost : Int} (h : TabAt w t r1 b1 r2 b2 n now v won lost) (s : Nat) (hs : s < n) (hv : v s ≠ 0) (y : Nat) (hw : 0 ≤ lost ∧ lost ≤ 1000000) :
    Calls Tryz.prog 124 #[.pointer (some ⟨r2, 0, none⟩), .int .i64 (s : Int), .int .u64 0, .int .u64 (y : Int)] w fun e w' => e = .returned (.tuple #[.bool false, .int .i64 0]) ∧ TabAt w' t r1 b1 r2 b2 n now v won (lost + 1) ∧ ∀ B C, (B ≤ r2 ∧ r2 < C) → Apart B C w w' := by
  refine (cas_miss r2 b2 n n s (v s : Int) 0 (y : Int) lost hs hw w h.saw.c0 (h.saw.cs s hs) (h.saw.fs s hs) (by omega) h.saw.c2 h.saw.f2).mono ?_
  rintro e w' ⟨rfl, rfl⟩
  exact ⟨rfl, h.loses _, fun B C hr => (Apart.refl _ _ _).setCell _ hr _⟩
theorem apart_drew1 {B C : Nat} {w x : World} (h : Apart B C (w.drewN 1) x) : Apart B C w x := ((Apart.refl B C w).drewN 1).trans h
set_option maxHeartbeats 400000 in
theorem enter_new_at {w : World} {t r1 b1 r2 b2 n now : Nat} {v : Nat → Nat} {won lost : Int} (h : TabAt w t r1 b1 r2 b2 n now v won lost) (s : Nat) (hs : s < n) (hv : v s = 0) (hw : 0 ≤ won ∧ won ≤ 1000000) :
    Calls Tryz.prog 49 #[.pointer (some ⟨t, 0, none⟩), .int .i64 (s : Int)] w fun e w' => e = .returned (.int .i64 0) ∧ TabAt w' t r1 b1 r2 b2 n now (updN v s now) (won + 1) lost ∧ ∀ B C, (B ≤ r2 ∧ r2 < C) → (B ≤ b2 ∧ b2 < C) → Apart B C w w' := by
  have c1 := h.c1
  have HV := hide hv
  clear hv
  go_enter Tryz.func49, Tryz.ntmps49
  go_wp2_with fail
  go_region_held3 (fun W => W.cell? ⟨t, 1, none⟩ = some (.pointer (some ⟨r2, 0, none⟩))) (first | go_keep | exact TabAt.c1 (by assumption)) (first | (go_at_call 11; refine (now_at (h.drew 1)).mono ?_; rintro e x ⟨rfl, rfl⟩) | (go_at_call 124; refine (tcas_hit (h.drew 1) s hs HV.out now hw).mono ?_; rintro e x ⟨rfl, hx, hB⟩))
  all_goals
    go_wp2
    go_ret
    exact ⟨rfl, hx, fun B C h1 h2 => apart_drew1 (hB B C h1 h2)⟩
set_option maxHeartbeats 400000 in
theorem enter_there_at {w : World} {t r1 b1 r2 b2 n now : Nat} {v : Nat → Nat} {won lost : Int} (h : TabAt w t r1 b1 r2 b2 n now v won lost) (s : Nat) (hs : s < n) (hv : v s ≠ 0) (hw : 0 ≤ lost ∧ lost ≤ 1000000) :
    Calls Tryz.prog 49 #[.pointer (some ⟨t, 0, none⟩), .int .i64 (s : Int)] w fun e w' => e = .returned (.int .i64 8) ∧ TabAt w' t r1 b1 r2 b2 n now v won (lost + 1) ∧ ∀ B C, (B ≤ r2 ∧ r2 < C) → Apart B C w w' := by
  have c1 := h.c1
  have HV := hide hv
  clear hv
  go_enter Tryz.func49, Tryz.ntmps49
  go_wp2_with fail
  go_region_held3 (fun W => W.cell? ⟨t, 1, none⟩ = some (.pointer (some ⟨r2, 0, none⟩))) (first | go_keep | exact TabAt.c1 (by assumption)) (first | (go_at_call 11; refine (now_at (h.drew 1)).mono ?_; rintro e x ⟨rfl, rfl⟩) | (go_at_call 124; refine (tcas_miss (h.drew 1) s hs HV.out now hw).mono ?_; rintro e x ⟨rfl, hx, hB⟩))
  all_goals
    go_wp2
    go_ret
    exact ⟨rfl, hx, fun B C h1 => apart_drew1 (hB B C h1)⟩
set_option maxHeartbeats 400000 in
theorem enter_no_at {w : World} {t r1 b1 r2 b2 n now : Nat} {v : Nat → Nat} {won lost : Int} (h : TabAt w t r1 b1 r2 b2 n now v won lost) (s : Int) (hs : s < 0 ∨ (n : Int) ≤ s) :
    Calls Tryz.prog 49 #[.pointer (some ⟨t, 0, none⟩), .int .i64 s] w fun e w' => e = .returned (.int .i64 1) ∧ ∃ k, w' = w.drewN k := by
  have c1 := h.c1
  go_enter Tryz.func49, Tryz.ntmps49
  go_wp2_with fail
  go_quiet ((first | (go_at_call 11; exact Calls.quiet_of_same (now_at (h.drew _))) | (go_at_call 124; exact Calls.quiet_of_same (cas_no r2 _ n n s 0 (now : Int) hs _ (h.drew _).saw.c0))))
  go_wp2
  go_ret
  exact ⟨rfl, _, rfl⟩
set_option maxHeartbeats 400000 in
theorem turn_yes_at {w : World} {t r1 b1 r2 b2 n now : Nat} {v : Nat → Nat} {won lost : Int} (h : TabAt w t r1 b1 r2 b2 n now v won lost) (s : Nat) (hs : s < n) (hv : v s ≠ 0) (y : Nat) :
    Calls Tryz.prog 125 #[.pointer (some ⟨t, 0, none⟩), .int .i64 (s : Int), .int .u64 (y : Int)] w fun e w' => e = .returned (.int .i64 0) ∧ TabAt w' t r1 b1 r2 b2 n now (updN v s y) won lost ∧ ∀ B C, (B ≤ b2 ∧ b2 < C) → Apart B C w w' := by
  have c1 := h.c1
  have hv' : ((v s : Int) == 0) = false := by simp; omega
  have hs0 : decide ((s : Int) < 0) = false := by simp
  have hsn : decide ((s : Int) ≥ (n : Int)) = false := by simp; omega
  clear hv
  go_enter Tryz.func125, Tryz.ntmps125
  go_wp2_with fail
  refine (len_any r2 _ n n _ h.saw.c0).mono ?_
  rintro e x ⟨rfl, rfl⟩
  go_wp2_with fail
  refine (rload h.saw s hs (v s : Int) rfl).mono ?_
  rintro e x ⟨rfl, rfl⟩
  go_wp2_with fail
  refine (store_yes r2 b2 n n s _ (y : Int) hs _ h.saw.c0 (h.saw.cs s hs) (h.saw.fs s hs)).mono ?_
  rintro e x ⟨rfl, rfl⟩
  go_wp2
  go_ret
  exact ⟨rfl, h.word s hs y, fun B C hb => (Apart.refl _ _ _).setCell _ hb _⟩
set_option maxHeartbeats 400000 in
theorem turn_none_at {w : World} {t r1 b1 r2 b2 n now : Nat} {v : Nat → Nat} {won lost : Int} (h : TabAt w t r1 b1 r2 b2 n now v won lost) (s : Nat) (hs : s < n) (hv : v s = 0) (y : Int) :
    Calls Tryz.prog 125 #[.pointer (some ⟨t, 0, none⟩), .int .i64 (s : Int), .int .u64 y] w fun e w' => e = .returned (.int .i64 7) ∧ w' = w := by
  have c1 := h.c1
  have hl := rload h.saw s hs 0 (by rw [hv]; rfl)
  have hs0 : decide ((s : Int) < 0) = false := by simp
  have hsn : decide ((s : Int) ≥ (n : Int)) = false := by simp; omega
  clear hv
  go_enter Tryz.func125, Tryz.ntmps125
  go_wp2_with fail
  refine (len_any r2 _ n n _ h.saw.c0).mono ?_
  rintro e x ⟨rfl, rfl⟩
  go_wp2_with fail
  refine hl.mono ?_
  rintro e x ⟨rfl, rfl⟩
  go_wp2
  go_ret
  exact ⟨rfl, rfl⟩
set_option maxHeartbeats 400000 in
theorem turn_no_at {w : World} {t r1 b1 r2 b2 n now : Nat} {v : Nat → Nat} {won lost : Int} (h : TabAt w t r1 b1 r2 b2 n now v won lost) (s : Int) (hs : s < 0 ∨ (n : Int) ≤ s) (y : Int) :
    Calls Tryz.prog 125 #[.pointer (some ⟨t, 0, none⟩), .int .i64 s, .int .u64 y] w fun e w' => e = .returned (.int .i64 1) ∧ w' = w := by
  have c1 := h.c1
  by_cases h0 : s < 0
  · clear hs
    go_enter Tryz.func125, Tryz.ntmps125
    go_wp2
    go_ret
    exact ⟨rfl, rfl⟩
  · have h1 : (n : Int) ≤ s := by omega
    clear hs
    go_enter Tryz.func125, Tryz.ntmps125
    go_wp2_with fail
    refine (len_any r2 _ n n _ h.saw.c0).mono ?_
    rintro e x ⟨rfl, rfl⟩
    go_wp2
    go_ret
    exact ⟨rfl, rfl⟩
set_option maxHeartbeats 400000 in
theorem refresh_at {w : World} {t r1 b1 r2 b2 n now : Nat} {v : Nat → Nat} {won lost : Int} (h : TabAt w t r1 b1 r2 b2 n now v won lost) (s : Int) (c : Int) (Q : World → Prop)
    (ht : Calls Tryz.prog 125 #[.pointer (some ⟨t, 0, none⟩), .int .i64 s, .int .u64 (now : Int)] w (fun e w' => e = .returned (.int .i64 c) ∧ Q w')) :
    Calls Tryz.prog 51 #[.pointer (some ⟨t, 0, none⟩), .int .i64 s] w (fun e w' => e = .returned (.int .i64 c) ∧ Q w') := by
  go_enter Tryz.func51, Tryz.ntmps51
  go_wp2_with fail
  refine (now_at h).mono ?_
  rintro e x ⟨rfl, rfl⟩
  go_wp2_with fail
  refine ht.mono ?_
  rintro e x ⟨rfl, hx⟩
  go_wp2
  go_ret
  exact ⟨rfl, hx⟩
set_option maxHeartbeats 400000 in
theorem leave_at {w : World} {t : Nat} (s : Int) (c : Int) (Q : World → Prop)
    (ht : Calls Tryz.prog 125 #[.pointer (some ⟨t, 0, none⟩), .int .i64 s, .int .u64 0] w (fun e w' => e = .returned (.int .i64 c) ∧ Q w')) :
    Calls Tryz.prog 52 #[.pointer (some ⟨t, 0, none⟩), .int .i64 s] w (fun e w' => e = .returned (.int .i64 c) ∧ Q w') := by
  go_enter Tryz.func52, Tryz.ntmps52
  go_wp2_with fail
  refine ht.mono ?_
  rintro e x ⟨rfl, hx⟩
  go_wp2
  go_ret
  exact ⟨rfl, hx⟩
/-- What a call answers: 1 Enter, 2 Refresh, 3 Leave. -/
def doesE (n : Nat) (v : Nat → Nat) (kind s : Int) : Int :=
  if s < 0 ∨ (n : Int) ≤ s then 1 else if kind = 1 then (if v s.toNat = 0 then 0 else 8) else (if v s.toNat = 0 then 7 else 0)
/-- What each saw behind it. -/
def doesV (n now : Nat) (v : Nat → Nat) (kind s : Int) : Nat → Nat :=
  if doesE n v kind s = 0 then updN v s.toNat (if kind = 3 then 0 else now) else v
theorem doesE_out {n : Nat} {v : Nat → Nat} {kind s : Int} (h : s < 0 ∨ (n : Int) ≤ s) : doesE n v kind s = 1 := by simp [doesE, h]
theorem doesV_out {n now : Nat} {v : Nat → Nat} {kind s : Int} (h : s < 0 ∨ (n : Int) ≤ s) : doesV n now v kind s = v := by simp [doesV, doesE_out h]
theorem doesE_in {n : Nat} {v : Nat → Nat} {kind : Int} {s : Nat} (h : s < n) : doesE n v kind (s : Int) = if kind = 1 then (if v s = 0 then 0 else 8) else (if v s = 0 then 7 else 0) := by
  rw [doesE, if_neg (by omega)]; simp
/-- What the three promise together. -/
def DoesIt (w : World) (B C t n now : Nat) (v : Nat → Nat) (k : Nat) (kind s : Int) (e : Ending) (w' : World) : Prop :=
  e = .returned (.int .i64 (doesE n v kind s)) ∧ (TabIs w' B C t n now (doesV n now v kind s) (k + 1) ∧ Apart B C w w')
theorem TabIs.step {w' : World} {B C t n now k : Nat} {v u : Nat → Nat} {r1 b1 r2 b2 : Nat} {won lost won' lost' : Int} (h : TabAt w' t r1 b1 r2 b2 n now u won' lost') (hB : (B ≤ t ∧ t < C) ∧ (B ≤ r1 ∧ r1 < C) ∧ (B ≤ b1 ∧ b1 < C) ∧ (B ≤ r2 ∧ r2 < C) ∧ (B ≤ b2 ∧ b2 < C))
    (h1 : 0 ≤ won ∧ won ≤ (k : Int)) (h2 : 0 ≤ lost ∧ lost ≤ (k : Int)) (h3 : n ≤ 8) (h4 : 1 ≤ now ∧ now ≤ k + 1) (e1 : won' = won ∨ won' = won + 1) (e2 : lost' = lost ∨ lost' = lost + 1) (hu : u = v) : TabIs w' B C t n now v (k + 1) := by
  subst hu
  exact ⟨r1, b1, r2, b2, won', lost', h, hB, by omega, by omega, h3, by omega⟩
theorem enter_any {w : World} {B C t n now : Nat} {v : Nat → Nat} {k : Nat} (h : TabIs w B C t n now v k) (hk : k ≤ 1000000) (s : Int) :
    Calls Tryz.prog 49 #[.pointer (some ⟨t, 0, none⟩), .int .i64 s] w (DoesIt w B C t n now v k 1 s) := by
  obtain ⟨r1, b1, r2, b2, won, lost, h, hB, hw, hl, hn, hnow⟩ := h
  by_cases hs : s < 0 ∨ (n : Int) ≤ s
  · refine (enter_no_at h s hs).mono ?_
    rintro e w' ⟨rfl, m, rfl⟩
    exact ⟨by rw [doesE_out hs], TabIs.step (h.drew m) hB hw hl hn hnow (.inl rfl) (.inl rfl) (doesV_out hs).symm, (Apart.refl _ _ _).drewN _⟩
  · obtain ⟨s, rfl⟩ := Int.eq_ofNat_of_zero_le (show 0 ≤ s by omega)
    have hs : s < n := by omega
    by_cases hv : v s = 0
    · refine (enter_new_at h s hs hv (by omega)).mono ?_
      rintro e w' ⟨rfl, h', hb⟩
      have he : doesE n v 1 (s : Int) = 0 := by rw [doesE_in hs]; simp [hv]
      exact ⟨by rw [he], TabIs.step h' hB hw hl hn hnow (.inr rfl) (.inl rfl) (by simp [doesV, he]), hb B C hB.2.2.2.1 hB.2.2.2.2⟩
    · refine (enter_there_at h s hs hv (by omega)).mono ?_
      rintro e w' ⟨rfl, h', hb⟩
      have he : doesE n v 1 (s : Int) = 8 := by rw [doesE_in hs]; simp [hv]
      exact ⟨by rw [he], TabIs.step h' hB hw hl hn hnow (.inl rfl) (.inr rfl) (by simp [doesV, he]), hb B C hB.2.2.2.1⟩
theorem turn_any {w : World} {B C t n now : Nat} {v : Nat → Nat} {k : Nat} (h : TabIs w B C t n now v k) (s : Int) (kind : Int) (h1 : kind ≠ 1) (y : Nat) (hy : y = if kind = 3 then 0 else now) :
    Calls Tryz.prog 125 #[.pointer (some ⟨t, 0, none⟩), .int .i64 s, .int .u64 (y : Int)] w (DoesIt w B C t n now v k kind s) := by
  obtain ⟨r1, b1, r2, b2, won, lost, h, hB, hw, hl, hn, hnow⟩ := h
  by_cases hs : s < 0 ∨ (n : Int) ≤ s
  · refine (turn_no_at h s hs y).mono ?_
    rintro e w' ⟨rfl, rfl⟩
    exact ⟨by rw [doesE_out hs], TabIs.step h hB hw hl hn hnow (.inl rfl) (.inl rfl) (doesV_out hs).symm, Apart.refl _ _ _⟩
  · obtain ⟨s, rfl⟩ := Int.eq_ofNat_of_zero_le (show 0 ≤ s by omega)
    have hs : s < n := by omega
    by_cases hv : v s = 0
    · refine (turn_none_at h s hs hv y).mono ?_
      rintro e w' ⟨rfl, rfl⟩
      have he : doesE n v kind (s : Int) = 7 := by rw [doesE_in hs]; simp [hv, h1]
      exact ⟨by rw [he], TabIs.step h hB hw hl hn hnow (.inl rfl) (.inl rfl) (by simp [doesV, he]), Apart.refl _ _ _⟩
    · refine (turn_yes_at h s hs hv y).mono ?_
      rintro e w' ⟨rfl, h', hb⟩
      have he : doesE n v kind (s : Int) = 0 := by rw [doesE_in hs]; simp [hv, h1]
      exact ⟨by rw [he], TabIs.step h' hB hw hl hn hnow (.inl rfl) (.inl rfl) (by simp [doesV, he, hy]), hb B C hB.2.2.2.2⟩
theorem refresh_any {w : World} {B C t n now : Nat} {v : Nat → Nat} {k : Nat} (h : TabIs w B C t n now v k) (s : Int) :
    Calls Tryz.prog 51 #[.pointer (some ⟨t, 0, none⟩), .int .i64 s] w (DoesIt w B C t n now v k 2 s) := by
  have h0 := turn_any h s 2 (by decide) now rfl
  obtain ⟨r1, b1, r2, b2, won, lost, h, rest⟩ := h
  exact refresh_at h s _ _ h0
theorem leave_any {w : World} {B C t n now : Nat} {v : Nat → Nat} {k : Nat} (h : TabIs w B C t n now v k) (s : Int) :
    Calls Tryz.prog 52 #[.pointer (some ⟨t, 0, none⟩), .int .i64 s] w (DoesIt w B C t n now v k 3 s) :=
  leave_at s _ _ (turn_any h s 3 (by decide) 0 rfl)
theorem bump_any {w : World} {B C t n now : Nat} {v : Nat → Nat} {k : Nat} (h : TabIs w B C t n now v k) (hk : k ≤ 100000) :
    Calls Tryz.prog 172 #[.pointer (some ⟨t, 0, none⟩)] w fun e w' => e = .returned (.tuple #[.int .u64 (now : Int), .int .i64 0]) ∧ TabIs w' B C t n (now + 1) v (k + 1) ∧ Apart B C w w' := by
  obtain ⟨r1, b1, r2, b2, won, lost, h, hB, hw, hl, hn, hnow⟩ := h
  refine (bump_at h (by omega)).mono ?_
  rintro e w' ⟨rfl, rfl⟩
  exact ⟨rfl, ⟨r1, b1, r2, b2, won, lost, h.bump _, hB, by omega, by omega, hn, by omega⟩, (Apart.refl _ _ _).setCell _ hB.2.2.1 _⟩
theorem now_any {w : World} {B C t n now : Nat} {v : Nat → Nat} {k : Nat} (h : TabIs w B C t n now v k) :
    Calls Tryz.prog 11 #[.pointer (some ⟨t, 0, none⟩)] w fun e w' => e = .returned (.int .u64 (now : Int)) ∧ w' = w := by
  obtain ⟨r1, b1, r2, b2, won, lost, h, rest⟩ := h
  exact now_at h
theorem seen_any {w : World} {B C t n now : Nat} {v : Nat → Nat} {k : Nat} (h : TabIs w B C t n now v k) (s : Nat) (hs : s < n) :
    Calls Tryz.prog 10 #[.pointer (some ⟨t, 0, none⟩), .int .i64 (s : Int)] w fun e w' => e = .returned (.int .u64 (v s : Int)) ∧ w' = w := by
  obtain ⟨r1, b1, r2, b2, won, lost, h, rest⟩ := h
  exact seen_at h s hs
theorem seen_no {w : World} {B C t n now : Nat} {v : Nat → Nat} {k : Nat} (h : TabIs w B C t n now v k) (s : Int) (hs : s < 0 ∨ (n : Int) ≤ s) :
    Calls Tryz.prog 10 #[.pointer (some ⟨t, 0, none⟩), .int .i64 s] w fun e w' => e = .returned (.int .u64 0) ∧ w' = w := by
  obtain ⟨r1, b1, r2, b2, won, lost, h, rest⟩ := h
  exact seen_no_at h s hs
end Go.Proofs.YtfghfbmmaclcnaaGreat
namespace Go.Proofs.YtfghfbmmaclcnaaGreat
set_option maxRecDepth 20000
/-- Who of the first n is in, rising. -/
def inL (v : Nat → Nat) : Nat → List Nat
  | 0 => []
  | n + 1 => if v n = 0 then inL v n else inL v n ++ [n]
/-- The least epoch that one of the first n saw, or the present one. -/
def leastN (now : Nat) (v : Nat → Nat) : Nat → Nat
  | 0 => now
  | n + 1 => if v n = 0 then leastN now v n else min (leastN now v n) (v n)
def foldL (now : Nat) (v : Nat → Nat) (l : List Nat) : Nat := l.foldl (fun a s => min a (v s)) now
theorem foldL_snoc (now : Nat) (v : Nat → Nat) (l : List Nat) (x : Nat) : foldL now v (l ++ [x]) = min (foldL now v l) (v x) := by simp [foldL]
theorem foldL_in (now : Nat) (v : Nat → Nat) (n : Nat) : foldL now v (inL v n) = leastN now v n := by
  induction n with
  | zero => rfl
  | succ n ih =>
    by_cases h : v n = 0
    · simp [inL, leastN, h, ih]
    · simp only [inL, leastN, if_neg h, foldL_snoc, ih]
theorem inL_length (v : Nat → Nat) (n : Nat) : (inL v n).length ≤ n := by
  induction n with
  | zero => simp [inL]
  | succ n ih =>
    by_cases h : v n = 0
    · simp [inL, h]; omega
    · simp [inL, h]; omega
theorem mem_inL (v : Nat → Nat) (n i : Nat) : i ∈ inL v n ↔ i < n ∧ v i ≠ 0 := by
  induction n with
  | zero => simp [inL]
  | succ n ih =>
    by_cases h : v n = 0
    · simp only [inL, if_pos h, ih]
      constructor
      · rintro ⟨a, b⟩; exact ⟨by omega, b⟩
      · rintro ⟨a, b⟩
        refine ⟨?_, b⟩
        by_cases e : i = n
        · subst e; exact absurd h b
        · omega
    · simp only [inL, if_neg h, List.mem_append, ih, List.mem_singleton]
      constructor
      · rintro (⟨a, b⟩ | rfl)
        · exact ⟨by omega, b⟩
        · exact ⟨by omega, h⟩
      · rintro ⟨a, b⟩
        by_cases e : i = n
        · exact .inr e
        · exact .inl ⟨by omega, b⟩
theorem inL_get (v : Nat → Nat) (n j : Nat) (hj : j < (inL v n).length) : (inL v n).getD j 0 < n ∧ v ((inL v n).getD j 0) ≠ 0 := by
  rw [← mem_inL, List.getD_eq_getElem?_getD, List.getElem?_eq_getElem hj]
  exact List.getElem_mem hj
theorem leastN_le_now (now : Nat) (v : Nat → Nat) (n : Nat) : leastN now v n ≤ now := by
  induction n with
  | zero => exact Nat.le_refl _
  | succ n ih =>
    by_cases h : v n = 0
    · simp [leastN, h, ih]
    · simp only [leastN, if_neg h]; omega
theorem leastN_le (now : Nat) (v : Nat → Nat) (n i : Nat) (hi : i < n) (hv : v i ≠ 0) : leastN now v n ≤ v i := by
  induction n with
  | zero => omega
  | succ n ih =>
    by_cases e : i = n
    · subst e; simp only [leastN, if_neg hv]; omega
    · have := ih (by omega)
      by_cases h : v n = 0
      · simp [leastN, h, this]
      · simp only [leastN, if_neg h]; omega
theorem le_leastN (now : Nat) (v : Nat → Nat) (n m : Nat) (h0 : m ≤ now) (h : ∀ i, i < n → v i ≠ 0 → m ≤ v i) : m ≤ leastN now v n := by
  induction n with
  | zero => exact h0
  | succ n ih =>
    have := ih (fun i hi => h i (by omega))
    by_cases e : v n = 0
    · simp [leastN, e, this]
    · have := h n (by omega) e
      simp only [leastN, if_neg e]; omega
theorem leastN_pos (now : Nat) (v : Nat → Nat) (n : Nat) (h : 1 ≤ now) : 1 ≤ leastN now v n := le_leastN now v n 1 h (fun i _ hv => by omega)
theorem inL_more (v : Nat → Nat) (j n : Nat) (h : j ≤ n) : ∃ l, inL v n = inL v j ++ l := by
  induction n with
  | zero => have : j = 0 := by omega
            subst this; exact ⟨[], by simp⟩
  | succ n ih =>
    by_cases e : j = n + 1
    · subst e; exact ⟨[], by simp⟩
    · obtain ⟨l, hl⟩ := ih (by omega)
      by_cases hv : v n = 0
      · exact ⟨l, by simp [inL, hv, hl]⟩
      · exact ⟨l ++ [n], by simp [inL, hv, hl]⟩
theorem inL_at (v : Nat → Nat) (n j : Nat) (hj : j < n) (hv : v j ≠ 0) : (inL v j).length < (inL v n).length ∧ (inL v n).getD (inL v j).length 0 = j := by
  obtain ⟨l, hl⟩ := inL_more v (j + 1) n (by omega)
  have e : inL v (j + 1) = inL v j ++ [j] := by simp [inL, hv]
  rw [hl, e]
  constructor
  · simp only [List.length_append, List.length_singleton]; omega
  · simp [List.getD_eq_getElem?_getD, List.append_assoc]
end Go.Proofs.YtfghfbmmaclcnaaGreat
namespace Go.Proofs.YtfghfbmmaclcnaaGreat
set_option maxRecDepth 20000
open Go.RowKit
theorem getD_intsN {w : World} {base : Nat} {e : TypeId} {v : Value} {l : List Nat} (h : w.ownsRow base e 1 v l.length (intsN l)) : ∃ ao cap, v = .slice ao l.length cap ∧ Sl .i64 w ao l.length (fun j => ((l.getD j 0 : Nat) : Int)) ∧ (0 < l.length → ∃ g off, ao = some ⟨g, off, none⟩ ∧ base ≤ g) := by
  by_cases h0 : l.length = 0
  · rw [h0] at h ⊢
    rcases h.2 with ⟨h1, _⟩ | ⟨g, cap, cur, hv, _⟩
    · exact ⟨none, 0, h1, fun j hj => by omega, fun hj => by omega⟩
    · exact ⟨_, _, hv, fun j hj => by omega, fun hj => by omega⟩
  · obtain ⟨g, cap, rfl, hg, _⟩ := own_form h (by omega)
    refine ⟨_, _, rfl, fun j hj => ⟨g, 0, rfl, ?_⟩, fun _ => ⟨g, 0, rfl, hg⟩⟩
    rw [Nat.zero_add, own_cellsN h rfl j hj]; simp only [List.getD_eq_getElem?_getD]
set_option maxHeartbeats 800000 in
theorem in_at {w : World} {t r1 b1 r2 b2 n now : Nat} {v : Nat → Nat} {won lost : Int} (h : TabAt w t r1 b1 r2 b2 n now v won lost) (hn : n ≤ 8) :
    Calls Tryz.prog 163 #[.pointer (some ⟨t, 0, none⟩)] w fun e w' => ∃ ao cap, e = .returned (.slice ao (inL v n).length cap) ∧ Sl .i64 w' ao (inL v n).length (fun j => (((inL v n).getD j 0 : Nat) : Int)) ∧ (0 < (inL v n).length → ∃ g off, ao = some ⟨g, off, none⟩ ∧ w.heap.size ≤ g) ∧ Below w.heap.size w w' := by
  obtain ⟨i0, hi, hz0, hz1, hz2⟩ := info_parts Tryz.infoInt
  have c1 := h.c1
  go_enter Tryz.func163, Tryz.ntmps163
  go_wp2_with fail
  refine (len_any r2 _ n n _ h.saw.c0).mono ?_
  rintro e x ⟨rfl, rfl⟩
  go_wp2
  go_loopw [3, 12] (fun l i wr => ∃ k : Nat, k ≤ n ∧ i = .int .i64 k ∧ wr.ownsRow x.heap.size 3 1 l (inL v k).length (intsN (inL v k)) ∧ Below x.heap.size x wr)
    (fun _ i _ => n - (intOf i).toNat)
  case atStart => exact ⟨0, Nat.zero_le _, rfl, by simpa [intsN, inL] using World.ownsRow_nil (e := 3) (size := 1) x x.heap.size, Below.refl _ _⟩
  case round =>
    obtain ⟨k, hk, rfl, hown, hbel⟩ := hrel
    have hB := hbel.size
    have hT := h.below hbel
    have c1' := hT.c1
    have hlen := inL_length v k
    clear c1
    by_cases hlt : k < n
    · by_cases hv : v k = 0
      · have hl := rload hT.saw k hlt 0 (by rw [hv]; rfl)
        have HO : Hid (wr.ownsRow x.heap.size 3 1 u3 (inL v (k + 1)).length (intsN (inL v (k + 1)))) := by
          have e : inL v (k + 1) = inL v k := by simp [inL, hv]
          rw [e]; exact hown
        clear hv hown
        go_wp2_with fail
        refine hl.mono ?_
        rintro e y ⟨rfl, rfl⟩
        go_wp2
        go_roundw
        case rel => exact ⟨k + 1, by omega, by go_num, HO.out, hbel⟩
        case measure => simp [intOf]; omega
      · have hl := rload hT.saw k hlt (v k : Int) rfl
        have hvb : ((v k : Int) != 0) = true := by rw [bne_iff_ne]; omega
        have e : inL v (k + 1) = inL v k ++ [k] := by simp [inL, hv]
        have HE := hide e
        clear hv e
        go_wp2_with fail
        refine hl.mono ?_
        rintro e y ⟨rfl, rfl⟩
        have hown2 := hown.alloc (.cells #[.int .i64 (k : Int)] 3)
        go_wp2_with (at_builtin; refine wpList_append_own _ rfl _ _ 40 rfl x.heap.size 3 i0 (.int .i64 0) 1 8 Tryz.underlying40 hi hz0 hz1 hz2 rfl (by decide) _ _ _ rfl hown2 ⟨y.heap.size, 0, none⟩ 1 1 [.int .i64 (k : Int)] rfl rfl ?c1 ?c2 ?c3 ?c4 ?c5 ?_)
        case c1 => exact cell_one _ _ _
        case c2 => exact one_int
        case c3 => unfold maxLen; omega
        case c4 => omega
        case c5 => simp; omega
        intro v' w1 hown' hgrow _
        have R := grow_step hown hB hbel hgrow
        clear hgrow hown hown2
        go_wp2
        go_roundw
        case rel => exact ⟨k + 1, by omega, by go_num, by rw [HE.out, intsN_snoc, List.length_append]; exact hown', R⟩
        case measure => simp [intOf]; omega
    · go_wp2
      go_ret
      have e : k = n := by omega
      subst e
      obtain ⟨ao, cap, rfl, hs, hg⟩ := getD_intsN hown
      exact ⟨ao, cap, rfl, hs, hg, hbel⟩
theorem in_far {w : World} {B C t n now : Nat} {v : Nat → Nat} {k : Nat} (h : TabIs w B C t n now v k) :
    Calls Tryz.prog 163 #[.pointer (some ⟨t, 0, none⟩)] w fun e w' => ∃ ao cap, e = .returned (.slice ao (inL v n).length cap) ∧ Sl .i64 w' ao (inL v n).length (fun j => (((inL v n).getD j 0 : Nat) : Int)) ∧ (0 < (inL v n).length → ∃ g off, ao = some ⟨g, off, none⟩ ∧ w.heap.size ≤ g) ∧ Below w.heap.size w w' := by
  obtain ⟨r1, b1, r2, b2, won, lost, h, _, _, _, hn, _⟩ := h
  exact in_at h hn
theorem in_any {w : World} {B C t n now : Nat} {v : Nat → Nat} {k : Nat} (h : TabIs w B C t n now v k) :
    Calls Tryz.prog 163 #[.pointer (some ⟨t, 0, none⟩)] w fun e w' => ∃ ao cap, e = .returned (.slice ao (inL v n).length cap) ∧ Sl .i64 w' ao (inL v n).length (fun j => (((inL v n).getD j 0 : Nat) : Int)) ∧ Below w.heap.size w w' := by
  refine (in_far h).mono ?_
  rintro e w' ⟨ao, cap, h1, h2, _, h3⟩
  exact ⟨ao, cap, h1, h2, h3⟩
theorem min_if (f q : Nat) : (if q < f then (q : Int) else (f : Int)) = ((min f q : Nat) : Int) := by split <;> omega
set_option maxHeartbeats 800000 in
theorem safe_at {w : World} {B C t n now : Nat} {v : Nat → Nat} {k : Nat} (h : TabIs w B C t n now v k) (hk : k ≤ 1000000) :
    Calls Tryz.prog 96 #[.pointer (some ⟨t, 0, none⟩)] w fun e w' => e = .returned (.int .u64 ((leastN now v n - 1 : Nat) : Int)) ∧ Below w.heap.size w w' := by
  obtain ⟨q, hq⟩ : ∃ q, q = leastN now v n := ⟨_, rfl⟩
  rw [← hq]
  have HQ0 := hide hq
  clear hq
  go_enter Tryz.func96, Tryz.ntmps96
  go_wp2_with fail
  refine (now_any h).mono ?_
  rintro e x ⟨rfl, rfl⟩
  go_wp2_with fail
  refine (in_any h).mono ?_
  rintro e w1 ⟨ao, cap, rfl, hs, hb⟩
  have h1 := h.below hb
  have hpos : 1 ≤ now ∧ now ≤ 1000001 := by
    obtain ⟨r1, b1, r2, b2, won, lost, _, _, _, _, _, h4⟩ := h
    omega
  have HL : Hid (∀ k, k < (inL v n).length → foldL now v ((inL v n).take (k + 1)) = min (foldL now v ((inL v n).take k)) (v ((inL v n).getD k 0))) := by
    intro k hk
    rw [List.take_succ_eq_append_getElem hk, foldL_snoc, List.getD_eq_getElem?_getD, List.getElem?_eq_getElem hk]; rfl
  have HF : Hid (foldL now v ((inL v n).take (inL v n).length) = q) := by
    rw [List.take_length, HQ0.out]; exact foldL_in now v n
  have HG : Hid (∀ k, k < (inL v n).length → (inL v n).getD k 0 < n) := fun k hk => (inL_get v n k hk).1
  have HP : Hid (1 ≤ q ∧ q ≤ now) := by rw [HQ0.out]; exact ⟨leastN_pos now v n hpos.1, leastN_le_now now v n⟩
  have hlen : (inL v n).length ≤ 8 := by
    have := inL_length v n
    obtain ⟨r1, b1, r2, b2, won, lost, _, _, _, _, h8, _⟩ := h
    omega
  generalize inL v n = L at *
  generalize hm : L.length = m at *
  have HM := hide hm
  clear hm h
  have HS := hide hs
  clear hs
  go_wp2
  go_loop [3, 13] (fun a i => ∃ k : Nat, k ≤ m ∧ i = .int .i64 k ∧ a = .int .u64 ((foldL now v (L.take k) : Nat) : Int))
    (fun _ i => m - (intOf i).toNat)
  case atStart => exact ⟨0, Nat.zero_le _, rfl, rfl⟩
  case round =>
    obtain ⟨k, hk, rfl, rfl⟩ := hrel
    by_cases hlt : k < m
    · obtain ⟨g, off, rfl, hc⟩ := HS.out k hlt
      replace hc : w1.cell? ⟨g, off + k, none⟩ = some (.int .i64 ((L.getD k 0 : Nat) : Int)) := hc
      have hq := HL.out k hlt
      have hp := HG.out k hlt
      have hseen := seen_any h1 (L.getD k 0) hp
      generalize L.getD k 0 = p at *
      generalize foldL now v (L.take k) = f at *
      generalize v p = z at *
      have HQ := hide hq
      clear hq
      go_wp2_with fail
      refine hseen.mono ?_
      rintro e y ⟨rfl, rfl⟩
      go_wp2
      go_round
      case rel => exact ⟨k + 1, by omega, by go_num, by rw [HQ.out, ← min_if]⟩
      case measure => simp [intOf]; omega
    · have e : k = m := by omega
      subst e
      rw [HF.out]
      obtain ⟨p1, p2⟩ := HP.out
      go_wp2
      go_ret
      exact ⟨ret_int (by omega), hb⟩
theorem new_no (s : Int) (hs : s < 1 ∨ 8 < s) (w : World) :
    Calls Tryz.prog 73 #[.int .i64 s] w fun e w' => e = .returned (.tuple #[.pointer none, .int .i64 1]) ∧ w' = w := by
  by_cases h : s < 1
  · go_enter Tryz.func73, Tryz.ntmps73
    go_wp2
    go_ret2
    exact ⟨rfl, rfl⟩
  · have h2 : 8 < s := by omega
    clear hs
    go_enter Tryz.func73, Tryz.ntmps73
    go_wp2
    go_ret2
    exact ⟨rfl, rfl⟩
set_option maxHeartbeats 400000 in
theorem table_yes (s : Nat) (h1 : 1 ≤ s) (h2 : s ≤ 8) (w : World) :
    Calls Tryz.prog 73 #[.int .i64 (s : Int)] w fun e w' => ∃ t, e = .returned (.tuple #[.pointer (some ⟨t, 0, none⟩), .int .i64 0]) ∧ TabIs w' w.heap.size w'.heap.size t s 1 (fun _ => 0) 0 ∧ Below w.heap.size w w' := by
  go_enter Tryz.func73, Tryz.ntmps73
  go_wp2_with fail
  refine (new_yes 1 (by decide) (by decide) _).mono ?_
  rintro e w1 ⟨r1, b1, rfl, k1, hr1, hb1, B1⟩
  go_wp2_with fail
  refine (new_yes s h1 (by omega) _).mono ?_
  rintro e w2 ⟨r2, b2, rfl, k2, hr2, hb2, B2⟩
  have j1 := k1.below B2
  have lr1 : r1 < w1.heap.size := World.block_lt_of_cell? w1 _ k1.c0
  have lb1 : b1 < w1.heap.size := World.block_lt_of_cell? w1 _ (k1.cs 0 (by decide))
  have lr2 : r2 < w2.heap.size := World.block_lt_of_cell? w2 _ k2.c0
  have lb2 : b2 < w2.heap.size := World.block_lt_of_cell? w2 _ (k2.cs 0 (by omega))
  have e1 := B1.size
  have e2 := B2.size
  go_wp2_with fail
  refine (store_yes r1 b1 1 1 0 _ 1 (by decide) _ j1.c0 (j1.cs 0 (by decide)) (j1.fs 0 (by decide))).mono ?_
  rintro e w3 ⟨rfl, rfl⟩
  have m1 : RowIs (w2.setCell ⟨b1, 0, none⟩ (.int .u64 1)) r1 b1 1 (fun _ => ((1 : Nat) : Int)) 0 0 := by
    refine (j1.word 0 (by decide) 1).congr ?_
    intro i hi
    have : i = 0 := by omega
    subst this
    rw [updV_same]; rfl
  have m2 : RowIs (w2.setCell ⟨b1, 0, none⟩ (.int .u64 1)) r2 b2 s (fun _ => ((0 : Nat) : Int)) 0 0 := k2.other _ _ (by simp; omega) (by simp; omega)
  have B3 : Below w.heap.size w (w2.setCell ⟨b1, 0, none⟩ (.int .u64 1)) := (B1.trans (B2.mono e1)).setCell hb1 _
  have hsz : (w2.setCell ⟨b1, 0, none⟩ (.int .u64 1)).heap.size = w2.heap.size := by simp [World.setCell]
  clear k1 k2 j1 B1 B2
  generalize w2.setCell ⟨b1, 0, none⟩ (.int .u64 1) = w3 at *
  go_wp2
  go_ret2
  have B4 := (Below.refl w3.heap.size w3).alloc (Nat.le_refl _) (Obj.cells #[.pointer (some ⟨r1, 0, none⟩), .pointer (some ⟨r2, 0, none⟩)] 107)
  have e3 := B3.size
  have e4 : (w3.alloc (Obj.cells #[.pointer (some ⟨r1, 0, none⟩), .pointer (some ⟨r2, 0, none⟩)] 107)).heap.size = w3.heap.size + 1 := by simp
  refine ⟨w2.heap.size, rfl, ⟨r1, b1, r2, b2, 0, 0, ⟨?_, ?_, m1.below B4, m2.below B4, ?_, ?_, ?_, ?_, ?_, ?_, ?_⟩, ?_, by decide, by decide, h2, by decide⟩, B3.alloc (by omega) _⟩
  · rw [← hsz]; simp
  · rw [← hsz]; simp
  all_goals omega
end Go.Proofs.YtfghfbmmaclcnaaGreat
namespace Go.Proofs.YtfghfbmmaclcnaaGreat
set_option maxRecDepth 20000
open Go.ChangeShapes Go.WideShapes Go.RowKit
/-- The epoch behind a call. -/
def stepNow (now : Nat) (kind : Int) : Nat := if kind = 4 then now + 1 else now
/-- What each saw behind a call. -/
def stepV (n now : Nat) (v : Nat → Nat) (kind s : Int) : Nat → Nat := if kind = 1 ∨ kind = 2 ∨ kind = 3 then doesV n now v kind s else v
theorem tab_again {w : World} {B C t n now : Nat} {v : Nat → Nat} {k : Nat} (h : TabIs w B C t n now v k) (o : Obj) : TabIs (w.alloc o) B C t n now v k := h.below ((Below.refl _ _).alloc (Nat.le_refl _) o)
theorem apart_alloc {B C : Nat} {w x : World} {o : Obj} (h : Apart B C (w.alloc o) x) : Apart B C w x := (Below.apart ((Below.refl _ w).alloc (Nat.le_refl _) o)).trans h
/-- A slice of calls that is read. -/
def Acts (w : World) (ao : Option Addr) (n : Nat) (kd sv : Nat → Int) : Prop :=
  ∀ j, j < n → ∃ b off, ao = some ⟨b, off, none⟩ ∧ w.cell? ⟨b, off + j * 2, none⟩ = some (.int .i64 (kd j)) ∧ w.cell? ⟨b, off + j * 2 + 1, none⟩ = some (.int .i64 (sv j))
theorem Acts.below {w w' : World} {ao : Option Addr} {n : Nat} {kd sv : Nat → Int} (h : Acts w ao n kd sv) (hb : Below w.heap.size w w') : Acts w' ao n kd sv := by
  intro j hj
  obtain ⟨b, off, h1, h2, h3⟩ := h j hj
  have hl : b < w.heap.size := World.block_lt_of_cell? w _ h2
  exact ⟨b, off, h1, by rw [hb.cell hl]; exact h2, by rw [hb.cell hl]; exact h3⟩
/-- What is told of an argument that is a slice of calls. -/
def IsActsY (w : World) (v : Value) : Prop := ∃ ao len cap kd sv, v = .slice ao len cap ∧ len ≤ 9223372036854775807 ∧ Acts w ao len kd sv
end Go.Proofs.YtfghfbmmaclcnaaGreat
namespace Go.Proofs.YtfghfbmmaclcnaaGreat
set_option maxRecDepth 20000
/-- Nobody saw an epoch that isn't yet. -/
def Inv (n now : Nat) (v : Nat → Nat) : Prop := ∀ i, i < n → v i ≤ now
theorem doesV_cases (n now : Nat) (v : Nat → Nat) (kd s : Int) (i : Nat) : doesV n now v kd s i = v i ∨ doesV n now v kd s i = now ∨ doesV n now v kd s i = 0 := by
  unfold doesV
  split
  · unfold updN
    split
    · split
      · exact .inr (.inr rfl)
      · exact .inr (.inl rfl)
    · exact .inl rfl
  · exact .inl rfl
theorem stepV_cases (n now : Nat) (v : Nat → Nat) (kd s : Int) (i : Nat) : stepV n now v kd s i = v i ∨ stepV n now v kd s i = now ∨ stepV n now v kd s i = 0 := by
  unfold stepV
  split
  · exact doesV_cases n now v kd s i
  · exact .inl rfl
theorem stepNow_le (now : Nat) (kd : Int) : now ≤ stepNow now kd := by unfold stepNow; split <;> omega
theorem Inv.step {n now : Nat} {v : Nat → Nat} (h : Inv n now v) (kd s : Int) : Inv n (stepNow now kd) (stepV n now v kd s) := by
  intro i hi
  have h1 := h i hi
  have h2 := stepNow_le now kd
  rcases stepV_cases n now v kd s i with e | e | e <;> rw [e] <;> omega
theorem least_step (n now : Nat) (v : Nat → Nat) (kd s : Int) : leastN now v n ≤ leastN (stepNow now kd) (stepV n now v kd s) n := by
  refine le_leastN _ _ _ _ (Nat.le_trans (leastN_le_now now v n) (stepNow_le now kd)) ?_
  intro i hi hv
  rcases stepV_cases n now v kd s i with e | e | e
  · rw [e] at hv ⊢; exact leastN_le now v n i hi hv
  · rw [e]; exact leastN_le_now now v n
  · exact absurd e hv
end Go.Proofs.YtfghfbmmaclcnaaGreat
namespace Go.Proofs.YtfghfbmmaclcnaaGreat
set_option maxRecDepth 20000
open Go.RowKit
theorem Tryz.infoU64Y : (Tryz.prog.info? 32).map (fun i => (i.zero, i.size, i.bytes)) = some (some (.int .u64 0), 1, 8) := by kernel_rfl
/-- The reference's table: its struct in block m, what each saw in block b. -/
structure RefAt (w : World) (m b n now : Nat) (v : Nat → Nat) : Prop where
  ne : b ≠ m
  c0 : w.cell? ⟨m, 0, none⟩ = some (.int .u64 (now : Int))
  f0 : w.frozen? ⟨m, 0, none⟩ = false
  c1 : w.cell? ⟨m, 1, none⟩ = some (.slice (some ⟨b, 0, none⟩) n n)
  cs : ∀ i, i < n → w.cell? ⟨b, i, none⟩ = some (.int .u64 (v i : Int))
  fs : ∀ i, i < n → w.frozen? ⟨b, i, none⟩ = false
theorem RefAt.drew {w : World} {m b n now : Nat} {v : Nat → Nat} (h : RefAt w m b n now v) (k : Nat) : RefAt (w.drewN k) m b n now v := ⟨h.ne, h.c0, h.f0, h.c1, h.cs, h.fs⟩
theorem RefAt.below {w w' : World} {m b n now : Nat} {v : Nat → Nat} (h : RefAt w m b n now v) (hb : Below w.heap.size w w') : RefAt w' m b n now v := by
  have hm : m < w.heap.size := World.block_lt_of_cell? w _ h.c0
  exact ⟨h.ne, by rw [hb.cell hm]; exact h.c0, by rw [hb.frozen hm]; exact h.f0, by rw [hb.cell hm]; exact h.c1,
    fun i hi => by rw [hb.cell (World.block_lt_of_cell? w _ (h.cs i hi))]; exact h.cs i hi, fun i hi => by rw [hb.frozen (World.block_lt_of_cell? w _ (h.cs i hi))]; exact h.fs i hi⟩
theorem RefAt.apart {w w' : World} {m b n now : Nat} {v : Nat → Nat} {B C : Nat} (h : RefAt w m b n now v) (hb : Apart B C w w') (h1 : C ≤ m) (h2 : C ≤ b) : RefAt w' m b n now v := by
  have hm : m < w.heap.size := World.block_lt_of_cell? w _ h.c0
  exact ⟨h.ne, by rw [hb.cell hm (.inr h1)]; exact h.c0, by rw [hb.frozen hm (.inr h1)]; exact h.f0, by rw [hb.cell hm (.inr h1)]; exact h.c1,
    fun i hi => by rw [hb.cell (World.block_lt_of_cell? w _ (h.cs i hi)) (.inr h2)]; exact h.cs i hi, fun i hi => by rw [hb.frozen (World.block_lt_of_cell? w _ (h.cs i hi)) (.inr h2)]; exact h.fs i hi⟩
theorem RefAt.now {w : World} {m b n now : Nat} {v : Nat → Nat} (h : RefAt w m b n now v) (y : Nat) : RefAt (w.setCell ⟨m, 0, none⟩ (.int .u64 (y : Int))) m b n y v := by
  refine ⟨h.ne, World.cell?_setCell_same _ _ _ h.c0, by rw [World.frozen?_setCell]; exact h.f0, ?_, fun i hi => ?_, fun i hi => by rw [World.frozen?_setCell]; exact h.fs i hi⟩
  · rw [cell_set_off _ _ _ _ (by decide)]; exact h.c1
  · rw [cell_set_block _ _ _ (fun e => h.ne e.symm)]; exact h.cs i hi
theorem RefAt.word {w : World} {m b n now : Nat} {v : Nat → Nat} (h : RefAt w m b n now v) (s : Nat) (hs : s < n) (y : Nat) : RefAt (w.setCell ⟨b, s, none⟩ (.int .u64 (y : Int))) m b n now (updN v s y) := by
  refine ⟨h.ne, ?_, by rw [World.frozen?_setCell]; exact h.f0, ?_, fun i hi => ?_, fun i hi => by rw [World.frozen?_setCell]; exact h.fs i hi⟩
  · rw [cell_set_block _ _ _ h.ne]; exact h.c0
  · rw [cell_set_block _ _ _ h.ne]; exact h.c1
  · by_cases e : i = s
    · subst e
      rw [World.cell?_setCell_same _ _ _ (h.cs i hi), updN_same]
    · rw [cell_set_off _ _ _ _ (fun c => e c.symm), h.cs i hi, updN_other _ _ _ _ e]
theorem updN_twice (v : Nat → Nat) (s x y : Nat) : updN (updN v s x) s y = updN v s y := by
  funext j; unfold updN; split <;> rfl
set_option maxHeartbeats 400000 in
theorem rnew_no (s : Int) (hs : s < 1 ∨ 8 < s) (w : World) :
    Calls Tryz.prog 104 #[.int .i64 s] w fun e w' => e = .returned (.tuple #[.pointer none, .int .i64 1]) ∧ w' = w := by
  by_cases h : s < 1
  · go_enter Tryz.func104, Tryz.ntmps104
    go_wp2
    go_ret2
    exact ⟨rfl, rfl⟩
  · have h2 : 8 < s := by omega
    clear hs
    go_enter Tryz.func104, Tryz.ntmps104
    go_wp2
    go_ret2
    exact ⟨rfl, rfl⟩
set_option maxHeartbeats 400000 in
theorem rnew_yes (n : Nat) (h1 : 1 ≤ n) (h2 : n ≤ 8) (w : World) :
    Calls Tryz.prog 104 #[.int .i64 (n : Int)] w fun e w' => ∃ m b, e = .returned (.tuple #[.pointer (some ⟨m, 0, none⟩), .int .i64 0]) ∧ RefAt w' m b n 1 (fun _ => 0) ∧ w.heap.size ≤ m ∧ w.heap.size ≤ b ∧ Below w.heap.size w w' := by
  obtain ⟨i0, hi, hz0, hz1, hz2⟩ := info_parts Tryz.infoU64Y
  go_enter Tryz.func104, Tryz.ntmps104
  go_wp2_with (at_make; refine wpList_make_full _ rfl _ _ 51 rfl w.heap.size 32 i0 (.int .u64 0) 1 Tryz.underlying51 hi hz0 hz1 _ _ _ _ n rfl rfl rfl rfl ?b1 ?b2 (Nat.le_refl _) ?_)
  case b1 => rw [hz2]; omega
  case b2 => unfold maxLen; omega
  intro w1 hown hgrow
  have hown1 : w1.ownsRow w.heap.size 32 1 (.slice (some ⟨w.heap.size, 0, none⟩) n n) n (List.replicate n (.int .u64 0)) := by
    simpa [Value.cells, toList_madeCells_one] using hown
  have hb1 : Below w.heap.size w w1 := (Below.refl _ _).grown hgrow (Nat.le_refl _) (by simp)
  generalize hgg : w.heap.size = g at *
  have HG : Hid (w.heap.size = g) := hgg
  clear hown hgrow hgg
  go_wp2
  go_ret2
  have hcs : ∀ i, i < n → w1.cell? ⟨g, i, none⟩ = some (.int .u64 0) := fun i hi => by
    rw [hown1.cellAt i (by omega)]; simp [hi]
  have hlt : g < w1.heap.size := World.block_lt_of_cell? w1 _ (hcs 0 (by omega))
  have hblk : ∀ k, k < w1.heap.size → (w1.alloc (Obj.cells #[.int .u64 1, .slice (some ⟨g, 0, none⟩) n n] 176)).heap[k]? = w1.heap[k]? := fun k hk => Below.heap_alloc _ _ _ hk
  refine ⟨w1.heap.size, g, rfl, ⟨by omega, ?_, ?_, ?_, ?_, ?_⟩, by rw [HG.out]; omega, by rw [HG.out]; exact Nat.le_refl _, by rw [HG.out]; exact hb1.alloc (by omega) _⟩
  · simp
  · simp
  · simp
  · intro i hi
    rw [World.cell?_of_block (w := w1) (hblk g hlt)]; exact hcs i hi
  · intro i hi
    rw [World.frozen?_of_block (w := w1) (hblk g hlt)]; exact hown1.frozenAt i
end Go.Proofs.YtfghfbmmaclcnaaGreat
namespace Go.Proofs.YtfghfbmmaclcnaaGreat
set_option maxRecDepth 20000
open Go.RowKit
set_option maxHeartbeats 400000 in
theorem rdoes_out {w : World} {m b n now : Nat} {v : Nat → Nat} (h : RefAt w m b n now v) (kd s : Int) (hs : s < 0 ∨ (n : Int) ≤ s) :
    Calls Tryz.prog 50 #[.pointer (some ⟨m, 0, none⟩), .int .i64 kd, .int .i64 s] w fun e w' => e = .returned (.int .i64 1) ∧ w' = w := by
  have c1 := h.c1
  by_cases h0 : s < 0
  · clear hs
    go_enter Tryz.func50, Tryz.ntmps50
    go_wp2
    go_ret
    exact ⟨rfl, rfl⟩
  · have h1 : (n : Int) ≤ s := by omega
    clear hs
    go_enter Tryz.func50, Tryz.ntmps50
    go_wp2
    go_ret
    exact ⟨rfl, rfl⟩
set_option maxHeartbeats 400000 in
theorem rdoes_there {w : World} {m b n now : Nat} {v : Nat → Nat} (h : RefAt w m b n now v) (s : Nat) (hs : s < n) (hv : v s ≠ 0) :
    Calls Tryz.prog 50 #[.pointer (some ⟨m, 0, none⟩), .int .i64 1, .int .i64 (s : Int)] w fun e w' => e = .returned (.int .i64 8) ∧ w' = w := by
  have c1 := h.c1
  have cs := h.cs s hs
  have hs0 : decide ((s : Int) < 0) = false := by simp
  have hsn : decide ((s : Int) ≥ (n : Int)) = false := by simp; omega
  have hvb : 0 < v s := by omega
  clear hv
  generalize v s = z at *
  go_enter Tryz.func50, Tryz.ntmps50
  go_wp2
  go_ret
  exact ⟨rfl, rfl⟩
set_option maxHeartbeats 400000 in
theorem rdoes_none {w : World} {m b n now : Nat} {v : Nat → Nat} (h : RefAt w m b n now v) (s : Nat) (hs : s < n) (hv : v s = 0) (kd : Int) (hk : kd ≠ 1) :
    Calls Tryz.prog 50 #[.pointer (some ⟨m, 0, none⟩), .int .i64 kd, .int .i64 (s : Int)] w fun e w' => e = .returned (.int .i64 7) ∧ w' = w := by
  have c1 := h.c1
  have cs := h.cs s hs
  rw [hv] at cs
  have hs0 : decide ((s : Int) < 0) = false := by simp
  have hsn : decide ((s : Int) ≥ (n : Int)) = false := by simp; omega
  have hk1 : (kd == 1) = false := by simpa using hk
  have hk2 : (kd != 1) = true := by simpa using hk
  clear hv hk
  go_enter Tryz.func50, Tryz.ntmps50
  go_wp2
  go_ret
  exact ⟨rfl, rfl⟩
set_option maxHeartbeats 400000 in
theorem rdoes_enter {w : World} {m b n now : Nat} {v : Nat → Nat} (h : RefAt w m b n now v) (s : Nat) (hs : s < n) (hv : v s = 0) :
    Calls Tryz.prog 50 #[.pointer (some ⟨m, 0, none⟩), .int .i64 1, .int .i64 (s : Int)] w fun e w' => e = .returned (.int .i64 0) ∧ ∃ k, w' = (w.drewN k).setCell ⟨b, s, none⟩ (.int .u64 (now : Int)) := by
  have hne := h.ne
  have c0 := h.c0
  have c1 := h.c1
  have cs := h.cs s hs
  have fs := h.fs s hs
  rw [hv] at cs
  have hs0 : decide ((s : Int) < 0) = false := by simp
  have hsn : decide ((s : Int) ≥ (n : Int)) = false := by simp; omega
  have hs1 : (0 : Int) ≤ (s : Int) := by omega
  have hs2 : (s : Int) < (n : Int) := by omega
  clear hv
  go_enter Tryz.func50, Tryz.ntmps50
  go_wp2
  go_region_held3 (fun W => W.cell? ⟨m, 1, none⟩ = some (.slice (some ⟨b, 0, none⟩) n n) ∧ W.cell? ⟨m, 0, none⟩ = some (.int .u64 (now : Int))) (go_keep) (fail)
  go_wp2
  go_ret
  exact ⟨rfl, _, rfl⟩
set_option maxHeartbeats 400000 in
theorem rdoes_turn {w : World} {m b n now : Nat} {v : Nat → Nat} (h : RefAt w m b n now v) (s : Nat) (hs : s < n) (hv : v s ≠ 0) :
    Calls Tryz.prog 50 #[.pointer (some ⟨m, 0, none⟩), .int .i64 2, .int .i64 (s : Int)] w fun e w' => e = .returned (.int .i64 0) ∧ ∃ k, w' = (w.drewN k).setCell ⟨b, s, none⟩ (.int .u64 (now : Int)) := by
  have hne := h.ne
  have c0 := h.c0
  have c1 := h.c1
  have cs := h.cs s hs
  have fs := h.fs s hs
  have hs0 : decide ((s : Int) < 0) = false := by simp
  have hsn : decide ((s : Int) ≥ (n : Int)) = false := by simp; omega
  have hs1 : (0 : Int) ≤ (s : Int) := by omega
  have hs2 : (s : Int) < (n : Int) := by omega
  have hvb : 0 < v s := by omega
  clear hv
  generalize v s = z at *
  go_enter Tryz.func50, Tryz.ntmps50
  go_wp2
  go_region_held3 (fun W => W.cell? ⟨m, 1, none⟩ = some (.slice (some ⟨b, 0, none⟩) n n) ∧ W.cell? ⟨m, 0, none⟩ = some (.int .u64 (now : Int))) (go_keep) (fail)
  go_wp2
  go_ret
  exact ⟨rfl, _, rfl⟩
set_option maxHeartbeats 400000 in
theorem rdoes_leave {w : World} {m b n now : Nat} {v : Nat → Nat} (h : RefAt w m b n now v) (s : Nat) (hs : s < n) (hv : v s ≠ 0) :
    Calls Tryz.prog 50 #[.pointer (some ⟨m, 0, none⟩), .int .i64 3, .int .i64 (s : Int)] w fun e w' => e = .returned (.int .i64 0) ∧ ∃ k, w' = ((w.drewN k).setCell ⟨b, s, none⟩ (.int .u64 (now : Int))).setCell ⟨b, s, none⟩ (.int .u64 0) := by
  have hne := h.ne
  have c0 := h.c0
  have c1 := h.c1
  have cs := h.cs s hs
  have fs := h.fs s hs
  have hs0 : decide ((s : Int) < 0) = false := by simp
  have hsn : decide ((s : Int) ≥ (n : Int)) = false := by simp; omega
  have hs1 : (0 : Int) ≤ (s : Int) := by omega
  have hs2 : (s : Int) < (n : Int) := by omega
  have hvb : 0 < v s := by omega
  clear hv
  generalize v s = z at *
  go_enter Tryz.func50, Tryz.ntmps50
  go_wp2
  go_region_held3 (fun W => W.cell? ⟨m, 1, none⟩ = some (.slice (some ⟨b, 0, none⟩) n n) ∧ W.cell? ⟨m, 0, none⟩ = some (.int .u64 (now : Int))) (go_keep) (fail)
  go_wp2
  go_ret
  exact ⟨rfl, _, rfl⟩
theorem rdoes_any {w : World} {m b n now : Nat} {v : Nat → Nat} (h : RefAt w m b n now v) (kd s : Int) (hkd : kd = 1 ∨ kd = 2 ∨ kd = 3) :
    Calls Tryz.prog 50 #[.pointer (some ⟨m, 0, none⟩), .int .i64 kd, .int .i64 s] w fun e w' => e = .returned (.int .i64 (doesE n v kd s)) ∧ RefAt w' m b n now (doesV n now v kd s) ∧ Apart b (b + 1) w w' := by
  by_cases hs : s < 0 ∨ (n : Int) ≤ s
  · refine (rdoes_out h kd s hs).mono ?_
    rintro e w' ⟨rfl, rfl⟩
    exact ⟨by rw [doesE_out hs], by rw [doesV_out hs]; exact h, Apart.refl _ _ _⟩
  · obtain ⟨s, rfl⟩ := Int.eq_ofNat_of_zero_le (show 0 ≤ s by omega)
    have hs : s < n := by omega
    by_cases hv : v s = 0
    · by_cases h1 : kd = 1
      · subst h1
        refine (rdoes_enter h s hs hv).mono ?_
        rintro e w' ⟨rfl, k, rfl⟩
        have he : doesE n v 1 (s : Int) = 0 := by rw [doesE_in hs]; simp [hv]
        refine ⟨by rw [he], ?_, ((Apart.refl b (b + 1) w).drewN k).setCell ⟨b, s, none⟩ ⟨Nat.le_refl b, Nat.lt_succ_self b⟩ _⟩
        have e2 : doesV n now v 1 (s : Int) = updN v s now := by simp [doesV, he]
        rw [e2]
        exact (h.drew k).word s hs now
      · refine (rdoes_none h s hs hv kd h1).mono ?_
        rintro e w' ⟨rfl, rfl⟩
        have he : doesE n v kd (s : Int) = 7 := by rw [doesE_in hs]; simp [hv, h1]
        exact ⟨by rw [he], by simpa [doesV, he] using h, Apart.refl _ _ _⟩
    · rcases hkd with rfl | rfl | rfl
      · refine (rdoes_there h s hs hv).mono ?_
        rintro e w' ⟨rfl, rfl⟩
        have he : doesE n v 1 (s : Int) = 8 := by rw [doesE_in hs]; simp [hv]
        exact ⟨by rw [he], by simpa [doesV, he] using h, Apart.refl _ _ _⟩
      · refine (rdoes_turn h s hs hv).mono ?_
        rintro e w' ⟨rfl, k, rfl⟩
        have he : doesE n v 2 (s : Int) = 0 := by rw [doesE_in hs]; simp [hv]
        refine ⟨by rw [he], ?_, ((Apart.refl b (b + 1) w).drewN k).setCell ⟨b, s, none⟩ ⟨Nat.le_refl b, Nat.lt_succ_self b⟩ _⟩
        have e2 : doesV n now v 2 (s : Int) = updN v s now := by simp [doesV, he]
        rw [e2]
        exact (h.drew k).word s hs now
      · refine (rdoes_leave h s hs hv).mono ?_
        rintro e w' ⟨rfl, k, rfl⟩
        have he : doesE n v 3 (s : Int) = 0 := by rw [doesE_in hs]; simp [hv]
        refine ⟨by rw [he], ?_, (((Apart.refl b (b + 1) w).drewN k).setCell ⟨b, s, none⟩ ⟨Nat.le_refl b, Nat.lt_succ_self b⟩ _).setCell ⟨b, s, none⟩ ⟨Nat.le_refl b, Nat.lt_succ_self b⟩ _⟩
        have e2 : doesV n now v 3 (s : Int) = updN (updN v s now) s 0 := by rw [updN_twice]; simp [doesV, he]
        rw [e2]
        exact ((h.drew k).word s hs now).word s hs 0
theorem TabAt.under {w w' : World} {t r1 b1 r2 b2 n now : Nat} {v : Nat → Nat} {won lost : Int} {C : Nat} (h : TabAt w t r1 b1 r2 b2 n now v won lost) (hb : Below C w w') (h1 : t < C) (h2 : r1 < C) (h3 : b1 < C) (h4 : r2 < C) (h5 : b2 < C) : TabAt w' t r1 b1 r2 b2 n now v won lost := by
  have hr : ∀ {r b k : Nat} {x : Nat → Int} {o l : Int}, r < C → b < C → RowIs w r b k x o l → RowIs w' r b k x o l := fun a1 a2 g =>
    ⟨g.ne, by rw [hb.cell a1]; exact g.c0, by rw [hb.cell a1]; exact g.c1, by rw [hb.frozen a1]; exact g.f1, by rw [hb.cell a1]; exact g.c2, by rw [hb.frozen a1]; exact g.f2,
      fun i hi => by rw [hb.cell a2]; exact g.cs i hi, fun i hi => by rw [hb.frozen a2]; exact g.fs i hi⟩
  exact ⟨by rw [hb.cell h1]; exact h.c0, by rw [hb.cell h1]; exact h.c1, hr h2 h3 h.one, hr h4 h5 h.saw, h.n1, h.n2, h.n3, h.n4, h.n5, h.n6, h.n7⟩
theorem TabIs.under {w w' : World} {B C t n now : Nat} {v : Nat → Nat} {k : Nat} (h : TabIs w B C t n now v k) (hb : Below C w w') : TabIs w' B C t n now v k := by
  obtain ⟨r1, b1, r2, b2, won, lost, h, hB, rest⟩ := h
  exact ⟨r1, b1, r2, b2, won, lost, h.under hb hB.1.2 hB.2.1.2 hB.2.2.1.2 hB.2.2.2.1.2 hB.2.2.2.2.2, hB, rest⟩
set_option maxHeartbeats 800000 in
theorem rsafe_any {w : World} {m b n now : Nat} {v : Nat → Nat} (h : RefAt w m b n now v) (hn : n ≤ 8) (hnow : 1 ≤ now ∧ now ≤ 1000000) :
    Calls Tryz.prog 120 #[.pointer (some ⟨m, 0, none⟩)] w fun e w' => e = .returned (.int .u64 ((leastN now v n - 1 : Nat) : Int)) ∧ w' = w := by
  obtain ⟨q, hq⟩ : ∃ q, q = leastN now v n - 1 := ⟨_, rfl⟩
  rw [← hq]
  have HQ := hide hq
  have c0 := h.c0
  have c1 := h.c1
  have HC := hide h.cs
  have HP : Hid (∀ i, 1 ≤ leastN now v i ∧ leastN now v i ≤ now) := fun i => ⟨leastN_pos now v i hnow.1, leastN_le_now now v i⟩
  clear hq
  go_enter Tryz.func120, Tryz.ntmps120
  go_wp2
  go_loop [3, 4] (fun a i => ∃ k f : Nat, k ≤ n ∧ i = .int .i64 k ∧ a = .int .u64 (f : Int) ∧ Hid (f + 1 = leastN now v k))
    (fun _ i => n - (intOf i).toNat)
  case atStart => exact ⟨0, now - 1, Nat.zero_le _, rfl, by congr 1; omega, by show now - 1 + 1 = now; omega⟩
  case round =>
    obtain ⟨k, f, hk, rfl, rfl, HF⟩ := hrel
    obtain ⟨p1, p2⟩ := HP.out k
    rw [← HF.out] at p1 p2
    by_cases hlt : k < n
    · have cs := HC.out k hlt
      have hst : leastN now v (k + 1) = if v k = 0 then leastN now v k else min (leastN now v k) (v k) := rfl
      rw [← HF.out] at hst
      have HST := hide hst
      clear hst
      generalize v k = z at *
      by_cases hz : z = 0
      · subst hz
        go_wp2
        go_round
        case rel => exact ⟨k + 1, f, by omega, by go_num, rfl, by rw [HST.out, if_pos rfl]; rfl⟩
        case measure => simp [intOf]; omega
      · have hz1 : 0 < z := by omega
        by_cases hzf : z ≤ f
        · have hzf' : f - z + z = f := by omega
          have HN := hide hz
          clear hz hzf'
          go_wp2
          go_round
          case rel => exact ⟨k + 1, z - 1, by omega, by go_num, by congr 1; omega, by rw [HST.out, if_neg HN.out]; show z - 1 + 1 = _; omega⟩
          case measure => simp [intOf]; omega
        · have HN := hide hz
          clear hz
          go_wp2
          go_round
          case rel => exact ⟨k + 1, f, by omega, by go_num, rfl, by rw [HST.out, if_neg HN.out]; show f + 1 = _; omega⟩
          case measure => simp [intOf]; omega
    · have e : k = n := by omega
      subst e
      have hq : q = f := by rw [HQ.out, ← HF.out]; omega
      subst hq
      go_wp2
      go_ret
      exact ⟨rfl, rfl⟩
end Go.Proofs.YtfghfbmmaclcnaaGreat
