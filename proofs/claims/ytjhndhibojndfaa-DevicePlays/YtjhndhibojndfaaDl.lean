/- byPlace, and the sort by it. -/
import Derived.Test.YtjhndhibojndfaaDk
namespace Go.Proofs.Ytjhndhibojndfaa
open Go.Shelf Go.RowKit Go.Lib Go.Sort
theorem cmp_or (w : World) (g c : Nat) (a b : Int) (h0 : w.cell? ⟨g, 0, none⟩ = some (.int .i64 a)) (h1 : w.cell? ⟨g, 1, none⟩ = some (.int .i64 b)) :
    Calls Try.prog 46 #[.slice (some ⟨g, 0, none⟩) 2 c] w fun e w' => e = .returned (.int .i64 (if a ≠ 0 then a else b)) ∧ w' = w := by
  by_cases ha : a = 0
  · subst ha
    simp only [ne_eq, not_true, if_false]
    by_cases hb : b = 0
    · subst hb
      go_enter Try.func46, Try.ntmps46
      go_wp2
      refine wp_loop_rounds 3 ?_
      rw [rounds_succ]
      go_wp2
      rw [rounds_succ]
      go_wp2
      rw [rounds_succ]
      go_wp2
      go_ret
      exact ⟨rfl, rfl⟩
    · have hb' : (b != 0) = true := by simpa using hb
      go_enter Try.func46, Try.ntmps46
      go_wp2
      refine wp_loop_rounds 2 ?_
      rw [rounds_succ]
      go_wp2
      rw [rounds_succ]
      go_wp2
      go_ret
      exact ⟨rfl, rfl⟩
  · have ha' : (a != 0) = true := by simpa using ha
    rw [if_pos ha]
    go_enter Try.func46, Try.ntmps46
    go_wp2
    refine wp_loop_rounds 1 ?_
    rw [rounds_succ]
    go_wp2
    go_ret
    exact ⟨rfl, rfl⟩
def cfB (x y : Bk) : Int := if Lib.compareInt x.1 y.1 ≠ 0 then Lib.compareInt x.1 y.1 else Lib.compareInt x.2 y.2
theorem cmp_int (x y : Int) (w : World) : Calls Try.prog 47 #[.int .i64 x, .int .i64 y] w fun e w' => e = .returned (.int .i64 (Lib.compareInt x y)) ∧ w' = w :=
  AnyG.cmp_Compare_int Try.cmpInt x y w
theorem cmp_or' (w : World) (g c : Nat) (a b v : Int) (hv : Hid (v = if a ≠ 0 then a else b)) (h0 : w.cell? ⟨g, 0, none⟩ = some (.int .i64 a)) (h1 : w.cell? ⟨g, 1, none⟩ = some (.int .i64 b)) :
    Calls Try.prog 46 #[.slice (some ⟨g, 0, none⟩) 2 c] w fun e w' => e = .returned (.int .i64 v) ∧ w' = w := by
  rw [hv.out]; exact cmp_or w g c a b h0 h1
set_option maxHeartbeats 1000000 in
theorem by_place (x y : Bk) (W : World) : Calls Try.prog 37 #[.agg #[.int .i64 x.1, .int .i64 x.2], .agg #[.int .i64 y.1, .int .i64 y.2]] W fun e w' => e = .returned (.int .i64 (cfB x y)) ∧ ∃ q os', w' = grow (W.drewN q) os' := by
  obtain ⟨a, n⟩ := x
  obtain ⟨b, m⟩ := y
  have HV : Hid (cfB (a, n) (b, m) = if Lib.compareInt a b ≠ 0 then Lib.compareInt a b else Lib.compareInt n m) := rfl
  generalize cfB (a, n) (b, m) = v at *
  go_enter Try.func37, Try.ntmps37
  go_wp2
  have c0 : ((W.alloc (.cells #[.int .i64 a, .int .i64 n] 32)).alloc (.cells #[.int .i64 b, .int .i64 m] 32)).cell? ⟨W.heap.size, 0, none⟩ = some (.int .i64 a) := cell_alloc (by simp) _
  have c1 : ((W.alloc (.cells #[.int .i64 a, .int .i64 n] 32)).alloc (.cells #[.int .i64 b, .int .i64 m] 32)).cell? ⟨W.heap.size, 1, none⟩ = some (.int .i64 n) := cell_alloc (by simp) _
  have c2 : ((W.alloc (.cells #[.int .i64 a, .int .i64 n] 32)).alloc (.cells #[.int .i64 b, .int .i64 m] 32)).cell? ⟨W.heap.size + 1, 0, none⟩ = some (.int .i64 b) := by simp
  have c3 : ((W.alloc (.cells #[.int .i64 a, .int .i64 n] 32)).alloc (.cells #[.int .i64 b, .int .i64 m] 32)).cell? ⟨W.heap.size + 1, 1, none⟩ = some (.int .i64 m) := by simp
  have hx : Hid (∃ os, ((W.alloc (.cells #[.int .i64 a, .int .i64 n] 32)).alloc (.cells #[.int .i64 b, .int .i64 m] 32)) = grow W os) := ⟨_, by rw [alloc_eq_grow, alloc_eq_grow, grow_grow]⟩
  generalize ((W.alloc (.cells #[.int .i64 a, .int .i64 n] 32)).alloc (.cells #[.int .i64 b, .int .i64 m] 32)) = x at *
  generalize W.heap.size = B at *
  have CM := fun (p q : Int) (V : World) => cmp_int p q V
  go_region_held3 (fun V => V.cell? ⟨B, 0, none⟩ = some (.int .i64 a) ∧ V.cell? ⟨B, 1, none⟩ = some (.int .i64 n) ∧ V.cell? ⟨B + 1, 0, none⟩ = some (.int .i64 b) ∧ V.cell? ⟨B + 1, 1, none⟩ = some (.int .i64 m)) (first | assumption | go_keep) (first | (go_at_call 47; refine (cmp_int _ _ _).mono ?_; rintro e w' ⟨rfl, rfl⟩) | (go_at_call 46; refine (cmp_or' _ _ _ (Lib.compareInt a b) (Lib.compareInt n m) v HV (by simp) (by simp)).mono ?_; rintro e w' ⟨rfl, rfl⟩))
  go_wp2
  go_ret
  obtain ⟨os, rfl⟩ := hx.out
  exact ⟨rfl, 1, _, by rw [alloc_eq_grow, grow_grow]; rfl⟩
def encB (x : Bk) : List Value := [.int .i64 x.1, .int .i64 x.2]
theorem ltB_of (x y : Bk) : ltOf cfB x y = true ↔ ltB x y := by
  unfold ltOf cfB Lib.compareInt ltB
  by_cases h1 : x.1 < y.1
  · simp [h1]
  · by_cases h2 : y.1 < x.1
    · simp [h1, h2]; omega
    · have : x.1 = y.1 := by omega
      by_cases h3 : x.2 < y.2
      · simp [this, h3]
      · by_cases h4 : y.2 < x.2 <;> simp [this, h3, h4]
theorem swo_bk : SWO (ltOf cfB) where
  irrefl x := by
    cases h : ltOf cfB x x
    · rfl
    · exact absurd ((ltB_of x x).1 h) (ltB_irrefl x)
  trans x y z h1 h2 := (ltB_of x z).2 (ltB_trans ((ltB_of x y).1 h1) ((ltB_of y z).1 h2))
  ntrans x y z h1 h2 := by
    have n1 : ¬ ltB x y := fun h => by rw [(ltB_of x y).2 h] at h1; cases h1
    have n2 : ¬ ltB y z := fun h => by rw [(ltB_of y z).2 h] at h2; cases h2
    cases h : ltOf cfB x z
    · rfl
    · have h3 := (ltB_of x z).1 h
      rcases ltB_or x y with h4 | h4 | h4
      · exact absurd h4 n1
      · subst h4; exact absurd h3 n2
      · exact absurd (ltB_trans h4 h3) n2
theorem tri_bk (x y : Bk) (h1 : ltOf cfB x y = false) (h2 : ltOf cfB y x = false) : x = y := by
  rcases ltB_or x y with h | h | h
  · rw [(ltB_of x y).2 h] at h1; cases h1
  · exact h
  · rw [(ltB_of y x).2 h] at h2; cases h2
theorem cmp_lays (g off size : Nat) (w : World) : CmpLays Try.prog 37 #[] encB 2 cfB g off size w := fun _ _ _ _ x y => by_place x y _
theorem Try.isAggB (w : World) : (isAgg 32).run Try.prog w = .ok true w := by kernel_rfl
theorem Try.sizeOfB (w : World) : (Go.sizeOf 32).run Try.prog w = .ok 2 w := by kernel_rfl
/-- slices.SortFunc of blocks by their places. -/
theorem sort_bks (g cap : Nat) (zs : List Bk) (w : World) (hH : HoldsK encB 2 w g 0 zs.toArray) (hg : g < w.heap.size) (hsz : zs.length < 4611686018427387904) :
    Calls Try.prog 36 #[.slice (some ⟨g, 0, none⟩) zs.length cap, .func (.func 37) #[] #[]] w fun e w' => e = .returned (.tuple #[]) ∧ HoldsK encB 2 w' g 0 (zs.mergeSort fun x y => !(ltOf cfB) y x).toArray ∧ Keeps (fun k => k = g) w w' := by
  have eg : ∀ args w, (callFunc 37 args).run Try.prog w = .ok (.enter 37 args) w := enters_of Try.func37 (by kernel_rfl) rfl
  have h := AnyQ.slices_SortFunc_total Try.sortBks 2 Try.isAggB Try.sizeOfB encB (fun _ => rfl) (fun x v hv => by simp [encB] at hv; rcases hv with rfl | rfl <;> rfl) cfB swo_bk 37 #[] g 0 cap zs.toArray w eg (cmp_lays _ _ _ _) hH hg (by simpa using hsz) tri_bk
  change Calls Try.prog 36 _ _ _ at h
  rw [show zs.toArray.size = zs.length by simp] at h
  refine h.mono ?_
  rintro e w' ⟨rfl, n, os, rfl⟩
  refine ⟨rfl, ?_, keeps_row _ _ _ _ _ _ _⟩
  exact holdsK_grow encB 2 _ _ _ _ _ (by simpa [putRowK] using hg) (holdsK_putRowK encB 2 _ _ _ zs.toArray _ hH (by simp))
theorem sort_bks_none (p : Option Addr) (cap : Nat) (fv : Value) (w : World) :
    Calls Try.prog 36 #[.slice p 0 cap, fv] w fun e w' => e = .returned (.tuple #[]) ∧ w' = w :=
  AnyF.slices_SortFunc_none Try.sortBks p cap fv w
end Go.Proofs.Ytjhndhibojndfaa
