/- Parts of the proof: Bg Bh Bi. -/
import Derived.Test.YtikpphbgjbfddaaJ10
import Derived.Test.YtikpphbgjbfddaaJ12
import Derived.Test.YtikpphbgjbfddaaJ14
import Derived.Test.YtikpphbgjbfddaaJ24
import Derived.Handy
import Derived.Deep.OwnRows
namespace Go.Proofs.Ytikpphbgjbfddaa
set_option maxRecDepth 20000
open Go.RowKit
/-- A spot as a value. -/
def spotV (b : Option Addr) (L V N : Nat) : Value := .agg #[.pointer b, .int .u64 (L : Int), .int .u64 (V : Int), .int .i64 (N : Int), .int .i64 0, .int .i64 0, .int .u64 0]
/-- Some cells of a block. -/
structure Bx (w : World) (p n : Nat) (f : Nat → Value) : Prop where
  cs : ∀ i, i < n → w.cell? ⟨p, i, none⟩ = some (f i)
  fs : ∀ i, w.frozen? ⟨p, i, none⟩ = false
theorem Bx.set {w : World} {p n : Nat} {f : Nat → Value} (h : Bx w p n f) (i : Nat) (u : Value) : Bx (w.setCell ⟨p, i, none⟩ u) p n (fun j => if j = i then u else f j) := by
  refine ⟨fun j hj => ?_, fun j => by rw [World.frozen?_setCell]; exact h.fs j⟩
  by_cases e : j = i
  · subst e; rw [if_pos rfl]; exact World.cell?_setCell_same _ _ _ (h.cs j hj)
  · rw [if_neg e, World.cell?_setCell_other _ _ _ _ (fun q => e (by cases q; rfl))]; exact h.cs j hj
theorem Bx.below {w w' : World} {p n : Nat} {f : Nat → Value} (h : Bx w p n f) (hp : p < w.heap.size) (hb : Below w.heap.size w w') : Bx w' p n f :=
  ⟨fun i hi => (hb.cell (p := ⟨p, i, none⟩) hp).trans (h.cs i hi), fun i => (hb.frozen (p := ⟨p, i, none⟩) hp).trans (h.fs i)⟩
def zero7 : Nat → Value
  | 0 => .pointer none
  | 1 => .int .u64 0
  | 2 => .int .u64 0
  | 3 => .int .i64 0
  | 4 => .int .i64 0
  | 5 => .int .i64 0
  | _ => .int .u64 0
theorem bx_made (w : World) (T : TypeId) : Bx (w.alloc (.cells #[.pointer none, .int .u64 0, .int .u64 0, .int .i64 0, .int .i64 0, .int .i64 0, .int .u64 0] T)) w.heap.size 7 zero7 := by
  refine ⟨fun i hi => ?_, fun i => by simp⟩
  match i, hi with
  | 0, _ => simp [zero7]
  | 1, _ => simp [zero7]
  | 2, _ => simp [zero7]
  | 3, _ => simp [zero7]
  | 4, _ => simp [zero7]
  | 5, _ => simp [zero7]
  | 6, _ => simp [zero7]
/-- Seven cells written whole. -/
def set7 (y : World) (r : Nat) (a0 a1 a2 a3 a4 a5 a6 : Value) : World := ((((((y.setCell ⟨r, 0, none⟩ a0).setCell ⟨r, 1, none⟩ a1).setCell ⟨r, 2, none⟩ a2).setCell ⟨r, 3, none⟩ a3).setCell ⟨r, 4, none⟩ a4).setCell ⟨r, 5, none⟩ a5).setCell ⟨r, 6, none⟩ a6
theorem bx_set7 {y : World} {r : Nat} {f : Nat → Value} (h : Bx y r 7 f) (a0 a1 a2 a3 a4 a5 a6 : Value) :
    (set7 y r a0 a1 a2 a3 a4 a5 a6).cell? ⟨r, 0, none⟩ = some a0 ∧ (set7 y r a0 a1 a2 a3 a4 a5 a6).cell? ⟨r, 1, none⟩ = some a1 ∧ (set7 y r a0 a1 a2 a3 a4 a5 a6).cell? ⟨r, 2, none⟩ = some a2 ∧ (set7 y r a0 a1 a2 a3 a4 a5 a6).cell? ⟨r, 3, none⟩ = some a3 ∧ (set7 y r a0 a1 a2 a3 a4 a5 a6).cell? ⟨r, 4, none⟩ = some a4 ∧ (set7 y r a0 a1 a2 a3 a4 a5 a6).cell? ⟨r, 5, none⟩ = some a5 ∧ (set7 y r a0 a1 a2 a3 a4 a5 a6).cell? ⟨r, 6, none⟩ = some a6 := by
  have H := ((((((h.set 0 a0).set 1 a1).set 2 a2).set 3 a3).set 4 a4).set 5 a5).set 6 a6
  exact ⟨H.cs 0 (by omega), H.cs 1 (by omega), H.cs 2 (by omega), H.cs 3 (by omega), H.cs 4 (by omega), H.cs 5 (by omega), H.cs 6 (by omega)⟩
theorem below_set7 {w y : World} {r B : Nat} (h : Below B w y) (hr : B ≤ r) (a0 a1 a2 a3 a4 a5 a6 : Value) : Below B w (set7 y r a0 a1 a2 a3 a4 a5 a6) :=
  ((((((h.setCell hr _).setCell hr _).setCell hr _).setCell hr _).setCell hr _).setCell hr _).setCell hr _
section
variable {w : World} {S : Nat → Prop} {t m k : Nat} {bits : Int} {F : Nat → Option Pg}
set_option maxHeartbeats 2000000 in
theorem ns_yes (hp : PB w S t m bits k F) (a K n : Nat) (hK : 1 ≤ K ∧ K ≤ 64) (hn : n ≤ 128) (ha : a ≤ 281474976710655) (hf : fitsB bits a (sizeR K n : Int) = true) :
    Calls Try.prog 37 #[.pointer (some ⟨t, 0, none⟩), .int .u64 (a : Int), .int .i64 (K : Int), .int .i64 (n : Int)] w fun e w' => e = .returned (.tuple #[spotV (some ⟨t, 0, none⟩) (a + 1) (a + (3 + wordsFor K)) (wordsFor n), .int .i64 0]) ∧ Below w.heap.size w w' := by
  have HZ := hide (fun w => size_yes K n w hK.2 hn)
  have HA := hide (fun w => at_yes K w hK.2)
  have HBI : Hid (∀ y, Below w.heap.size w y → Calls Try.prog 58 #[.pointer (some ⟨t, 0, none⟩)] y fun e w' => e = .returned (.int .i64 bits) ∧ w' = y) := fun y hy => by
    obtain ⟨fb, g, o, h⟩ := hp
    exact pb_bits (h.below hy)
  have HFI : Hid (∀ y, Calls Try.prog 64 #[.int .i64 bits, .int .u64 (a : Int), .int .i64 (sizeR K n : Int)] y fun e w' => e = .returned (.bool true) ∧ Below y.heap.size y w') := fun y => by
    have := fits_any bits a (sizeR K n : Int) y (by omega)
    rw [hf] at this
    exact this
  have l1 : wordsFor K ≤ 8 := by unfold wordsFor; omega
  have l2 : wordsFor n ≤ 16 := by unfold wordsFor; omega
  have e1 : sizeR K n = 3 + wordsFor K + wordsFor n := rfl
  have e2 : sizeR K 0 = 3 + wordsFor K := rfl
  rw [e1] at HZ HFI
  rw [e2] at HA
  obtain ⟨Z, hZ⟩ : ∃ Z, Z = 3 + wordsFor K + wordsFor n := ⟨_, rfl⟩
  obtain ⟨V, hV⟩ : ∃ V, V = 3 + wordsFor K := ⟨_, rfl⟩
  rw [← hZ] at HZ HFI
  rw [← hV] at HA
  rw [← hV]
  obtain ⟨N, hN⟩ : ∃ N, N = wordsFor n := ⟨_, rfl⟩
  rw [← hN]
  have k1 : ¬ (K : Int) < 1 := by omega
  have w1 : IntKind.u64.wrap ((a : Int) + 1) = ((a + 1 : Nat) : Int) := by have := IntWalk.u64_in ((a : Int) + 1) (by omega); omega
  have w2 : IntKind.u64.wrap (V : Int) = (V : Int) := IntWalk.u64_in _ (by omega)
  have w3 : IntKind.u64.wrap ((a : Int) + (V : Int)) = ((a + V : Nat) : Int) := by have := IntWalk.u64_in ((a : Int) + (V : Int)) (by omega); omega
  have w4 : wrap64 ((Z : Int) - (V : Int)) = (N : Int) := by have := IntWalk.wrap64_in ((Z : Int) - (V : Int)) (by omega); omega
  have w5 : IntKind.i64.wrap ((Z : Int) - (V : Int)) = (N : Int) := by have := IntWalk.i64_in ((Z : Int) - (V : Int)) (by omega); omega
  clear hp hK hn hf l1 l2 e1 e2 hZ hV hN
  have BX := hide (bx_made w 80)
  have hb : Below w.heap.size w (w.alloc (.cells #[.pointer none, .int .u64 0, .int .u64 0, .int .i64 0, .int .i64 0, .int .i64 0, .int .u64 0] 80)) := (Below.refl _ w).alloc (Nat.le_refl _) _
  have hlt : w.heap.size < (w.alloc (.cells #[.pointer none, .int .u64 0, .int .u64 0, .int .i64 0, .int .i64 0, .int .i64 0, .int .u64 0] 80)).heap.size := by simp
  go_enter Try.func37, Try.ntmps37
  go_wp2_with fail
  refine (HZ.out _).mono ?_
  rintro e x1 ⟨rfl, b1⟩
  replace BX := hide (BX.out.below hlt b1)
  replace hb := hb.trans (b1.mono hb.size)
  replace hlt : w.heap.size < x1.heap.size := Nat.lt_of_lt_of_le hlt b1.size
  clear b1
  go_wp2_with fail
  refine (HBI.out x1 hb).mono ?_
  rintro e x2 ⟨rfl, rfl⟩
  go_wp2_with fail
  refine (HFI.out _).mono ?_
  rintro e x3 ⟨rfl, b3⟩
  replace BX := hide (BX.out.below hlt b3)
  replace hb := hb.trans (b3.mono hb.size)
  replace hlt : w.heap.size < x3.heap.size := Nat.lt_of_lt_of_le hlt b3.size
  clear b3
  go_wp2_with fail
  refine (HA.out _).mono ?_
  rintro e x4 ⟨rfl, b4⟩
  replace BX := hide (BX.out.below hlt b4)
  replace hb := hb.trans (b4.mono hb.size)
  clear b4 hlt HZ HA HBI HFI
  have d0 := BX.out.cs 0 (by omega)
  have d1 := BX.out.cs 1 (by omega)
  have d2 := BX.out.cs 2 (by omega)
  have d3 := BX.out.cs 3 (by omega)
  have d4 := BX.out.cs 4 (by omega)
  have d5 := BX.out.cs 5 (by omega)
  have d6 := BX.out.cs 6 (by omega)
  have f0 := BX.out.fs 0
  have f1 := BX.out.fs 1
  have f2 := BX.out.fs 2
  have f3 := BX.out.fs 3
  have f4 := BX.out.fs 4
  have f5 := BX.out.fs 5
  have f6 := BX.out.fs 6
  go_wp2
  obtain ⟨q0, q1, q2, q3, q4, q5, q6⟩ := bx_set7 BX.out (.pointer (some ⟨t, 0, none⟩)) (.int .u64 ((a : Int) + 1)) (.int .u64 ((a : Int) + (V : Int))) (.int .i64 ((N : Int))) (.int .i64 0) (.int .i64 0) (.int .u64 0)
  have hy := below_set7 hb (Nat.le_refl w.heap.size) (.pointer (some ⟨t, 0, none⟩)) (.int .u64 ((a : Int) + 1)) (.int .u64 ((a : Int) + (V : Int))) (.int .i64 ((N : Int))) (.int .i64 0) (.int .i64 0) (.int .u64 0)
  unfold set7 at q0 q1 q2 q3 q4 q5 q6 hy
  generalize (((((((x4.setCell ⟨w.heap.size, 0, none⟩ (.pointer (some ⟨t, 0, none⟩))).setCell ⟨w.heap.size, 1, none⟩ (.int .u64 ((a : Int) + 1))).setCell ⟨w.heap.size, 2, none⟩ (.int .u64 ((a : Int) + (V : Int)))).setCell ⟨w.heap.size, 3, none⟩ (.int .i64 ((N : Int)))).setCell ⟨w.heap.size, 4, none⟩ (.int .i64 0)).setCell ⟨w.heap.size, 5, none⟩ (.int .i64 0)).setCell ⟨w.heap.size, 6, none⟩ (.int .u64 0)) = y at *
  (try simp only [Exit.inBlock, Exit.then])
  refine bodyPost_ret (by simp [results, Try.results37, go_sem, q0, q1, q2, q3, q4, q5, q6]; try rfl) rfl ?_
  have ea : ((a + 1 : Nat) : Int) = (a : Int) + 1 := by omega
  have eb : ((a + V : Nat) : Int) = (a : Int) + (V : Int) := by omega
  exact ⟨by unfold spotV; rw [ea, eb], hy⟩
set_option maxHeartbeats 2000000 in
theorem ns_nil (a : Int) (K n : Int) (w : World) :
    Calls Try.prog 37 #[.pointer none, .int .u64 a, .int .i64 K, .int .i64 n] w fun e w' => e = .returned (.tuple #[spotV none 0 0 0, .int .i64 2]) ∧ Below w.heap.size w w' := by
  have hb : Below w.heap.size w (w.alloc (.cells #[.pointer none, .int .u64 0, .int .u64 0, .int .i64 0, .int .i64 0, .int .i64 0, .int .u64 0] 80)) := (Below.refl _ w).alloc (Nat.le_refl _) _
  go_enter Try.func37, Try.ntmps37
  go_wp2
  (try simp only [Exit.inBlock, Exit.then])
  refine bodyPost_ret (by simp [results, Try.results37, go_sem]; try rfl) rfl ?_
  exact ⟨rfl, hb⟩
set_option maxHeartbeats 2000000 in
/-- Lengths that may not be; a key of no byte. -/
theorem ns_len (hp : PB w S t m bits k F) (a : Nat) (K n : Int) (ha : a < 18446744073709551616) (h : K < 1 ∨ n < 0 ∨ 64 < K ∨ 128 < n) :
    Calls Try.prog 37 #[.pointer (some ⟨t, 0, none⟩), .int .u64 (a : Int), .int .i64 K, .int .i64 n] w fun e w' => e = .returned (.tuple #[spotV none 0 0 0, .int .i64 1]) ∧ Below w.heap.size w w' := by
  obtain ⟨Z, HZ⟩ : ∃ Z : Int, Hid (∀ w, Calls Try.prog 63 #[.int .i64 K, .int .i64 n] w fun e w' => e = .returned (.int .i64 Z) ∧ Below w.heap.size w w') := by
    by_cases h' : K < 0 ∨ n < 0 ∨ 64 < K ∨ 128 < n
    · exact ⟨0, fun w => size_no K n w h'⟩
    · obtain ⟨k0, rfl⟩ : ∃ k0 : Nat, K = (k0 : Int) := ⟨K.toNat, by omega⟩
      obtain ⟨n0, rfl⟩ : ∃ n0 : Nat, n = (n0 : Int) := ⟨n.toNat, by omega⟩
      exact ⟨_, fun w => size_yes k0 n0 w (by omega) (by omega)⟩
  by_cases hK : K < 1
  · clear h hp ha
    have BX := hide (bx_made w 80)
    have hb : Below w.heap.size w (w.alloc (.cells #[.pointer none, .int .u64 0, .int .u64 0, .int .i64 0, .int .i64 0, .int .i64 0, .int .u64 0] 80)) := (Below.refl _ w).alloc (Nat.le_refl _) _
    have hlt : w.heap.size < (w.alloc (.cells #[.pointer none, .int .u64 0, .int .u64 0, .int .i64 0, .int .i64 0, .int .i64 0, .int .u64 0] 80)).heap.size := by simp
    go_enter Try.func37, Try.ntmps37
    go_wp2_with fail
    refine (HZ.out _).mono ?_
    rintro e x1 ⟨rfl, b1⟩
    replace BX := hide (BX.out.below hlt b1)
    replace hb := hb.trans (b1.mono hb.size)
    clear b1 hlt HZ
    have d0 := BX.out.cs 0 (by omega)
    have d1 := BX.out.cs 1 (by omega)
    have d2 := BX.out.cs 2 (by omega)
    have d3 := BX.out.cs 3 (by omega)
    have d4 := BX.out.cs 4 (by omega)
    have d5 := BX.out.cs 5 (by omega)
    have d6 := BX.out.cs 6 (by omega)
    have f0 := BX.out.fs 0
    have f1 := BX.out.fs 1
    have f2 := BX.out.fs 2
    have f3 := BX.out.fs 3
    have f4 := BX.out.fs 4
    have f5 := BX.out.fs 5
    have f6 := BX.out.fs 6
    go_wp2
    obtain ⟨q0, q1, q2, q3, q4, q5, q6⟩ := bx_set7 BX.out (.pointer none) (.int .u64 (0)) (.int .u64 (0)) (.int .i64 (0)) (.int .i64 0) (.int .i64 0) (.int .u64 0)
    have hy := below_set7 hb (Nat.le_refl w.heap.size) (.pointer none) (.int .u64 (0)) (.int .u64 (0)) (.int .i64 (0)) (.int .i64 0) (.int .i64 0) (.int .u64 0)
    unfold set7 at q0 q1 q2 q3 q4 q5 q6 hy
    generalize (((((((x1.setCell ⟨w.heap.size, 0, none⟩ (.pointer none)).setCell ⟨w.heap.size, 1, none⟩ (.int .u64 (0))).setCell ⟨w.heap.size, 2, none⟩ (.int .u64 (0))).setCell ⟨w.heap.size, 3, none⟩ (.int .i64 (0))).setCell ⟨w.heap.size, 4, none⟩ (.int .i64 0)).setCell ⟨w.heap.size, 5, none⟩ (.int .i64 0)).setCell ⟨w.heap.size, 6, none⟩ (.int .u64 0)) = y at *
    (try simp only [Exit.inBlock, Exit.then])
    refine bodyPost_ret (by simp [results, Try.results37, go_sem, q0, q1, q2, q3, q4, q5, q6]; try rfl) rfl ?_
    exact ⟨rfl, hy⟩
  · have HZ0 := hide (fun w => size_no K n w (by omega))
    have HBI : Hid (∀ y, Below w.heap.size w y → Calls Try.prog 58 #[.pointer (some ⟨t, 0, none⟩)] y fun e w' => e = .returned (.int .i64 bits) ∧ w' = y) := fun y hy => by
      obtain ⟨fb, g, o, h⟩ := hp
      exact pb_bits (h.below hy)
    have HFI : Hid (∀ y, Calls Try.prog 64 #[.int .i64 bits, .int .u64 (a : Int), .int .i64 0] y fun e w' => e = .returned (.bool false) ∧ Below y.heap.size y w') := fun y => by
      have := fits_any bits a 0 y ha
      rw [show fitsB bits a 0 = false from by unfold fitsB; simp] at this
      exact this
    clear h hp ha HZ
    have BX := hide (bx_made w 80)
    have hb : Below w.heap.size w (w.alloc (.cells #[.pointer none, .int .u64 0, .int .u64 0, .int .i64 0, .int .i64 0, .int .i64 0, .int .u64 0] 80)) := (Below.refl _ w).alloc (Nat.le_refl _) _
    have hlt : w.heap.size < (w.alloc (.cells #[.pointer none, .int .u64 0, .int .u64 0, .int .i64 0, .int .i64 0, .int .i64 0, .int .u64 0] 80)).heap.size := by simp
    go_enter Try.func37, Try.ntmps37
    go_wp2_with fail
    refine (HZ0.out _).mono ?_
    rintro e x1 ⟨rfl, b1⟩
    replace BX := hide (BX.out.below hlt b1)
    replace hb := hb.trans (b1.mono hb.size)
    replace hlt : w.heap.size < x1.heap.size := Nat.lt_of_lt_of_le hlt b1.size
    clear b1 HZ0
    go_wp2_with fail
    refine (HBI.out x1 hb).mono ?_
    rintro e x2 ⟨rfl, rfl⟩
    go_wp2_with fail
    refine (HFI.out _).mono ?_
    rintro e x3 ⟨rfl, b3⟩
    replace BX := hide (BX.out.below hlt b3)
    replace hb := hb.trans (b3.mono hb.size)
    clear b3 hlt HBI HFI
    have d0 := BX.out.cs 0 (by omega)
    have d1 := BX.out.cs 1 (by omega)
    have d2 := BX.out.cs 2 (by omega)
    have d3 := BX.out.cs 3 (by omega)
    have d4 := BX.out.cs 4 (by omega)
    have d5 := BX.out.cs 5 (by omega)
    have d6 := BX.out.cs 6 (by omega)
    have f0 := BX.out.fs 0
    have f1 := BX.out.fs 1
    have f2 := BX.out.fs 2
    have f3 := BX.out.fs 3
    have f4 := BX.out.fs 4
    have f5 := BX.out.fs 5
    have f6 := BX.out.fs 6
    go_wp2
    obtain ⟨q0, q1, q2, q3, q4, q5, q6⟩ := bx_set7 BX.out (.pointer none) (.int .u64 (0)) (.int .u64 (0)) (.int .i64 (0)) (.int .i64 0) (.int .i64 0) (.int .u64 0)
    have hy := below_set7 hb (Nat.le_refl w.heap.size) (.pointer none) (.int .u64 (0)) (.int .u64 (0)) (.int .i64 (0)) (.int .i64 0) (.int .i64 0) (.int .u64 0)
    unfold set7 at q0 q1 q2 q3 q4 q5 q6 hy
    generalize (((((((x3.setCell ⟨w.heap.size, 0, none⟩ (.pointer none)).setCell ⟨w.heap.size, 1, none⟩ (.int .u64 (0))).setCell ⟨w.heap.size, 2, none⟩ (.int .u64 (0))).setCell ⟨w.heap.size, 3, none⟩ (.int .i64 (0))).setCell ⟨w.heap.size, 4, none⟩ (.int .i64 0)).setCell ⟨w.heap.size, 5, none⟩ (.int .i64 0)).setCell ⟨w.heap.size, 6, none⟩ (.int .u64 0)) = y at *
    (try simp only [Exit.inBlock, Exit.then])
    refine bodyPost_ret (by simp [results, Try.results37, go_sem, q0, q1, q2, q3, q4, q5, q6]; try rfl) rfl ?_
    exact ⟨rfl, hy⟩
set_option maxHeartbeats 2000000 in
/-- A record that does not fit there. -/
theorem ns_fit (hp : PB w S t m bits k F) (a K n : Nat) (ha : a < 18446744073709551616) (hK : 1 ≤ K ∧ K ≤ 64) (hn : n ≤ 128) (hf : fitsB bits a (sizeR K n : Int) = false) :
    Calls Try.prog 37 #[.pointer (some ⟨t, 0, none⟩), .int .u64 (a : Int), .int .i64 (K : Int), .int .i64 (n : Int)] w fun e w' => e = .returned (.tuple #[spotV none 0 0 0, .int .i64 1]) ∧ Below w.heap.size w w' := by
  have HZ := hide (fun w => size_yes K n w hK.2 hn)
  have HBI : Hid (∀ y, Below w.heap.size w y → Calls Try.prog 58 #[.pointer (some ⟨t, 0, none⟩)] y fun e w' => e = .returned (.int .i64 bits) ∧ w' = y) := fun y hy => by
    obtain ⟨fb, g, o, h⟩ := hp
    exact pb_bits (h.below hy)
  have HFI : Hid (∀ y, Calls Try.prog 64 #[.int .i64 bits, .int .u64 (a : Int), .int .i64 (sizeR K n : Int)] y fun e w' => e = .returned (.bool false) ∧ Below y.heap.size y w') := fun y => by
    have := fits_any bits a (sizeR K n : Int) y (by omega)
    rw [hf] at this
    exact this
  have k1 : ¬ (K : Int) < 1 := by omega
  clear hp hK hn hf ha
  generalize (sizeR K n : Int) = Z at *
  have BX := hide (bx_made w 80)
  have hb : Below w.heap.size w (w.alloc (.cells #[.pointer none, .int .u64 0, .int .u64 0, .int .i64 0, .int .i64 0, .int .i64 0, .int .u64 0] 80)) := (Below.refl _ w).alloc (Nat.le_refl _) _
  have hlt : w.heap.size < (w.alloc (.cells #[.pointer none, .int .u64 0, .int .u64 0, .int .i64 0, .int .i64 0, .int .i64 0, .int .u64 0] 80)).heap.size := by simp
  go_enter Try.func37, Try.ntmps37
  go_wp2_with fail
  refine (HZ.out _).mono ?_
  rintro e x1 ⟨rfl, b1⟩
  replace BX := hide (BX.out.below hlt b1)
  replace hb := hb.trans (b1.mono hb.size)
  replace hlt : w.heap.size < x1.heap.size := Nat.lt_of_lt_of_le hlt b1.size
  clear b1 HZ
  go_wp2_with fail
  refine (HBI.out x1 hb).mono ?_
  rintro e x2 ⟨rfl, rfl⟩
  go_wp2_with fail
  refine (HFI.out _).mono ?_
  rintro e x3 ⟨rfl, b3⟩
  replace BX := hide (BX.out.below hlt b3)
  replace hb := hb.trans (b3.mono hb.size)
  clear b3 hlt HBI HFI
  have d0 := BX.out.cs 0 (by omega)
  have d1 := BX.out.cs 1 (by omega)
  have d2 := BX.out.cs 2 (by omega)
  have d3 := BX.out.cs 3 (by omega)
  have d4 := BX.out.cs 4 (by omega)
  have d5 := BX.out.cs 5 (by omega)
  have d6 := BX.out.cs 6 (by omega)
  have f0 := BX.out.fs 0
  have f1 := BX.out.fs 1
  have f2 := BX.out.fs 2
  have f3 := BX.out.fs 3
  have f4 := BX.out.fs 4
  have f5 := BX.out.fs 5
  have f6 := BX.out.fs 6
  go_wp2
  obtain ⟨q0, q1, q2, q3, q4, q5, q6⟩ := bx_set7 BX.out (.pointer none) (.int .u64 (0)) (.int .u64 (0)) (.int .i64 (0)) (.int .i64 0) (.int .i64 0) (.int .u64 0)
  have hy := below_set7 hb (Nat.le_refl w.heap.size) (.pointer none) (.int .u64 (0)) (.int .u64 (0)) (.int .i64 (0)) (.int .i64 0) (.int .i64 0) (.int .u64 0)
  unfold set7 at q0 q1 q2 q3 q4 q5 q6 hy
  generalize (((((((x3.setCell ⟨w.heap.size, 0, none⟩ (.pointer none)).setCell ⟨w.heap.size, 1, none⟩ (.int .u64 (0))).setCell ⟨w.heap.size, 2, none⟩ (.int .u64 (0))).setCell ⟨w.heap.size, 3, none⟩ (.int .i64 (0))).setCell ⟨w.heap.size, 4, none⟩ (.int .i64 0)).setCell ⟨w.heap.size, 5, none⟩ (.int .i64 0)).setCell ⟨w.heap.size, 6, none⟩ (.int .u64 0)) = y at *
  (try simp only [Exit.inBlock, Exit.then])
  refine bodyPost_ret (by simp [results, Try.results37, go_sem, q0, q1, q2, q3, q4, q5, q6]; try rfl) rfl ?_
  exact ⟨rfl, hy⟩
end
end Go.Proofs.Ytikpphbgjbfddaa
namespace Go.Proofs.Ytikpphbgjbfddaa
set_option maxRecDepth 20000
open Go.RowKit
theorem pw_made (w : World) (t L V N : Nat) (l a : Value) (T : TypeId) : PwAt (w.alloc (.cells #[.pointer (some ⟨t, 0, none⟩), .int .u64 (L : Int), .int .u64 (V : Int), .int .i64 (N : Int), .int .i64 0, .int .i64 0, .int .u64 0, l, a] T)) w.heap.size (pwV t L V N 0 0 0 l a) := by
  refine ⟨fun i hi => ?_, fun i _ => by simp⟩
  match i, hi with
  | 0, _ => simp [pwV]
  | 1, _ => simp [pwV]
  | 2, _ => simp [pwV]
  | 3, _ => simp [pwV]
  | 4, _ => simp [pwV]
  | 5, _ => simp [pwV]
  | 6, _ => simp [pwV]
  | 7, _ => simp [pwV]
  | 8, _ => simp [pwV]
/-- The cells of a spot in a block. -/
def Spot7 (W : World) (r t L V N : Nat) : Prop := W.cell? ⟨r, 0, none⟩ = some (.pointer (some ⟨t, 0, none⟩)) ∧ W.cell? ⟨r, 1, none⟩ = some (.int .u64 (L : Int)) ∧ W.cell? ⟨r, 2, none⟩ = some (.int .u64 (V : Int)) ∧ W.cell? ⟨r, 3, none⟩ = some (.int .i64 (N : Int)) ∧ W.cell? ⟨r, 4, none⟩ = some (.int .i64 0) ∧ W.cell? ⟨r, 5, none⟩ = some (.int .i64 0) ∧ W.cell? ⟨r, 6, none⟩ = some (.int .u64 0)
theorem Spot7.below {w w' : World} {r t L V N : Nat} (h : Spot7 w r t L V N) (hr : r < w.heap.size) (hb : Below w.heap.size w w') : Spot7 w' r t L V N := by
  obtain ⟨d0, d1, d2, d3, d4, d5, d6⟩ := h
  exact ⟨(hb.cell (p := ⟨r, 0, none⟩) hr).trans d0, (hb.cell (p := ⟨r, 1, none⟩) hr).trans d1, (hb.cell (p := ⟨r, 2, none⟩) hr).trans d2, (hb.cell (p := ⟨r, 3, none⟩) hr).trans d3, (hb.cell (p := ⟨r, 4, none⟩) hr).trans d4, (hb.cell (p := ⟨r, 5, none⟩) hr).trans d5, (hb.cell (p := ⟨r, 6, none⟩) hr).trans d6⟩
section
variable {w : World} {t L V N : Nat}
set_option maxHeartbeats 2000000 in
theorem nw_no (b : Option Addr) (a K : Int) (s : ByteArray) (E : Int) (hE : E ≠ 0) (HN : Calls Try.prog 37 #[.pointer b, .int .u64 a, .int .i64 K, .int .i64 (s.size : Int)] w fun e w' => e = .returned (.tuple #[spotV none 0 0 0, .int .i64 E]) ∧ Below w.heap.size w w') :
    Calls Try.prog 19 #[.pointer b, .int .u64 a, .int .i64 K, .string s] w fun e w' => e = .returned (.tuple #[.pointer none, .int .i64 E]) ∧ Below w.heap.size w w' := by
  have hE' : (E != 0) = true := by rw [bne_iff_ne]; exact hE
  have H := hide HN
  clear HN hE
  unfold spotV at H
  go_enter Try.func19, Try.ntmps19
  go_wp2_with fail
  refine H.out.mono ?_
  rintro e x1 ⟨rfl, b1⟩
  have hb := b1.alloc b1.size (.cells #[.pointer none, .int .u64 0, .int .u64 0, .int .i64 0, .int .i64 0, .int .i64 0, .int .u64 0] 80)
  clear b1
  go_wp2
  go_ret2
  exact ⟨rfl, hb⟩
set_option maxHeartbeats 4000000 in
theorem nw_yes (a K : Int) (s : ByteArray) (hs : s.size ≤ 1000) (HN : Calls Try.prog 37 #[.pointer (some ⟨t, 0, none⟩), .int .u64 a, .int .i64 K, .int .i64 (s.size : Int)] w fun e w' => e = .returned (.tuple #[spotV (some ⟨t, 0, none⟩) L V N, .int .i64 0]) ∧ Below w.heap.size w w') :
    Calls Try.prog 19 #[.pointer (some ⟨t, 0, none⟩), .int .u64 a, .int .i64 K, .string s] w fun e w' => ∃ p g, e = .returned (.tuple #[.pointer (some ⟨p, 0, none⟩), .int .i64 0]) ∧ PwAt w' p (pwV t L V N 0 0 0 (.slice (some ⟨g, 0, none⟩) (wordsFor s.size) (wordsFor s.size)) (.bool false)) ∧
      w'.ownsRow 0 43 1 (.slice (some ⟨g, 0, none⟩) (wordsFor s.size) (wordsFor s.size)) (wordsFor s.size) (uintsN (wordsL s.data.toList (wordsFor s.size))) ∧ g ≠ p ∧ w.heap.size ≤ p ∧ w.heap.size ≤ g ∧ Below w.heap.size w w' := by
  have H := hide HN
  clear HN
  unfold spotV at H
  have HW := hide (fun y => words_any s y (by omega))
  generalize wordsL s.data.toList (wordsFor s.size) = ml at *
  generalize wordsFor s.size = n at *
  go_enter Try.func19, Try.ntmps19
  go_wp2_with fail
  refine H.out.mono ?_
  rintro e x1 ⟨rfl, b1⟩
  have hb := b1.alloc b1.size (.cells #[.pointer (some ⟨t, 0, none⟩), .int .u64 (L : Int), .int .u64 (V : Int), .int .i64 (N : Int), .int .i64 0, .int .i64 0, .int .u64 0] 80)
  have hs1 := b1.size
  have hlt : x1.heap.size < (x1.alloc (.cells #[.pointer (some ⟨t, 0, none⟩), .int .u64 (L : Int), .int .u64 (V : Int), .int .i64 (N : Int), .int .i64 0, .int .i64 0, .int .u64 0] 80)).heap.size := by simp
  have hC : Spot7 (x1.alloc (.cells #[.pointer (some ⟨t, 0, none⟩), .int .u64 (L : Int), .int .u64 (V : Int), .int .i64 (N : Int), .int .i64 0, .int .i64 0, .int .u64 0] 80)) x1.heap.size t L V N := ⟨by simp, by simp, by simp, by simp, by simp, by simp, by simp⟩
  clear b1 H
  go_wp2_with fail
  generalize x1.alloc (.cells #[.pointer (some ⟨t, 0, none⟩), .int .u64 (L : Int), .int .u64 (V : Int), .int .i64 (N : Int), .int .i64 0, .int .i64 0, .int .u64 0] 80) = y0 at *
  generalize x1.heap.size = r at *
  have HC := hide hC
  have hC2 : Spot7 y0 r t L V N := hC
  unfold Spot7 at hC2
  obtain ⟨d0, d1, d2, d3, d4, d5, d6⟩ := hC2
  have HSZ := hide hs1
  have HLT := hide hlt
  clear hC hs1 hlt
  go_region_held3 (fun W => W.cell? ⟨r, 0, none⟩ = some (.pointer (some ⟨t, 0, none⟩)) ∧ W.cell? ⟨r, 1, none⟩ = some (.int .u64 (L : Int)) ∧ W.cell? ⟨r, 2, none⟩ = some (.int .u64 (V : Int)) ∧ W.cell? ⟨r, 3, none⟩ = some (.int .i64 (N : Int)) ∧ W.cell? ⟨r, 4, none⟩ = some (.int .i64 0) ∧ W.cell? ⟨r, 5, none⟩ = some (.int .i64 0) ∧ W.cell? ⟨r, 6, none⟩ = some (.int .u64 0)) (first | assumption | go_keep) (first | (go_at_call 38; refine (HW.out (y0.drewN 1)).mono ?_; rintro e y1 ⟨g, rfl, ho, b2⟩; have q2 : _ ∧ _ ∧ _ ∧ _ ∧ _ ∧ _ ∧ _ := HC.out.below HLT.out ((below_drewN (Below.refl y0.heap.size y0) 1).trans (b2.mono (by simp)))))
  have B1 := hb.trans (((below_drewN (Below.refl y0.heap.size y0) 1).trans (b2.mono (by simp))).mono hb.size)
  have HB := hide (B1.alloc B1.size (.cells #[.pointer (some ⟨t, 0, none⟩), .int .u64 (L : Int), .int .u64 (V : Int), .int .i64 (N : Int), .int .i64 0, .int .i64 0, .int .u64 0, .slice (some ⟨g, 0, none⟩) n n, .bool false] 86))
  have HP := hide (pw_made y1 t L V N (.slice (some ⟨g, 0, none⟩) n n) (.bool false) 86)
  have HO := hide (own_base (base' := 0) (ho.alloc (.cells #[.pointer (some ⟨t, 0, none⟩), .int .u64 (L : Int), .int .u64 (V : Int), .int .i64 (N : Int), .int .i64 0, .int .i64 0, .int .u64 0, .slice (some ⟨g, 0, none⟩) n n, .bool false] 86)) (Nat.zero_le _))
  have hg : (y0.drewN 1).heap.size ≤ g ∧ g < y1.heap.size := ho.lt g rfl
  have hdz : (y0.drewN 1).heap.size = y0.heap.size := by simp
  have hwz := hb.size
  have HG := hide (show g ≠ y1.heap.size ∧ w.heap.size ≤ y1.heap.size ∧ w.heap.size ≤ g from ⟨by omega, B1.size, by omega⟩)
  clear hdz hwz q2 ho b2 B1 hg d0 d1 d2 d3 d4 d5 d6 HC HLT HSZ HW hb
  go_wp2
  go_ret2
  exact ⟨_, _, rfl, HP.out, HO.out, HG.out.1, HG.out.2.1, HG.out.2.2, HB.out⟩
set_option maxHeartbeats 2000000 in
theorem na_no (b : Option Addr) (a K : Int) (n : Nat) (E : Int) (hE : E ≠ 0) (HN : ∀ y, Below w.heap.size w y → Calls Try.prog 37 #[.pointer b, .int .u64 a, .int .i64 K, .int .i64 8] y fun e w' => e = .returned (.tuple #[spotV none 0 0 0, .int .i64 E]) ∧ Below y.heap.size y w') :
    Calls Try.prog 21 #[.pointer b, .int .u64 a, .int .i64 K, .int .u64 (n : Int)] w fun e w' => e = .returned (.tuple #[.pointer none, .int .i64 E]) ∧ Below w.heap.size w w' := by
  have hE' : (E != 0) = true := by rw [bne_iff_ne]; exact hE
  have HV := hide (value_any n w)
  have HW : Hid (∀ y, Below w.heap.size w y → Calls Try.prog 19 #[.pointer b, .int .u64 a, .int .i64 K, .string (valS n)] y fun e w' => e = .returned (.tuple #[.pointer none, .int .i64 E]) ∧ Below y.heap.size y w') := fun y hy => by
    have := HN y hy
    refine nw_no b a K (valS n) E hE ?_
    rw [valS_size]; exact this
  clear HN hE
  generalize valS n = s at *
  go_enter Try.func21, Try.ntmps21
  go_wp2_with fail
  refine HV.out.mono ?_
  rintro e y1 ⟨rfl, b1⟩
  go_wp2_with fail
  refine (HW.out y1 b1).mono ?_
  rintro e y2 ⟨rfl, b2⟩
  have hb := b1.trans (b2.mono b1.size)
  clear b1 b2
  go_wp2
  go_ret2
  exact ⟨rfl, hb⟩
set_option maxHeartbeats 4000000 in
theorem na_yes (a K : Int) (n : Nat) (hn : n < 18446744073709551616) (HN : ∀ y, Below w.heap.size w y → Calls Try.prog 37 #[.pointer (some ⟨t, 0, none⟩), .int .u64 a, .int .i64 K, .int .i64 8] y fun e w' => e = .returned (.tuple #[spotV (some ⟨t, 0, none⟩) L V N, .int .i64 0]) ∧ Below y.heap.size y w') :
    Calls Try.prog 21 #[.pointer (some ⟨t, 0, none⟩), .int .u64 a, .int .i64 K, .int .u64 (n : Int)] w fun e w' => ∃ p g, e = .returned (.tuple #[.pointer (some ⟨p, 0, none⟩), .int .i64 0]) ∧ PwAt w' p (pwV t L V N 0 0 0 (.slice (some ⟨g, 0, none⟩) 1 1) (.bool true)) ∧
      w'.ownsRow 0 43 1 (.slice (some ⟨g, 0, none⟩) 1 1) 1 (uintsN [n]) ∧ g ≠ p ∧ w.heap.size ≤ p ∧ w.heap.size ≤ g ∧ Below w.heap.size w w' := by
  have HV := hide (value_any n w)
  have HW : Hid (∀ y, Below w.heap.size w y → Calls Try.prog 19 #[.pointer (some ⟨t, 0, none⟩), .int .u64 a, .int .i64 K, .string (valS n)] y fun e w' => ∃ p g, e = .returned (.tuple #[.pointer (some ⟨p, 0, none⟩), .int .i64 0]) ∧ PwAt w' p (pwV t L V N 0 0 0 (.slice (some ⟨g, 0, none⟩) 1 1) (.bool false)) ∧
      w'.ownsRow 0 43 1 (.slice (some ⟨g, 0, none⟩) 1 1) 1 (uintsN [n]) ∧ g ≠ p ∧ y.heap.size ≤ p ∧ y.heap.size ≤ g ∧ Below y.heap.size y w') := fun y hy => by
    have h1 := HN y hy
    obtain ⟨e1, e2⟩ := valS_words n hn
    have h2 := nw_yes (w := y) (t := t) (L := L) (V := V) (N := N) a K (valS n) (by rw [valS_size]; decide) (by rw [valS_size]; exact h1)
    rw [e1, e2] at h2
    exact h2
  clear HN hn
  generalize valS n = s at *
  go_enter Try.func21, Try.ntmps21
  go_wp2_with fail
  refine HV.out.mono ?_
  rintro e y1 ⟨rfl, b1⟩
  go_wp2_with fail
  refine (HW.out y1 b1).mono ?_
  rintro e y2 ⟨p, g, rfl, hp, ho, hgp, h1, h2, b2⟩
  have hs := b1.size
  have hb := b1.trans (b2.mono b1.size)
  have f8 := hp.fs 8 (by omega)
  have c8 := hp.c8
  have HP := hide (hp.setAd (.bool true))
  have HO := hide (own_keep ho (one_keeps y2 ⟨p, 8, none⟩ (.bool true)) (fun q hq e => hgp (by cases hq; exact e)))
  have HB := hide (hb.setCell (p := ⟨p, 8, none⟩) (Nat.le_trans hs h1) (.bool true))
  have HG := hide (show g ≠ p ∧ w.heap.size ≤ p ∧ w.heap.size ≤ g from ⟨hgp, Nat.le_trans hs h1, Nat.le_trans hs h2⟩)
  clear hp ho b1 b2 HW HV h1 h2 hs hb hgp
  go_wp2
  go_ret2
  exact ⟨_, _, rfl, HP.out, HO.out, HG.out.1, HG.out.2.1, HG.out.2.2, HB.out⟩
end
end Go.Proofs.Ytikpphbgjbfddaa
namespace Go.Proofs.Ytikpphbgjbfddaa
set_option maxRecDepth 20000
open Go.RowKit
theorem own_made0 (w : World) (N : Nat) (hN : N ≤ 9223372036854775807) : (w.alloc (.cells (madeCells #[.int .u64 0] N) 43)).ownsRow w.heap.size 43 1 (.slice (some ⟨w.heap.size, 0, none⟩) N N) N (uintsN (List.replicate N 0)) := by
  refine ⟨by simp [uintsN], .inr ⟨_, N, madeCells #[.int .u64 0] N, rfl, Nat.le_refl _, heap_alloc_new w _, Nat.le_refl _, by unfold maxLen; exact hN, ?_, ?_⟩⟩
  · rw [← Array.length_toList, toList_madeCells_one]; simp
  · rw [toList_madeCells_one]; simp [uintsN]
section
variable {w : World} {t L V N : Nat}
set_option maxHeartbeats 2000000 in
theorem nr_no (b : Option Addr) (a K n : Int) (E : Int) (hE : E ≠ 0) (HN : Calls Try.prog 37 #[.pointer b, .int .u64 a, .int .i64 K, .int .i64 n] w fun e w' => e = .returned (.tuple #[spotV none 0 0 0, .int .i64 E]) ∧ Below w.heap.size w w') :
    Calls Try.prog 20 #[.pointer b, .int .u64 a, .int .i64 K, .int .i64 n] w fun e w' => e = .returned (.tuple #[.pointer none, .int .i64 E]) ∧ Below w.heap.size w w' := by
  have hE' : (E != 0) = true := by rw [bne_iff_ne]; exact hE
  have H := hide HN
  clear HN hE
  unfold spotV at H
  go_enter Try.func20, Try.ntmps20
  go_wp2_with fail
  refine H.out.mono ?_
  rintro e x1 ⟨rfl, b1⟩
  have hb := b1.alloc b1.size (.cells #[.pointer none, .int .u64 0, .int .u64 0, .int .i64 0, .int .i64 0, .int .i64 0, .int .u64 0] 80)
  clear b1
  go_wp2
  go_ret2
  exact ⟨rfl, hb⟩
set_option maxHeartbeats 4000000 in
theorem nr_yes (a K n : Int) (hN : N ≤ 1000000) (HN : Calls Try.prog 37 #[.pointer (some ⟨t, 0, none⟩), .int .u64 a, .int .i64 K, .int .i64 n] w fun e w' => e = .returned (.tuple #[spotV (some ⟨t, 0, none⟩) L V N, .int .i64 0]) ∧ Below w.heap.size w w') :
    Calls Try.prog 20 #[.pointer (some ⟨t, 0, none⟩), .int .u64 a, .int .i64 K, .int .i64 n] w fun e w' => ∃ p g, e = .returned (.tuple #[.pointer (some ⟨p, 0, none⟩), .int .i64 0]) ∧ PwAt w' p (pwV t L V N 0 0 0 (.slice (some ⟨g, 0, none⟩) N N) (.int .i64 n)) ∧
      w'.ownsRow 0 43 1 (.slice (some ⟨g, 0, none⟩) N N) N (uintsN (List.replicate N 0)) ∧ g ≠ p ∧ w.heap.size ≤ p ∧ w.heap.size ≤ g ∧ Below w.heap.size w w' := by
  have H := hide HN
  clear HN
  unfold spotV at H
  have hmk := run_make_row' (P := Try.prog) 41 43 (.int .u64 0) 8 Try.underlying41 Try.infoU64 rfl .i64 .i64 N (by omega) (by omega)
  have HM := hide (fun w => own_made0 w N (by omega))
  clear hN
  go_enter Try.func20, Try.ntmps20
  go_wp2_with fail
  refine H.out.mono ?_
  rintro e x1 ⟨rfl, b1⟩
  have hb := b1.alloc b1.size (.cells #[.pointer (some ⟨t, 0, none⟩), .int .u64 (L : Int), .int .u64 (V : Int), .int .i64 (N : Int), .int .i64 0, .int .i64 0, .int .u64 0] 80)
  have hs1 := b1.size
  have hC : Spot7 (x1.alloc (.cells #[.pointer (some ⟨t, 0, none⟩), .int .u64 (L : Int), .int .u64 (V : Int), .int .i64 (N : Int), .int .i64 0, .int .i64 0, .int .u64 0] 80)) x1.heap.size t L V N := ⟨by simp, by simp, by simp, by simp, by simp, by simp, by simp⟩
  clear b1 H
  go_wp2_with fail
  generalize x1.alloc (.cells #[.pointer (some ⟨t, 0, none⟩), .int .u64 (L : Int), .int .u64 (V : Int), .int .i64 (N : Int), .int .i64 0, .int .i64 0, .int .u64 0] 80) = y0 at *
  generalize x1.heap.size = r at *
  have hC2 : Spot7 y0 r t L V N := hC
  unfold Spot7 at hC2
  obtain ⟨d0, d1, d2, d3, d4, d5, d6⟩ := hC2
  have e0 := cell_alloc d0 (.cells (madeCells #[.int .u64 0] N) 43)
  have e1 := cell_alloc d1 (.cells (madeCells #[.int .u64 0] N) 43)
  have e2 := cell_alloc d2 (.cells (madeCells #[.int .u64 0] N) 43)
  have e3 := cell_alloc d3 (.cells (madeCells #[.int .u64 0] N) 43)
  have e4 := cell_alloc d4 (.cells (madeCells #[.int .u64 0] N) 43)
  have e5 := cell_alloc d5 (.cells (madeCells #[.int .u64 0] N) 43)
  have e6 := cell_alloc d6 (.cells (madeCells #[.int .u64 0] N) 43)
  clear hC hs1
  go_region
  have hz1 : (y0.alloc (.cells (madeCells #[.int .u64 0] N) 43)).heap.size = y0.heap.size + 1 := by simp
  have P2 := (pw_made (y0.alloc (.cells (madeCells #[.int .u64 0] N) 43)) t L V N (.slice (some ⟨y0.heap.size, 0, none⟩) N N) (.int .i64 n) 82).drewN 1
  rw [hz1] at P2
  have O2 := own_keep (own_base (base' := 0) ((HM.out y0).alloc (.cells #[.pointer (some ⟨t, 0, none⟩), .int .u64 (L : Int), .int .u64 (V : Int), .int .i64 (N : Int), .int .i64 0, .int .i64 0, .int .u64 0, .slice (some ⟨y0.heap.size, 0, none⟩) N N, .int .i64 n] 82)) (Nat.zero_le _)) (Below.keeps (S := fun _ => False) (below_drewN (Below.refl _ _) 1)) (fun _ _ => id)
  have hs0 := hb.size
  have B2 := below_drewN ((hb.alloc hs0 (.cells (madeCells #[.int .u64 0] N) 43)).alloc (by rw [hz1]; omega) (.cells #[.pointer (some ⟨t, 0, none⟩), .int .u64 (L : Int), .int .u64 (V : Int), .int .i64 (N : Int), .int .i64 0, .int .i64 0, .int .u64 0, .slice (some ⟨y0.heap.size, 0, none⟩) N N, .int .i64 n] 82)) 1
  have HP := hide P2
  have HO := hide O2
  have HB := hide B2
  have HG := hide (show y0.heap.size ≠ y0.heap.size + 1 ∧ w.heap.size ≤ y0.heap.size + 1 ∧ w.heap.size ≤ y0.heap.size from ⟨by omega, by omega, hs0⟩)
  clear P2 O2 B2 hs0 hz1 e0 e1 e2 e3 e4 e5 e6 d0 d1 d2 d3 d4 d5 d6 hmk HM hb
  go_wp2
  go_ret2
  exact ⟨_, _, rfl, HP.out, HO.out, HG.out.1, HG.out.2.1, HG.out.2.2, HB.out⟩
end
end Go.Proofs.Ytikpphbgjbfddaa
