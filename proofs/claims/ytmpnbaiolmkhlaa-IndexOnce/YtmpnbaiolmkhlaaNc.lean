/- The walks of entry's Unpack, Fresh, To, Has, and of the reference's Pack and Unpack. -/
import Derived.Test.YtmpnbaiolmkhlaaNb
namespace Go.Proofs.Ytmpnbaiolmkhlaa
set_option maxRecDepth 20000
open Go.RowKit
set_option maxHeartbeats 1000000 in
theorem rpackE_let (a t : Nat) (f : Bool) (q1 q2 q3 q4 : Nat) (w : World) (h : entB a t f = true)
    (H1 : (t : Int) * 281474976710656 = (q1 : Int)) (H2 : 9223372036854775808 + (q1 : Int) = (q2 : Int)) (H3 : (q2 : Int) + (a : Int) = (q3 : Int)) (H4 : (q3 : Int) + 4611686018427387904 = (q4 : Int))
    (h1 : q1 < 18446744073709551616) (h2 : q2 < 18446744073709551616) (h3 : q3 < 18446744073709551616) (h4 : q4 < 18446744073709551616) (q : Nat) (HQ : Hid (q = if f then q4 else q3)) :
    Calls Try.prog 72 #[enV a t f] w fun e w' => e = .returned (.tuple #[.int .u64 (q : Int), .int .i64 0]) ∧ Below w.heap.size w w' := by
  unfold enV
  cases f
  · obtain rfl : q = q3 := HQ
    go_enter Try.func72, Try.ntmps72
    go_wp2_with fail
    refine (rright_any a t false _).mono ?_
    rintro e x ⟨rfl, b1⟩
    rw [h]
    obtain ⟨d0, d1, d2⟩ := cell_arg b1
    have hb1 : Below w.heap.size w x := ((Below.refl _ w).alloc (Nat.le_refl _) _).trans (b1.mono (by simp))
    clear b1
    go_wp2
    go_ret2
    exact ⟨rfl, hb1⟩
  · obtain rfl : q = q4 := HQ
    go_enter Try.func72, Try.ntmps72
    go_wp2_with fail
    refine (rright_any a t true _).mono ?_
    rintro e x ⟨rfl, b1⟩
    rw [h]
    obtain ⟨d0, d1, d2⟩ := cell_arg b1
    have hb1 : Below w.heap.size w x := ((Below.refl _ w).alloc (Nat.le_refl _) _).trans (b1.mono (by simp))
    clear b1
    go_wp2
    go_ret2
    exact ⟨rfl, hb1⟩
/-- A struct of three cells, written whole. -/
theorem set_threeE {x : World} {b : Nat} {u0 u1 u2 : Value} (d0 : x.cell? ⟨b, 0, none⟩ = some u0) (d1 : x.cell? ⟨b, 1, none⟩ = some u1) (d2 : x.cell? ⟨b, 2, none⟩ = some u2) (a0 a1 a2 : Value) :
    (((x.setCell ⟨b, 0, none⟩ a0).setCell ⟨b, 1, none⟩ a1).setCell ⟨b, 2, none⟩ a2).cell? ⟨b, 0, none⟩ = some a0 ∧
    (((x.setCell ⟨b, 0, none⟩ a0).setCell ⟨b, 1, none⟩ a1).setCell ⟨b, 2, none⟩ a2).cell? ⟨b, 1, none⟩ = some a1 ∧
    (((x.setCell ⟨b, 0, none⟩ a0).setCell ⟨b, 1, none⟩ a1).setCell ⟨b, 2, none⟩ a2).cell? ⟨b, 2, none⟩ = some a2 := by
  have n01 : (⟨b, 0, none⟩ : Addr) ≠ ⟨b, 1, none⟩ := by simp
  have n02 : (⟨b, 0, none⟩ : Addr) ≠ ⟨b, 2, none⟩ := by simp
  have n12 : (⟨b, 1, none⟩ : Addr) ≠ ⟨b, 2, none⟩ := by simp
  refine ⟨?_, ?_, ?_⟩
  · rw [World.cell?_setCell_other _ _ _ _ (by first | exact n02 | exact n02.symm), World.cell?_setCell_other _ _ _ _ (by first | exact n01 | exact n01.symm)]
    exact World.cell?_setCell_same _ _ _ d0
  · rw [World.cell?_setCell_other _ _ _ _ (by first | exact n12 | exact n12.symm)]
    exact World.cell?_setCell_same _ _ _ (by rw [World.cell?_setCell_other _ _ _ _ (by first | exact n01 | exact n01.symm)]; exact d1)
  · exact World.cell?_setCell_same _ _ _ (by rw [World.cell?_setCell_other _ _ _ _ (by first | exact n12 | exact n12.symm), World.cell?_setCell_other _ _ _ _ (by first | exact n02 | exact n02.symm)]; exact d2)
theorem rpackE_yes (a t : Nat) (f : Bool) (w : World) (h : entB a t f = true) :
    Calls Try.prog 72 #[enV a t f] w fun e w' => e = .returned (.tuple #[.int .u64 (entN a t f : Int), .int .i64 0]) ∧ Below w.heap.size w w' := by
  obtain ⟨ha, ht, _⟩ := entB_iff.1 h
  refine rpackE_let a t f (t * 281474976710656) (9223372036854775808 + t * 281474976710656) (9223372036854775808 + t * 281474976710656 + a) (9223372036854775808 + t * 281474976710656 + a + 4611686018427387904) w h (by omega) (by omega) (by omega) (by omega) (by omega) (by omega) (by omega) (by omega) _ ?_
  show entN a t f = _
  unfold entN
  cases f <;> simp <;> omega
set_option maxHeartbeats 1000000 in
theorem eun_zero (w : World) :
    Calls Try.prog 70 #[.int .u64 0] w fun e w' => e = .returned (.tuple #[enV 0 0 false, .int .i64 7]) ∧ Below w.heap.size w w' := by
  go_enter Try.func70, Try.ntmps70
  go_wp2
  go_returns
  exact ⟨rfl, (Below.refl _ _).alloc (Nat.le_refl _) _⟩
set_option maxHeartbeats 1000000 in
theorem run_zero (w : World) :
    Calls Try.prog 13 #[.int .u64 0] w fun e w' => e = .returned (.tuple #[enV 0 0 false, .int .i64 7]) ∧ Below w.heap.size w w' := by
  go_enter Try.func13, Try.ntmps13
  go_wp2
  go_returns
  exact ⟨rfl, (Below.refl _ _).alloc (Nat.le_refl _) _⟩
set_option maxHeartbeats 1000000 in
theorem eun_low (n a t : Nat) (f : Bool) (w : World) (hn : n < 18446744073709551616) (hz : ((n : Int) == 0) = false)
    (H0 : Hid (getN n (Int.toNat 0) (Int.toNat 48) = a)) (H1 : Hid (getN n (Int.toNat 48) (Int.toNat 14) = t)) (H2 : Hid ((((getI n 62 1 : Nat) : Int) == 1) = f)) (H3 : Hid ((((getI n 63 1 : Nat) : Int) == 1) = false)) :
    Calls Try.prog 70 #[.int .u64 (n : Int)] w fun e w' => e = .returned (.tuple #[enV 0 0 false, .int .i64 4]) ∧ Below w.heap.size w w' := by
  go_enter Try.func70, Try.ntmps70
  go_wp2_with fail
  refine (get_yes _ _ _ _ hn (by decide)).mono ?_
  rintro e x ⟨rfl, b1⟩
  replace b1 := below_drewN' b1
  rw [H0.out]
  go_wp2_with fail
  refine (get_yes _ _ _ _ hn (by decide)).mono ?_
  rintro e x2 ⟨rfl, b2⟩
  replace b2 := below_drewN' b2
  replace b2 := b1.trans (b2.mono b1.size)
  clear b1
  rw [H1.out]
  go_wp2_with fail
  refine (flag_any _ _ _ hn).mono ?_
  rintro e x3 ⟨rfl, b3⟩
  replace b3 := below_drewN' b3
  replace b3 := b2.trans (b3.mono b2.size)
  clear b2
  rw [H2.out]
  obtain ⟨d0, d1, d2⟩ := cell_arg b3
  have hf0 : x3.frozen? ⟨w.heap.size, 0, none⟩ = false := by rw [b3.frozen (by simp)]; simp
  have hf1 : x3.frozen? ⟨w.heap.size, 1, none⟩ = false := by rw [b3.frozen (by simp)]; simp
  have hf2 : x3.frozen? ⟨w.heap.size, 2, none⟩ = false := by rw [b3.frozen (by simp)]; simp
  have hb3 : Below w.heap.size w x3 := ((Below.refl _ w).alloc (Nat.le_refl _) _).trans (b3.mono (by simp))
  have hsz : w.heap.size < x3.heap.size := World.block_lt_of_cell? x3 _ d0
  clear b3
  go_wp2_with fail
  refine (flag_any _ _ _ hn).mono ?_
  rintro e x4 ⟨rfl, b4⟩
  replace b4 := below_drewN' b4
  rw [H3.out]
  obtain ⟨c0, c1, c2⟩ := cell_arg b4
  replace b4 := ((Below.refl _ x3).alloc (Nat.le_refl _) _).trans (b4.mono (by simp))
  replace d0 := (b4.cell hsz).trans d0
  replace d1 := (b4.cell (p := ⟨w.heap.size, 1, none⟩) hsz).trans d1
  replace d2 := (b4.cell (p := ⟨w.heap.size, 2, none⟩) hsz).trans d2
  replace hf0 := (b4.frozen (p := ⟨w.heap.size, 0, none⟩) hsz).trans hf0
  replace hf1 := (b4.frozen (p := ⟨w.heap.size, 1, none⟩) hsz).trans hf1
  replace hf2 := (b4.frozen (p := ⟨w.heap.size, 2, none⟩) hsz).trans hf2
  replace hb3 := hb3.trans (b4.mono hb3.size)
  have hsz3 : x3.heap.size < x4.heap.size := World.block_lt_of_cell? x4 _ c0
  replace hsz := Nat.lt_trans hsz hsz3
  clear b4
  go_wp2
  obtain ⟨s0, s1, s2⟩ := set_threeE d0 d1 d2 (.int .u64 0) (.int .u64 0) (.bool false)
  have hy : Below w.heap.size w (((x4.setCell ⟨w.heap.size, 0, none⟩ (.int .u64 0)).setCell ⟨w.heap.size, 1, none⟩ (.int .u64 0)).setCell ⟨w.heap.size, 2, none⟩ (.bool false)) := ((hb3.setCell (Nat.le_refl _) _).setCell (Nat.le_refl _) _).setCell (Nat.le_refl _) _
  generalize ((x4.setCell ⟨w.heap.size, 0, none⟩ (.int .u64 0)).setCell ⟨w.heap.size, 1, none⟩ (.int .u64 0)).setCell ⟨w.heap.size, 2, none⟩ (.bool false) = y at *
  (try simp only [Exit.inBlock, Exit.then])
  refine bodyPost_ret (by simp [results, Try.results70, go_sem, s0, s1, s2]; try rfl) rfl ?_
  exact ⟨rfl, hy⟩
set_option maxHeartbeats 1000000 in
theorem eun_bad (n a t : Nat) (f : Bool) (w : World) (hn : n < 18446744073709551616) (hz : ((n : Int) == 0) = false)
    (H0 : Hid (getN n (Int.toNat 0) (Int.toNat 48) = a)) (H1 : Hid (getN n (Int.toNat 48) (Int.toNat 14) = t)) (H2 : Hid ((((getI n 62 1 : Nat) : Int) == 1) = f)) (H3 : Hid ((((getI n 63 1 : Nat) : Int) == 1) = true)) (HR : Hid (entB a t f = false)) :
    Calls Try.prog 70 #[.int .u64 (n : Int)] w fun e w' => e = .returned (.tuple #[enV 0 0 false, .int .i64 4]) ∧ Below w.heap.size w w' := by
  go_enter Try.func70, Try.ntmps70
  go_wp2_with fail
  refine (get_yes _ _ _ _ hn (by decide)).mono ?_
  rintro e x ⟨rfl, b1⟩
  replace b1 := below_drewN' b1
  rw [H0.out]
  go_wp2_with fail
  refine (get_yes _ _ _ _ hn (by decide)).mono ?_
  rintro e x2 ⟨rfl, b2⟩
  replace b2 := below_drewN' b2
  replace b2 := b1.trans (b2.mono b1.size)
  clear b1
  rw [H1.out]
  go_wp2_with fail
  refine (flag_any _ _ _ hn).mono ?_
  rintro e x3 ⟨rfl, b3⟩
  replace b3 := below_drewN' b3
  replace b3 := b2.trans (b3.mono b2.size)
  clear b2
  rw [H2.out]
  obtain ⟨d0, d1, d2⟩ := cell_arg b3
  have hf0 : x3.frozen? ⟨w.heap.size, 0, none⟩ = false := by rw [b3.frozen (by simp)]; simp
  have hf1 : x3.frozen? ⟨w.heap.size, 1, none⟩ = false := by rw [b3.frozen (by simp)]; simp
  have hf2 : x3.frozen? ⟨w.heap.size, 2, none⟩ = false := by rw [b3.frozen (by simp)]; simp
  have hb3 : Below w.heap.size w x3 := ((Below.refl _ w).alloc (Nat.le_refl _) _).trans (b3.mono (by simp))
  have hsz : w.heap.size < x3.heap.size := World.block_lt_of_cell? x3 _ d0
  clear b3
  go_wp2_with fail
  refine (flag_any _ _ _ hn).mono ?_
  rintro e x4 ⟨rfl, b4⟩
  replace b4 := below_drewN' b4
  rw [H3.out]
  obtain ⟨c0, c1, c2⟩ := cell_arg b4
  replace b4 := ((Below.refl _ x3).alloc (Nat.le_refl _) _).trans (b4.mono (by simp))
  replace d0 := (b4.cell hsz).trans d0
  replace d1 := (b4.cell (p := ⟨w.heap.size, 1, none⟩) hsz).trans d1
  replace d2 := (b4.cell (p := ⟨w.heap.size, 2, none⟩) hsz).trans d2
  replace hf0 := (b4.frozen (p := ⟨w.heap.size, 0, none⟩) hsz).trans hf0
  replace hf1 := (b4.frozen (p := ⟨w.heap.size, 1, none⟩) hsz).trans hf1
  replace hf2 := (b4.frozen (p := ⟨w.heap.size, 2, none⟩) hsz).trans hf2
  replace hb3 := hb3.trans (b4.mono hb3.size)
  have hsz3 : x3.heap.size < x4.heap.size := World.block_lt_of_cell? x4 _ c0
  replace hsz := Nat.lt_trans hsz hsz3
  clear b4
  go_wp2_with fail
  refine (eright_any a t f _).mono ?_
  rintro e x5 ⟨rfl, b5⟩
  rw [HR.out]
  replace c0 := (b5.cell hsz3).trans c0
  replace c1 := (b5.cell (p := ⟨x3.heap.size, 1, none⟩) hsz3).trans c1
  replace c2 := (b5.cell (p := ⟨x3.heap.size, 2, none⟩) hsz3).trans c2
  replace d0 := (b5.cell hsz).trans d0
  replace d1 := (b5.cell (p := ⟨w.heap.size, 1, none⟩) hsz).trans d1
  replace d2 := (b5.cell (p := ⟨w.heap.size, 2, none⟩) hsz).trans d2
  replace hf0 := (b5.frozen (p := ⟨w.heap.size, 0, none⟩) hsz).trans hf0
  replace hf1 := (b5.frozen (p := ⟨w.heap.size, 1, none⟩) hsz).trans hf1
  replace hf2 := (b5.frozen (p := ⟨w.heap.size, 2, none⟩) hsz).trans hf2
  replace hb3 := hb3.trans (b5.mono hb3.size)
  clear b5
  go_wp2
  obtain ⟨s0, s1, s2⟩ := set_threeE d0 d1 d2 (.int .u64 0) (.int .u64 0) (.bool false)
  have hy : Below w.heap.size w (((x5.setCell ⟨w.heap.size, 0, none⟩ (.int .u64 0)).setCell ⟨w.heap.size, 1, none⟩ (.int .u64 0)).setCell ⟨w.heap.size, 2, none⟩ (.bool false)) := ((hb3.setCell (Nat.le_refl _) _).setCell (Nat.le_refl _) _).setCell (Nat.le_refl _) _
  generalize ((x5.setCell ⟨w.heap.size, 0, none⟩ (.int .u64 0)).setCell ⟨w.heap.size, 1, none⟩ (.int .u64 0)).setCell ⟨w.heap.size, 2, none⟩ (.bool false) = y at *
  (try simp only [Exit.inBlock, Exit.then])
  refine bodyPost_ret (by simp [results, Try.results70, go_sem, s0, s1, s2]; try rfl) rfl ?_
  exact ⟨rfl, hy⟩
set_option maxHeartbeats 1000000 in
theorem eun_yes (n a t : Nat) (f : Bool) (w : World) (hn : n < 18446744073709551616) (hz : ((n : Int) == 0) = false)
    (H0 : Hid (getN n (Int.toNat 0) (Int.toNat 48) = a)) (H1 : Hid (getN n (Int.toNat 48) (Int.toNat 14) = t)) (H2 : Hid ((((getI n 62 1 : Nat) : Int) == 1) = f)) (H3 : Hid ((((getI n 63 1 : Nat) : Int) == 1) = true)) (HR : Hid (entB a t f = true)) :
    Calls Try.prog 70 #[.int .u64 (n : Int)] w fun e w' => e = .returned (.tuple #[enV a t f, .int .i64 0]) ∧ Below w.heap.size w w' := by
  go_enter Try.func70, Try.ntmps70
  go_wp2_with fail
  refine (get_yes _ _ _ _ hn (by decide)).mono ?_
  rintro e x ⟨rfl, b1⟩
  replace b1 := below_drewN' b1
  rw [H0.out]
  go_wp2_with fail
  refine (get_yes _ _ _ _ hn (by decide)).mono ?_
  rintro e x2 ⟨rfl, b2⟩
  replace b2 := below_drewN' b2
  replace b2 := b1.trans (b2.mono b1.size)
  clear b1
  rw [H1.out]
  go_wp2_with fail
  refine (flag_any _ _ _ hn).mono ?_
  rintro e x3 ⟨rfl, b3⟩
  replace b3 := below_drewN' b3
  replace b3 := b2.trans (b3.mono b2.size)
  clear b2
  rw [H2.out]
  obtain ⟨d0, d1, d2⟩ := cell_arg b3
  have hf0 : x3.frozen? ⟨w.heap.size, 0, none⟩ = false := by rw [b3.frozen (by simp)]; simp
  have hf1 : x3.frozen? ⟨w.heap.size, 1, none⟩ = false := by rw [b3.frozen (by simp)]; simp
  have hf2 : x3.frozen? ⟨w.heap.size, 2, none⟩ = false := by rw [b3.frozen (by simp)]; simp
  have hb3 : Below w.heap.size w x3 := ((Below.refl _ w).alloc (Nat.le_refl _) _).trans (b3.mono (by simp))
  have hsz : w.heap.size < x3.heap.size := World.block_lt_of_cell? x3 _ d0
  clear b3
  go_wp2_with fail
  refine (flag_any _ _ _ hn).mono ?_
  rintro e x4 ⟨rfl, b4⟩
  replace b4 := below_drewN' b4
  rw [H3.out]
  obtain ⟨c0, c1, c2⟩ := cell_arg b4
  replace b4 := ((Below.refl _ x3).alloc (Nat.le_refl _) _).trans (b4.mono (by simp))
  replace d0 := (b4.cell hsz).trans d0
  replace d1 := (b4.cell (p := ⟨w.heap.size, 1, none⟩) hsz).trans d1
  replace d2 := (b4.cell (p := ⟨w.heap.size, 2, none⟩) hsz).trans d2
  replace hf0 := (b4.frozen (p := ⟨w.heap.size, 0, none⟩) hsz).trans hf0
  replace hf1 := (b4.frozen (p := ⟨w.heap.size, 1, none⟩) hsz).trans hf1
  replace hf2 := (b4.frozen (p := ⟨w.heap.size, 2, none⟩) hsz).trans hf2
  replace hb3 := hb3.trans (b4.mono hb3.size)
  have hsz3 : x3.heap.size < x4.heap.size := World.block_lt_of_cell? x4 _ c0
  replace hsz := Nat.lt_trans hsz hsz3
  clear b4
  go_wp2_with fail
  refine (eright_any a t f _).mono ?_
  rintro e x5 ⟨rfl, b5⟩
  rw [HR.out]
  replace c0 := (b5.cell hsz3).trans c0
  replace c1 := (b5.cell (p := ⟨x3.heap.size, 1, none⟩) hsz3).trans c1
  replace c2 := (b5.cell (p := ⟨x3.heap.size, 2, none⟩) hsz3).trans c2
  replace d0 := (b5.cell hsz).trans d0
  replace d1 := (b5.cell (p := ⟨w.heap.size, 1, none⟩) hsz).trans d1
  replace d2 := (b5.cell (p := ⟨w.heap.size, 2, none⟩) hsz).trans d2
  replace hf0 := (b5.frozen (p := ⟨w.heap.size, 0, none⟩) hsz).trans hf0
  replace hf1 := (b5.frozen (p := ⟨w.heap.size, 1, none⟩) hsz).trans hf1
  replace hf2 := (b5.frozen (p := ⟨w.heap.size, 2, none⟩) hsz).trans hf2
  replace hb3 := hb3.trans (b5.mono hb3.size)
  clear b5
  go_wp2
  obtain ⟨s0, s1, s2⟩ := set_threeE d0 d1 d2 (.int .u64 (a : Int)) (.int .u64 (t : Int)) (.bool f)
  have hy : Below w.heap.size w (((x5.setCell ⟨w.heap.size, 0, none⟩ (.int .u64 (a : Int))).setCell ⟨w.heap.size, 1, none⟩ (.int .u64 (t : Int))).setCell ⟨w.heap.size, 2, none⟩ (.bool f)) := ((hb3.setCell (Nat.le_refl _) _).setCell (Nat.le_refl _) _).setCell (Nat.le_refl _) _
  generalize ((x5.setCell ⟨w.heap.size, 0, none⟩ (.int .u64 (a : Int))).setCell ⟨w.heap.size, 1, none⟩ (.int .u64 (t : Int))).setCell ⟨w.heap.size, 2, none⟩ (.bool f) = y at *
  (try simp only [Exit.inBlock, Exit.then])
  refine bodyPost_ret (by simp [results, Try.results70, go_sem, s0, s1, s2]; try rfl) rfl ?_
  exact ⟨rfl, hy⟩
end Go.Proofs.Ytmpnbaiolmkhlaa
