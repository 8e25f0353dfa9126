/- The walks of header's Pack and Unpack, and of the reference's. -/
import Derived.Test.YtmjolhmlhdhkfaaWa
import Derived.Test.YtmjolhmlhdhkfaaMj
import Derived.Handy
namespace Go.Proofs.Ytmjolhmlhdhkfaa
open Go.RowKit
/-- A struct of three cells, written whole. -/
theorem set_three {x : World} {b : Nat} {u0 u1 u2 : Value} (d0 : x.cell? ⟨b, 0, none⟩ = some u0) (d1 : x.cell? ⟨b, 1, none⟩ = some u1) (d2 : x.cell? ⟨b, 2, none⟩ = some u2) (a0 a1 a2 : Value) :
    (((x.setCell ⟨b, 0, none⟩ a0).setCell ⟨b, 1, none⟩ a1).setCell ⟨b, 2, none⟩ a2).cell? ⟨b, 0, none⟩ = some a0 ∧
    (((x.setCell ⟨b, 0, none⟩ a0).setCell ⟨b, 1, none⟩ a1).setCell ⟨b, 2, none⟩ a2).cell? ⟨b, 1, none⟩ = some a1 ∧
    (((x.setCell ⟨b, 0, none⟩ a0).setCell ⟨b, 1, none⟩ a1).setCell ⟨b, 2, none⟩ a2).cell? ⟨b, 2, none⟩ = some a2 := by
  have n01 : (⟨b, 0, none⟩ : Addr) ≠ ⟨b, 1, none⟩ := by simp
  have n02 : (⟨b, 0, none⟩ : Addr) ≠ ⟨b, 2, none⟩ := by simp
  have n12 : (⟨b, 1, none⟩ : Addr) ≠ ⟨b, 2, none⟩ := by simp
  refine ⟨?_, ?_, ?_⟩
  · rw [World.cell?_setCell_other _ _ _ _ (by first | exact n02 | exact n02.symm), World.cell?_setCell_other _ _ _ _ (by first | exact n01 | exact n01.symm)]
    exact World.cell?_setCell_same _ _ _ d0
  · rw [World.cell?_setCell_other _ _ _ _ (by first | exact n12 | exact n12.symm)]
    exact World.cell?_setCell_same _ _ _ (by rw [World.cell?_setCell_other _ _ _ _ (by first | exact n01 | exact n01.symm)]; exact d1)
  · exact World.cell?_setCell_same _ _ _ (by rw [World.cell?_setCell_other _ _ _ _ (by first | exact n12 | exact n12.symm), World.cell?_setCell_other _ _ _ _ (by first | exact n02 | exact n02.symm)]; exact d2)
def hdV (p : Nat) (t i : Bool) : Value := .agg #[.int .u64 (p : Int), .bool t, .bool i]
set_option maxHeartbeats 1000000 in
theorem pack_yes (p : Nat) (t i : Bool) (w : World) (hp : p < 281474976710656) :
    Calls Try.prog 25 #[hdV p t i] w fun e w' => e = .returned (.tuple #[.int .u64 (packN p t i : Int), .int .i64 0]) ∧ Below w.heap.size w w' := by
  have H0 : Hid (putN 0 (Int.toNat 0) (Int.toNat 48) p = p) := put_prev p
  have H1 : Hid (setN p 48 t = p + bitN t * T48) := set_tomb p t hp
  have H2 : Hid (setN (p + bitN t * T48) 49 i = packN p t i) := set_invalid p t i hp
  have hb := bitN_le t
  have hq : p + bitN t * T48 < 18446744073709551616 := by unfold T48; omega
  generalize p + bitN t * T48 = q at *
  have hm : p ≤ mostN 48 := by rw [most48]; omega
  unfold hdV
  go_enter Try.func25, Try.ntmps25
  go_wp2_with fail
  refine (put_yes 0 _ _ _ _ (by decide) (by decide) hm).mono ?_
  rintro e x ⟨rfl, b1⟩
  replace b1 := below_drewN' b1
  rw [H0.out]
  obtain ⟨d0, d1, d2⟩ := cell_arg b1
  have hb1 : Below w.heap.size w x := ((Below.refl _ w).alloc (Nat.le_refl _) _).trans (b1.mono (by simp))
  clear b1
  go_wp2_with fail
  refine (set_any p 48 t _ (by omega)).mono ?_
  rintro e x2 ⟨rfl, rfl⟩
  rw [H1.out]
  go_wp2_with fail
  refine (set_any q 49 i _ hq).mono ?_
  rintro e x3 ⟨rfl, rfl⟩
  rw [H2.out]
  go_wp2
  go_ret2
  exact ⟨rfl, hb1⟩
set_option maxHeartbeats 1000000 in
theorem pack_no (p : Nat) (t i : Bool) (w : World) (hp : 281474976710656 ≤ p) :
    Calls Try.prog 25 #[hdV p t i] w fun e w' => e = .returned (.tuple #[.int .u64 0, .int .i64 1]) ∧ Below w.heap.size w w' := by
  have hm : mostN 48 < p := by rw [most48]; omega
  unfold hdV
  go_enter Try.func25, Try.ntmps25
  go_wp2_with fail
  refine (put_over 0 _ _ _ _ (by decide) hm).mono ?_
  rintro e x ⟨rfl, rfl⟩
  have hb1 : Below w.heap.size w (w.alloc (.cells #[.int .u64 (p : Int), .bool t, .bool i] 24)) := (Below.refl _ w).alloc (Nat.le_refl _) _
  go_wp2
  go_ret2
  exact ⟨rfl, hb1⟩
set_option maxHeartbeats 1000000 in
theorem unpack_yes (n : Nat) (w : World) (hn : n < 1125899906842624) :
    Calls Try.prog 41 #[.int .u64 (n : Int)] w fun e w' => e = .returned (.tuple #[hdV (n % 281474976710656) (tombB n) (invalidB n), .int .i64 0]) ∧ Below w.heap.size w w' := by
  have hn' : n < 18446744073709551616 := by omega
  have H0 : Hid (getN n (Int.toNat 0) (Int.toNat 48) = n % 281474976710656) := get_prev n
  have H1 : Hid ((((getI n 48 1 : Nat) : Int) == 1) = tombB n) := get_tomb n
  have H2 : Hid ((((getI n 49 1 : Nat) : Int) == 1) = invalidB n) := get_invalid n
  have HP : Hid (packN (n % 281474976710656) (tombB n) (invalidB n) = n) := (pack_back n).trans (Nat.mod_eq_of_lt hn)
  have hp : n % 281474976710656 < 281474976710656 := Nat.mod_lt _ (by decide)
  generalize n % 281474976710656 = p at *
  generalize tombB n = t at *
  generalize invalidB n = i at *
  go_enter Try.func41, Try.ntmps41
  go_wp2_with fail
  refine (get_yes _ _ _ _ hn' (by decide)).mono ?_
  rintro e x ⟨rfl, b1⟩
  replace b1 := below_drewN' b1
  rw [H0.out]
  go_wp2_with fail
  refine (flag_any _ _ _ hn').mono ?_
  rintro e x2 ⟨rfl, b2⟩
  replace b2 := below_drewN' b2
  replace b2 := b1.trans (b2.mono b1.size)
  clear b1
  rw [H1.out]
  go_wp2_with fail
  refine (flag_any _ _ _ hn').mono ?_
  rintro e x3 ⟨rfl, b3⟩
  replace b3 := below_drewN' b3
  replace b3 := b2.trans (b3.mono b2.size)
  clear b2
  rw [H2.out]
  obtain ⟨d0, d1, d2⟩ := cell_arg b3
  have hf0 : x3.frozen? ⟨w.heap.size, 0, none⟩ = false := by rw [b3.frozen (by simp)]; simp
  have hf1 : x3.frozen? ⟨w.heap.size, 1, none⟩ = false := by rw [b3.frozen (by simp)]; simp
  have hf2 : x3.frozen? ⟨w.heap.size, 2, none⟩ = false := by rw [b3.frozen (by simp)]; simp
  have hb3 : Below w.heap.size w x3 := ((Below.refl _ w).alloc (Nat.le_refl _) _).trans (b3.mono (by simp))
  have hsz : w.heap.size < x3.heap.size := World.block_lt_of_cell? x3 _ d0
  clear b3
  go_wp2_with fail
  refine (pack_yes p t i _ hp).mono ?_
  rintro e x4 ⟨rfl, b4⟩
  rw [HP.out]
  obtain ⟨c0, c1, c2⟩ := cell_arg b4
  replace b4 := ((Below.refl _ x3).alloc (Nat.le_refl _) _).trans (b4.mono (by simp))
  replace d0 := (b4.cell hsz).trans d0
  replace d1 := (b4.cell (p := ⟨w.heap.size, 1, none⟩) hsz).trans d1
  replace d2 := (b4.cell (p := ⟨w.heap.size, 2, none⟩) hsz).trans d2
  replace hf0 := (b4.frozen (p := ⟨w.heap.size, 0, none⟩) hsz).trans hf0
  replace hf1 := (b4.frozen (p := ⟨w.heap.size, 1, none⟩) hsz).trans hf1
  replace hf2 := (b4.frozen (p := ⟨w.heap.size, 2, none⟩) hsz).trans hf2
  replace hb3 := hb3.trans (b4.mono hb3.size)
  clear b4
  go_wp2
  obtain ⟨s0, s1, s2⟩ := set_three d0 d1 d2 (.int .u64 (p : Int)) (.bool t) (.bool i)
  have hy : Below w.heap.size w (((x4.setCell ⟨w.heap.size, 0, none⟩ (.int .u64 (p : Int))).setCell ⟨w.heap.size, 1, none⟩ (.bool t)).setCell ⟨w.heap.size, 2, none⟩ (.bool i)) := ((hb3.setCell (Nat.le_refl _) _).setCell (Nat.le_refl _) _).setCell (Nat.le_refl _) _
  generalize ((x4.setCell ⟨w.heap.size, 0, none⟩ (.int .u64 (p : Int))).setCell ⟨w.heap.size, 1, none⟩ (.bool t)).setCell ⟨w.heap.size, 2, none⟩ (.bool i) = y at *
  (try simp only [Exit.inBlock, Exit.then])
  refine bodyPost_ret (by simp [results, Try.results41, go_sem, s0, s1, s2]; try rfl) rfl ?_
  exact ⟨rfl, hy⟩
set_option maxHeartbeats 1000000 in
theorem unpack_no (n : Nat) (w : World) (hn' : n < 18446744073709551616) (hn : 1125899906842624 ≤ n) :
    Calls Try.prog 41 #[.int .u64 (n : Int)] w fun e w' => e = .returned (.tuple #[hdV 0 false false, .int .i64 4]) ∧ Below w.heap.size w w' := by
  have H0 : Hid (getN n (Int.toNat 0) (Int.toNat 48) = n % 281474976710656) := get_prev n
  have H1 : Hid ((((getI n 48 1 : Nat) : Int) == 1) = tombB n) := get_tomb n
  have H2 : Hid ((((getI n 49 1 : Nat) : Int) == 1) = invalidB n) := get_invalid n
  have HP : ((packN (n % 281474976710656) (tombB n) (invalidB n) : Int) != (n : Int)) = true := by rw [pack_back, bne_iff_ne]; omega
  have hp : n % 281474976710656 < 281474976710656 := Nat.mod_lt _ (by decide)
  generalize n % 281474976710656 = p at *
  generalize tombB n = t at *
  generalize invalidB n = i at *
  go_enter Try.func41, Try.ntmps41
  go_wp2_with fail
  refine (get_yes _ _ _ _ hn' (by decide)).mono ?_
  rintro e x ⟨rfl, b1⟩
  replace b1 := below_drewN' b1
  rw [H0.out]
  go_wp2_with fail
  refine (flag_any _ _ _ hn').mono ?_
  rintro e x2 ⟨rfl, b2⟩
  replace b2 := below_drewN' b2
  replace b2 := b1.trans (b2.mono b1.size)
  clear b1
  rw [H1.out]
  go_wp2_with fail
  refine (flag_any _ _ _ hn').mono ?_
  rintro e x3 ⟨rfl, b3⟩
  replace b3 := below_drewN' b3
  replace b3 := b2.trans (b3.mono b2.size)
  clear b2
  rw [H2.out]
  obtain ⟨d0, d1, d2⟩ := cell_arg b3
  have hf0 : x3.frozen? ⟨w.heap.size, 0, none⟩ = false := by rw [b3.frozen (by simp)]; simp
  have hf1 : x3.frozen? ⟨w.heap.size, 1, none⟩ = false := by rw [b3.frozen (by simp)]; simp
  have hf2 : x3.frozen? ⟨w.heap.size, 2, none⟩ = false := by rw [b3.frozen (by simp)]; simp
  have hb3 : Below w.heap.size w x3 := ((Below.refl _ w).alloc (Nat.le_refl _) _).trans (b3.mono (by simp))
  have hsz : w.heap.size < x3.heap.size := World.block_lt_of_cell? x3 _ d0
  clear b3
  go_wp2_with fail
  refine (pack_yes p t i _ hp).mono ?_
  rintro e x4 ⟨rfl, b4⟩
  obtain ⟨c0, c1, c2⟩ := cell_arg b4
  replace b4 := ((Below.refl _ x3).alloc (Nat.le_refl _) _).trans (b4.mono (by simp))
  replace d0 := (b4.cell hsz).trans d0
  replace d1 := (b4.cell (p := ⟨w.heap.size, 1, none⟩) hsz).trans d1
  replace d2 := (b4.cell (p := ⟨w.heap.size, 2, none⟩) hsz).trans d2
  replace hf0 := (b4.frozen (p := ⟨w.heap.size, 0, none⟩) hsz).trans hf0
  replace hf1 := (b4.frozen (p := ⟨w.heap.size, 1, none⟩) hsz).trans hf1
  replace hf2 := (b4.frozen (p := ⟨w.heap.size, 2, none⟩) hsz).trans hf2
  replace hb3 := hb3.trans (b4.mono hb3.size)
  clear b4
  go_wp2
  obtain ⟨s0, s1, s2⟩ := set_three d0 d1 d2 (.int .u64 0) (.bool false) (.bool false)
  have hy : Below w.heap.size w (((x4.setCell ⟨w.heap.size, 0, none⟩ (.int .u64 0)).setCell ⟨w.heap.size, 1, none⟩ (.bool false)).setCell ⟨w.heap.size, 2, none⟩ (.bool false)) := ((hb3.setCell (Nat.le_refl _) _).setCell (Nat.le_refl _) _).setCell (Nat.le_refl _) _
  generalize ((x4.setCell ⟨w.heap.size, 0, none⟩ (.int .u64 0)).setCell ⟨w.heap.size, 1, none⟩ (.bool false)).setCell ⟨w.heap.size, 2, none⟩ (.bool false) = y at *
  (try simp only [Exit.inBlock, Exit.then])
  refine bodyPost_ret (by simp [results, Try.results41, go_sem, s0, s1, s2]; try rfl) rfl ?_
  exact ⟨rfl, hy⟩
set_option maxHeartbeats 1000000 in
theorem runpack_yes (n : Nat) (w : World) (hn : n < 1125899906842624) :
    Calls Try.prog 33 #[.int .u64 (n : Int)] w fun e w' => e = .returned (.tuple #[hdV (n % 281474976710656) (tombB n) (invalidB n), .int .i64 0]) ∧ Below w.heap.size w w' := by
  have h1 : (n : Int) / 281474976710656 ≤ 3 := by omega
  have h0 : 0 ≤ (n : Int) / 281474976710656 := by omega
  have H1 := hide (tomb_ref n)
  have H2 := hide (invalid_ref n hn)
  have H0 : Hid ((n : Int) % 281474976710656 = ((n % 281474976710656 : Nat) : Int)) := by simp only [Hid]; omega
  generalize n % 281474976710656 = p at *
  generalize tombB n = t at *
  generalize invalidB n = i at *
  go_enter Try.func33, Try.ntmps33
  go_wp2
  go_returns
  exact ⟨by rw [H0.out, H1.out, H2.out]; rfl, (Below.refl _ _).alloc (Nat.le_refl _) _⟩
theorem runpack_no (n : Nat) (w : World) (hn : n < 18446744073709551616) (h : 1125899906842624 ≤ n) :
    Calls Try.prog 33 #[.int .u64 (n : Int)] w fun e w' => e = .returned (.tuple #[hdV 0 false false, .int .i64 4]) ∧ Below w.heap.size w w' := by
  have h1 : 3 < (n : Int) / 281474976710656 := by omega
  unfold hdV
  go_enter Try.func33, Try.ntmps33
  go_wp2
  go_returns
  exact ⟨rfl, (Below.refl _ _).alloc (Nat.le_refl _) _⟩
set_option maxHeartbeats 1000000 in
theorem rpack_yes (p : Nat) (t i : Bool) (w : World) (hp : p < 281474976710656) :
    Calls Try.prog 28 #[hdV p t i] w fun e w' => e = .returned (.tuple #[.int .u64 (packN p t i : Int), .int .i64 0]) ∧ Below w.heap.size w w' := by
  have hp' : (p : Int) < 281474976710656 := by omega
  obtain ⟨A, hA⟩ : ∃ A : Nat, (p : Int) + 281474976710656 = (A : Int) := ⟨p + 281474976710656, by omega⟩
  obtain ⟨B, hB⟩ : ∃ B : Nat, (p : Int) + 562949953421312 = (B : Int) := ⟨p + 562949953421312, by omega⟩
  obtain ⟨C, hC⟩ : ∃ C : Nat, (A : Int) + 562949953421312 = (C : Int) := ⟨A + 562949953421312, by omega⟩
  have l1 : A < 1125899906842624 := by omega
  have l2 : B < 1125899906842624 := by omega
  have l3 : C < 1125899906842624 := by omega
  have H0 : Hid ((packN p false false : Int) = p) := by simp only [Hid, packN, bitN, T48, Bool.false_eq_true, if_false]; omega
  have H1 : Hid ((packN p true false : Int) = A) := by simp only [Hid, packN, bitN, T48, Bool.false_eq_true, if_false, if_true]; omega
  have H2 : Hid ((packN p false true : Int) = B) := by simp only [Hid, packN, bitN, T48, Bool.false_eq_true, if_false, if_true]; omega
  have H3 : Hid ((packN p true true : Int) = C) := by simp only [Hid, packN, bitN, T48, if_true]; omega
  have hd : decide (281474976710656 ≤ (p : Int)) = false := by rw [decide_eq_false_iff_not]; omega
  clear hp hp'
  unfold hdV
  cases t <;> cases i
  all_goals
    go_enter Try.func28, Try.ntmps28
    go_wp2
    go_ret2
    exact ⟨ret_two (by first | exact H0.out.symm | exact H1.out.symm | exact H2.out.symm | exact H3.out.symm) rfl, (Below.refl _ _).alloc (Nat.le_refl _) _⟩
set_option maxHeartbeats 1000000 in
theorem rpack_no (p : Nat) (t i : Bool) (w : World) (hp : 281474976710656 ≤ p) :
    Calls Try.prog 28 #[hdV p t i] w fun e w' => e = .returned (.tuple #[.int .u64 0, .int .i64 1]) ∧ Below w.heap.size w w' := by
  have hp' : 281474976710656 ≤ (p : Int) := by omega
  clear hp
  unfold hdV
  go_enter Try.func28, Try.ntmps28
  go_wp2
  go_ret2
  exact ⟨rfl, (Below.refl _ _).alloc (Nat.le_refl _) _⟩
end Go.Proofs.Ytmjolhmlhdhkfaa
