/- The walk of the reference's Of. -/
import Derived.Test.YtmjolhmlhdhkfaaRg
namespace Go.Proofs.Ytmjolhmlhdhkfaa
open Go.RowKit
set_option linter.unusedVariables false
set_option maxHeartbeats 1000000 in
theorem rof_few (ao : Option Addr) (n cap : Nat) (w : World) (h : n < 3) :
    Calls Try.prog 15 #[.slice ao n cap] w fun e w' => e = noRec 3 ∧ Below w.heap.size w w' := by
  have hb : Below w.heap.size w (w.alloc (.cells #[.int .u64 0, .bool false, .bool false, .string ⟨#[]⟩, .string ⟨#[]⟩] 26)) := (Below.refl _ w).alloc (Nat.le_refl _) _
  go_enter Try.func15, Try.ntmps15
  go_wp2
  (try simp only [Exit.inBlock, Exit.then])
  refine bodyPost_ret (by simp [results, Try.results15, go_sem]; try rfl) rfl ?_
  exact ⟨rfl, hb⟩
theorem rtold_no (n : Nat) (w : World) (hn : n < 18446744073709551616) (h : toldB n = false) :
    Calls Try.prog 17 #[.int .u64 (n : Int)] w fun e w' => e = .returned (.tuple #[.int .i64 0, .int .i64 0, .int .i64 4]) ∧ w' = w := by
  have := rtold_any n w hn
  rw [if_neg (by rw [h]; decide)] at this
  exact this
theorem rtold_yes (n : Nat) (w : World) (hn : n < 18446744073709551616) (h : toldB n = true) :
    Calls Try.prog 17 #[.int .u64 (n : Int)] w fun e w' => e = .returned (.tuple #[.int .i64 ((n % 65536 : Nat) : Int), .int .i64 ((n / 65536 % 65536 : Nat) : Int), .int .i64 0]) ∧ w' = w := by
  have := rtold_any n w hn
  rw [if_pos h] at this
  exact this
set_option maxHeartbeats 1000000 in
theorem rof_told (b off n cap x : Nat) (w : World) (h : 3 ≤ n) (hc : w.cell? ⟨b, off + 2, none⟩ = some (.int .u64 (x : Int))) (hx : x < 18446744073709551616) (ht : toldB x = false) :
    Calls Try.prog 15 #[.slice (some ⟨b, off, none⟩) n cap] w fun e w' => e = noRec 4 ∧ Below w.heap.size w w' := by
  replace hc := cell_alloc hc (.cells #[.int .u64 0, .bool false, .bool false, .string ⟨#[]⟩, .string ⟨#[]⟩] 26)
  have B5 := hide (Box5.made w (.int .u64 0) (.bool false) (.bool false) (.string ⟨#[]⟩) (.string ⟨#[]⟩) 26)
  have hb : Below w.heap.size w (w.alloc (.cells #[.int .u64 0, .bool false, .bool false, .string ⟨#[]⟩, .string ⟨#[]⟩] 26)) := (Below.refl _ w).alloc (Nat.le_refl _) _
  go_enter Try.func15, Try.ntmps15
  go_wp2_with fail
  refine (rtold_no x _ hx ht).mono ?_
  rintro e x1 ⟨rfl, rfl⟩
  clear hc
  generalize (w.alloc (.cells #[.int .u64 0, .bool false, .bool false, .string ⟨#[]⟩, .string ⟨#[]⟩] 26)) = x1 at *
  obtain ⟨d0, d1, d2, d3, d4, hf⟩ := B5.out
  have f0 := hf 0
  have f1 := hf 1
  have f2 := hf 2
  have f3 := hf 3
  have f4 := hf 4
  go_wp2
  obtain ⟨q0, q1, q2, q3, q4, _⟩ := Box5.set B5.out (.int .u64 0) (.bool false) (.bool false) (.string ⟨#[]⟩) (.string ⟨#[]⟩)
  have hy := below_set5 hb (Nat.le_refl w.heap.size) (.int .u64 0) (.bool false) (.bool false) (.string ⟨#[]⟩) (.string ⟨#[]⟩)
  generalize (((((x1.setCell ⟨w.heap.size, 0, none⟩ (.int .u64 0)).setCell ⟨w.heap.size, 1, none⟩ (.bool false)).setCell ⟨w.heap.size, 2, none⟩ (.bool false)).setCell ⟨w.heap.size, 3, none⟩ (.string ⟨#[]⟩)).setCell ⟨w.heap.size, 4, none⟩ (.string ⟨#[]⟩)) = y at *
  (try simp only [Exit.inBlock, Exit.then])
  refine bodyPost_ret (by simp [results, Try.results15, go_sem, q0, q1, q2, q3, q4]; try rfl) rfl ?_
  exact ⟨rfl, hy⟩
set_option maxHeartbeats 1000000 in
theorem rof_short (b off n cap x : Nat) (w : World) (h : 3 ≤ n) (hc : w.cell? ⟨b, off + 2, none⟩ = some (.int .u64 (x : Int))) (hx : x < 18446744073709551616) (ht : toldB x = true) (hn : n < sizeN (x % 65536) (x / 65536 % 65536)) (hm : n ≤ 1000000) :
    Calls Try.prog 15 #[.slice (some ⟨b, off, none⟩) n cap] w fun e w' => e = noRec 3 ∧ Below w.heap.size w w' := by
  replace hc := cell_alloc hc (.cells #[.int .u64 0, .bool false, .bool false, .string ⟨#[]⟩, .string ⟨#[]⟩] 26)
  have B5 := hide (Box5.made w (.int .u64 0) (.bool false) (.bool false) (.string ⟨#[]⟩) (.string ⟨#[]⟩) 26)
  have hb : Below w.heap.size w (w.alloc (.cells #[.int .u64 0, .bool false, .bool false, .string ⟨#[]⟩, .string ⟨#[]⟩] 26)) := (Below.refl _ w).alloc (Nat.le_refl _) _
  obtain ⟨_, lk, lv⟩ : x / 4294967296 = 44203 ∧ x % 65536 ≤ 64 ∧ x / 65536 % 65536 ≤ 128 := by simpa only [toldB, decide_eq_true_eq] using ht
  have HD := hide (fun w => rtold_yes x w hx ht)
  generalize x % 65536 = K at *
  generalize x / 65536 % 65536 = V at *
  go_enter Try.func15, Try.ntmps15
  go_wp2_with fail
  refine (HD.out _).mono ?_
  rintro e x1 ⟨rfl, rfl⟩
  clear hc
  go_wp2_with fail
  refine (rsize_yes K V _ lk lv).mono ?_
  rintro e x2 ⟨rfl, rfl⟩
  generalize (w.alloc (.cells #[.int .u64 0, .bool false, .bool false, .string ⟨#[]⟩, .string ⟨#[]⟩] 26)) = x2 at *
  obtain ⟨d0, d1, d2, d3, d4, hf⟩ := B5.out
  have f0 := hf 0
  have f1 := hf 1
  have f2 := hf 2
  have f3 := hf 3
  have f4 := hf 4
  go_wp2
  obtain ⟨q0, q1, q2, q3, q4, _⟩ := Box5.set B5.out (.int .u64 0) (.bool false) (.bool false) (.string ⟨#[]⟩) (.string ⟨#[]⟩)
  have hy := below_set5 hb (Nat.le_refl w.heap.size) (.int .u64 0) (.bool false) (.bool false) (.string ⟨#[]⟩) (.string ⟨#[]⟩)
  generalize (((((x2.setCell ⟨w.heap.size, 0, none⟩ (.int .u64 0)).setCell ⟨w.heap.size, 1, none⟩ (.bool false)).setCell ⟨w.heap.size, 2, none⟩ (.bool false)).setCell ⟨w.heap.size, 3, none⟩ (.string ⟨#[]⟩)).setCell ⟨w.heap.size, 4, none⟩ (.string ⟨#[]⟩)) = y at *
  (try simp only [Exit.inBlock, Exit.then])
  refine bodyPost_ret (by simp [results, Try.results15, go_sem, q0, q1, q2, q3, q4]; try rfl) rfl ?_
  exact ⟨rfl, hy⟩
set_option maxRecDepth 10000 in
set_option maxHeartbeats 4000000 in
theorem rof_f (b off n cap x : Nat) (w : World) (h : 3 ≤ n) (hc : w.cell? ⟨b, off + 2, none⟩ = some (.int .u64 (x : Int))) (hx : x < 18446744073709551616) (ht : toldB x = true) (v : Nat → Nat) (hs : Sl .u64 w (some ⟨b, off, none⟩) n (fun j => (v j : Int))) (hv : ∀ j, j < n → v j < 18446744073709551616)
    (hn : sizeN (x % 65536) (x / 65536 % 65536) ≤ n) (hm : n ≤ 100000) (hcap : n ≤ cap) (hcm : cap ≤ 9223372036854775807)
    (p : Nat) (t i : Bool) (f : Int) (hu : ∀ w : World, Calls Try.prog 33 #[.int .u64 (v 0 : Int)] w fun e w' => e = .returned (.tuple #[hdV p t i, .int .i64 f]) ∧ Below w.heap.size w w')
    (a c : Bool) (ha : a = true ↔ Empty (shV v 3) (x % 65536) (wordsFor (x % 65536))) (hcc : c = true ↔ Empty (shV v (3 + wordsFor (x % 65536))) (x / 65536 % 65536) (wordsFor (x / 65536 % 65536))) (s1 s2 : ByteArray)
    (hs1 : s1 = if a then ⟨(bytesL (shV v 3) (x % 65536)).toArray⟩ else ⟨#[]⟩) (hs2 : s2 = if c then ⟨(bytesL (shV v (3 + wordsFor (x % 65536))) (x / 65536 % 65536)).toArray⟩ else ⟨#[]⟩)
    (hz1 : s1.size ≤ 1000000) (hz2 : s2.size ≤ 1000000) (E : Nat) (hE : rightE p t s1.size s2.size = E) (hf0 : (f != 0) = true) :
    Calls Try.prog 15 #[.slice (some ⟨b, off, none⟩) n cap] w fun e w' => e = noRec 4 ∧ Below w.heap.size w w' := by
  have HS := hide hs
  have HV := hide hv
  have HU := hide hu
  have HA := hide ha
  have HC := hide hcc
  have HS1 := hide hs1
  have HS2 := hide hs2
  have HR := hide (fun w => ref_right p t i s1 s2 w hz1 hz2)
  have HE := hide hE
  obtain ⟨_, _, e0, c0⟩ := hs 0 (by omega)
  cases e0
  obtain ⟨_, _, e0, c1⟩ := hs 1 (by omega)
  cases e0
  simp only [Nat.add_zero] at c0
  have hbw : b < w.heap.size := World.block_lt_of_cell? w _ c0
  replace c0 := cell_alloc c0 (.cells #[.int .u64 0, .bool false, .bool false, .string ⟨#[]⟩, .string ⟨#[]⟩] 26)
  replace c1 := cell_alloc c1 (.cells #[.int .u64 0, .bool false, .bool false, .string ⟨#[]⟩, .string ⟨#[]⟩] 26)
  clear hs hv hu ha hcc hs1 hs2 hz1 hz2 hE
  replace hc := cell_alloc hc (.cells #[.int .u64 0, .bool false, .bool false, .string ⟨#[]⟩, .string ⟨#[]⟩] 26)
  have B5 := hide (Box5.made w (.int .u64 0) (.bool false) (.bool false) (.string ⟨#[]⟩) (.string ⟨#[]⟩) 26)
  have hb : Below w.heap.size w (w.alloc (.cells #[.int .u64 0, .bool false, .bool false, .string ⟨#[]⟩, .string ⟨#[]⟩] 26)) := (Below.refl _ w).alloc (Nat.le_refl _) _
  obtain ⟨_, lk, lv⟩ : x / 4294967296 = 44203 ∧ x % 65536 ≤ 64 ∧ x / 65536 % 65536 ≤ 128 := by simpa only [toldB, decide_eq_true_eq] using ht
  have HD := hide (fun w => rtold_yes x w hx ht)
  generalize x % 65536 = K at *
  generalize x / 65536 % 65536 = V at *
  go_enter Try.func15, Try.ntmps15
  go_wp2_with fail
  refine (HD.out _).mono ?_
  rintro e x1 ⟨rfl, rfl⟩
  clear hc
  go_wp2_with fail
  refine (rsize_yes K V _ lk lv).mono ?_
  rintro e x2 ⟨rfl, rfl⟩
  unfold recV hdV at *
  have HN : Hid (sizeN K V = 3 + wordsFor K + wordsFor V) := rfl
  generalize sizeN K V = N at *
  obtain ⟨A, HA2⟩ : ∃ A, Hid (A = 3 + wordsFor K) := ⟨_, rfl⟩
  have hA0 : (3 : Int) + ((K : Int) + 7) / 8 = (A : Int) := by have := HA2.out; unfold wordsFor at this; omega
  have hA3 : A ≤ N := by rw [HA2.out, HN.out]; omega
  have hA4 : 3 ≤ A := by rw [HA2.out]; omega
  go_wp2_with fail
  refine (HU.out _).mono ?_
  rintro e x3 ⟨rfl, b3⟩
  replace B5 := hide (B5.out.below b3)
  replace hb := hb.trans (b3.mono hb.size)
  replace c1 := (b3.cell (p := ⟨b, off + 1, none⟩) (by simp; omega)).trans c1
  have B3 := hide (Box3.made x3 (.int .u64 (p : Int)) (.bool t) (.bool i) 24)
  have ba : Below x3.heap.size x3 (x3.alloc (.cells #[.int .u64 (p : Int), .bool t, .bool i] 24)) := (Below.refl _ _).alloc (Nat.le_refl _) _
  replace B5 := hide (B5.out.below ba)
  replace hb := hb.trans (ba.mono hb.size)
  replace c1 := cell_alloc c1 (.cells #[.int .u64 (p : Int), .bool t, .bool i] 24)
  clear b3 ba c0
  have HW : Hid (wordsFor K = A - 3) := by have := HA2.out; unfold Hid; omega
  have HW2 : Hid (wordsFor V = N - A) := by have := HA2.out; have := HN.out; unfold Hid; omega
  replace HA : Hid (a = true ↔ Empty (shV v 3) K (A - 3)) := by rw [← HW.out]; exact HA
  replace HC : Hid (c = true ↔ Empty (shV v A) V (N - A)) := by rw [← HW2.out, HA2.out]; exact HC
  rw [← HA2.out] at HS2
  have HKA : Hid (K ≤ 8 * (A - 3)) := by have := HW.out; unfold wordsFor at this; unfold Hid; omega
  have HVA : Hid (V ≤ 8 * (N - A)) := by have := HW2.out; unfold wordsFor at this; unfold Hid; omega
  have HV1 : Hid (∀ j, j < A - 3 → shV v 3 j < 18446744073709551616) := fun j hj => HV.out (3 + j) (by omega)
  have HV2 : Hid (∀ j, j < N - A → shV v A j < 18446744073709551616) := fun j hj => HV.out (A + j) (by omega)
  go_wp2_with fail
  all_goals
    refine (text_any _ (A - 3) _ K (shV v 3) a s1 _ (by omega) HKA.out (by first | exact sl_sh (HS.out.below hb) 3 (A - 3) (by omega) | exact fun j hj => absurd hj (by omega)) HV1.out HA.out HS1.out).mono ?_
    rintro e y3 ⟨rfl, b3⟩
    replace B5 := hide (B5.out.below b3)
    replace B3 := hide (B3.out.below b3)
    replace hb := hb.trans (b3.mono hb.size)
    replace c1 := (b3.cell (p := ⟨b, off + 1, none⟩) (World.block_lt_of_cell? _ _ c1)).trans c1
    clear b3
    go_wp2_with fail
    all_goals
      refine (text_any _ (N - A) _ V (shV v A) c s2 _ (by omega) HVA.out (by first | exact sl_sh (HS.out.below hb) A (N - A) (by omega) | exact fun j hj => absurd hj (by omega)) HV2.out HC.out HS2.out).mono ?_
      rintro e y4 ⟨rfl, b4⟩
      replace B5 := hide (B5.out.below b4)
      replace B3 := hide (B3.out.below b4)
      replace hb := hb.trans (b4.mono hb.size)
      replace c1 := (b4.cell (p := ⟨b, off + 1, none⟩) (World.block_lt_of_cell? _ _ c1)).trans c1
      clear b4
      obtain ⟨g0, g1, g2⟩ := B3.out
      have ba : Below y4.heap.size y4 (y4.alloc (.cells #[.int .u64 (p : Int), .bool t, .bool i, .string s1, .string s2] 26)) := (Below.refl _ _).alloc (Nat.le_refl _) _
      have BR := hide (Box5.made y4 (.int .u64 (p : Int)) (.bool t) (.bool i) (.string s1) (.string s2) 26)
      replace B5 := hide (B5.out.below ba)
      replace hb := hb.trans (ba.mono hb.size)
      replace c1 := cell_alloc c1 (.cells #[.int .u64 (p : Int), .bool t, .bool i, .string s1, .string s2] 26)
      clear ba B3
      obtain ⟨d0, d1, d2, d3, d4, hf⟩ := B5.out
      have f0 := hf 0
      have f1 := hf 1
      have f2 := hf 2
      have f3 := hf 3
      have f4 := hf 4
      go_wp2
      obtain ⟨q0, q1, q2, q3, q4, _⟩ := Box5.set B5.out (.int .u64 0) (.bool false) (.bool false) (.string ⟨#[]⟩) (.string ⟨#[]⟩)
      have hy := below_set5 hb (Nat.le_refl w.heap.size) (.int .u64 0) (.bool false) (.bool false) (.string ⟨#[]⟩) (.string ⟨#[]⟩)
      generalize ((((((y4.alloc (.cells #[.int .u64 (p : Int), .bool t, .bool i, .string s1, .string s2] 26)).setCell ⟨w.heap.size, 0, none⟩ (.int .u64 0)).setCell ⟨w.heap.size, 1, none⟩ (.bool false)).setCell ⟨w.heap.size, 2, none⟩ (.bool false)).setCell ⟨w.heap.size, 3, none⟩ (.string ⟨#[]⟩)).setCell ⟨w.heap.size, 4, none⟩ (.string ⟨#[]⟩)) = y at *
      (try simp only [Exit.inBlock, Exit.then])
      refine bodyPost_ret (by simp [results, Try.results15, go_sem, q0, q1, q2, q3, q4]; try rfl) rfl ?_
      exact ⟨rfl, hy⟩
end Go.Proofs.Ytmjolhmlhdhkfaa
