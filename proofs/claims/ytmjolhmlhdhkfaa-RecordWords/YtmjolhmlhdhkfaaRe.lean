/- The walks of record.Head and record.read. -/
import Derived.Test.YtmjolhmlhdhkfaaRd
import Derived.Test.YtmjolhmlhdhkfaaHa
namespace Go.Proofs.Ytmjolhmlhdhkfaa
open Go.RowKit
set_option linter.unusedVariables false
set_option maxHeartbeats 400000 in
theorem head_short (ao : Option Addr) (n cap : Nat) (w : World) (h : n < 3) :
    Calls Try.prog 16 #[.slice ao n cap] w fun e w' => e = .returned (.tuple #[.int .i64 0, .int .i64 0, .int .i64 3]) ∧ w' = w := by
  go_enter Try.func16, Try.ntmps16
  go_wp2
  go_ret3
  exact ⟨rfl, rfl⟩
set_option maxHeartbeats 400000 in
theorem head_yes (b off n cap x : Nat) (w : World) (h : 3 ≤ n) (hc : w.cell? ⟨b, off + 2, none⟩ = some (.int .u64 (x : Int))) (hx : x < 18446744073709551616) (ht : toldB x = true) :
    Calls Try.prog 16 #[.slice (some ⟨b, off, none⟩) n cap] w fun e w' => e = .returned (.tuple #[.int .i64 ((x % 65536 : Nat) : Int), .int .i64 ((x / 65536 % 65536 : Nat) : Int), .int .i64 0]) ∧ Below w.heap.size w w' := by
  go_enter Try.func16, Try.ntmps16
  go_wp2_with fail
  refine (told_yes x _ hx ht).mono ?_
  rintro e x ⟨rfl, b1⟩
  go_wp2
  go_ret3
  exact ⟨rfl, b1⟩
set_option maxHeartbeats 400000 in
theorem head_no (b off n cap x : Nat) (w : World) (h : 3 ≤ n) (hc : w.cell? ⟨b, off + 2, none⟩ = some (.int .u64 (x : Int))) (hx : x < 18446744073709551616) (ht : toldB x = false) :
    Calls Try.prog 16 #[.slice (some ⟨b, off, none⟩) n cap] w fun e w' => e = .returned (.tuple #[.int .i64 0, .int .i64 0, .int .i64 4]) ∧ Below w.heap.size w w' := by
  go_enter Try.func16, Try.ntmps16
  go_wp2_with fail
  refine (told_no x _ hx ht).mono ?_
  rintro e x ⟨rfl, b1⟩
  go_wp2
  go_ret3
  exact ⟨rfl, b1⟩
/-- Words from a place on. -/
def shV (v : Nat → Nat) (a : Nat) : Nat → Nat := fun j => v (a + j)
theorem sl_sh {w : World} {b off n : Nat} {v : Nat → Nat} (h : Sl .u64 w (some ⟨b, off, none⟩) n (fun j => (v j : Int))) (a m : Nat) (hm : a + m ≤ n) : Sl .u64 w (some ⟨b, off + a, none⟩) m (fun j => (shV v a j : Int)) := by
  intro j hj
  obtain ⟨b', off', h1, h2⟩ := h (a + j) (by omega)
  cases h1
  exact ⟨b, off + a, rfl, by rw [Nat.add_assoc]; exact h2⟩
/-- A struct of five cells in a block of its own. -/
def Box5 (y : World) (r : Nat) (a b c d e : Value) : Prop :=
  y.cell? ⟨r, 0, none⟩ = some a ∧ y.cell? ⟨r, 1, none⟩ = some b ∧ y.cell? ⟨r, 2, none⟩ = some c ∧ y.cell? ⟨r, 3, none⟩ = some d ∧ y.cell? ⟨r, 4, none⟩ = some e ∧ ∀ j, y.frozen? ⟨r, j, none⟩ = false
theorem Box5.below {y y' : World} {r : Nat} {a b c d e : Value} (h : Box5 y r a b c d e) (hb : Below y.heap.size y y') : Box5 y' r a b c d e := by
  obtain ⟨h0, h1, h2, h3, h4, hf⟩ := h
  have hr := World.block_lt_of_cell? y _ h0
  refine ⟨?_, ?_, ?_, ?_, ?_, fun j => ?_⟩
  · exact (hb.cell hr).trans h0
  · exact (hb.cell (p := ⟨r, 1, none⟩) hr).trans h1
  · exact (hb.cell (p := ⟨r, 2, none⟩) hr).trans h2
  · exact (hb.cell (p := ⟨r, 3, none⟩) hr).trans h3
  · exact (hb.cell (p := ⟨r, 4, none⟩) hr).trans h4
  · exact (hb.frozen (p := ⟨r, j, none⟩) hr).trans (hf j)
theorem Box5.made (w : World) (a b c d e : Value) (T : TypeId) : Box5 (w.alloc (.cells #[a, b, c, d, e] T)) w.heap.size a b c d e :=
  ⟨by simp, by simp, by simp, by simp, by simp, fun j => by simp⟩
theorem Box5.lt {y : World} {r : Nat} {a b c d e : Value} (h : Box5 y r a b c d e) : r < y.heap.size := World.block_lt_of_cell? y _ h.1
/-- A struct of three cells in a block of its own. -/
def Box3 (y : World) (r : Nat) (a b c : Value) : Prop :=
  y.cell? ⟨r, 0, none⟩ = some a ∧ y.cell? ⟨r, 1, none⟩ = some b ∧ y.cell? ⟨r, 2, none⟩ = some c
theorem Box3.below {y y' : World} {r : Nat} {a b c : Value} (h : Box3 y r a b c) (hb : Below y.heap.size y y') : Box3 y' r a b c := by
  obtain ⟨h0, h1, h2⟩ := h
  have hr := World.block_lt_of_cell? y _ h0
  exact ⟨(hb.cell hr).trans h0, (hb.cell (p := ⟨r, 1, none⟩) hr).trans h1, (hb.cell (p := ⟨r, 2, none⟩) hr).trans h2⟩
theorem Box3.made (w : World) (a b c : Value) (T : TypeId) : Box3 (w.alloc (.cells #[a, b, c] T)) w.heap.size a b c :=
  ⟨by simp, by simp, by simp⟩
theorem cell_set {y : World} {r : Nat} (i j : Nat) {u0 : Value} (u : Value) (h : y.cell? ⟨r, i, none⟩ = some u0) : (y.setCell ⟨r, j, none⟩ u).cell? ⟨r, i, none⟩ = some (if i = j then u else u0) := by
  split
  · rename_i e; subst e; exact World.cell?_setCell_same _ _ _ h
  · rename_i e
    rw [World.cell?_setCell_other _ _ _ _ (fun x => e (by injection x with _ y _; exact y.symm))]; exact h
/-- A struct of five cells, written whole. -/
theorem Box5.set {y : World} {r : Nat} {a b c d e : Value} (h : Box5 y r a b c d e) (a' b' c' d' e' : Value) :
    Box5 (((((y.setCell ⟨r, 0, none⟩ a').setCell ⟨r, 1, none⟩ b').setCell ⟨r, 2, none⟩ c').setCell ⟨r, 3, none⟩ d').setCell ⟨r, 4, none⟩ e') r a' b' c' d' e' := by
  obtain ⟨h0, h1, h2, h3, h4, hf⟩ := h
  refine ⟨?_, ?_, ?_, ?_, ?_, fun j => by simp [hf j]⟩
  · simpa using cell_set 0 4 e' (cell_set 0 3 d' (cell_set 0 2 c' (cell_set 0 1 b' (cell_set 0 0 a' h0))))
  · simpa using cell_set 1 4 e' (cell_set 1 3 d' (cell_set 1 2 c' (cell_set 1 1 b' (cell_set 1 0 a' h1))))
  · simpa using cell_set 2 4 e' (cell_set 2 3 d' (cell_set 2 2 c' (cell_set 2 1 b' (cell_set 2 0 a' h2))))
  · simpa using cell_set 3 4 e' (cell_set 3 3 d' (cell_set 3 2 c' (cell_set 3 1 b' (cell_set 3 0 a' h3))))
  · simpa using cell_set 4 4 e' (cell_set 4 3 d' (cell_set 4 2 c' (cell_set 4 1 b' (cell_set 4 0 a' h4))))
theorem below_set5 {w y : World} {r B : Nat} (h : Below B w y) (hr : B ≤ r) (a' b' c' d' e' : Value) :
    Below B w (((((y.setCell ⟨r, 0, none⟩ a').setCell ⟨r, 1, none⟩ b').setCell ⟨r, 2, none⟩ c').setCell ⟨r, 3, none⟩ d').setCell ⟨r, 4, none⟩ e') :=
  ((((h.setCell hr _).setCell hr _).setCell hr _).setCell hr _).setCell hr _
theorem count_is (n m : Nat) (w : World) (hn : n < 18446744073709551616) (hm : n % 4294967296 = m) :
    Calls Try.prog 42 #[.int .u64 (n : Int)] w fun e w' => e = .returned (.int .u64 (m : Int)) ∧ ∃ k, w' = w.drewN k := hm ▸ count_quiet n w hn
set_option maxHeartbeats 2000000 in
theorem read_run (b off K V cap : Nat) (v : Nat → Nat) (w : World) (hK : K ≤ 64) (hV : V ≤ 128) (hcap : sizeN K V ≤ cap) (hcm : cap ≤ 9223372036854775807)
    (hs : Sl .u64 w (some ⟨b, off, none⟩) (sizeN K V) (fun j => (v j : Int))) (h0 : v 0 < 1125899906842624) (h1 : v 1 < 4294967296) (hk : Empty (shV v 3) K (wordsFor K)) (hv : Empty (shV v (3 + wordsFor K)) V (wordsFor V))
    (p : Nat) (t i : Bool) (s1 s2 : ByteArray) (hp : v 0 % 281474976710656 = p) (ht : tombB (v 0) = t) (hi : invalidB (v 0) = i) (hs1 : ⟨(bytesL (shV v 3) K).toArray⟩ = s1) (hs2 : ⟨(bytesL (shV v (3 + wordsFor K)) V).toArray⟩ = s2) :
    Calls Try.prog 32 #[.slice (some ⟨b, off, none⟩) (sizeN K V) cap, .int .i64 (K : Int), .int .i64 (V : Int)] w fun e w' =>
      e = .returned (.tuple #[recV p t i s1 s2, .int .i64 0]) ∧ Below w.heap.size w w' := by
  have l1 : wordsFor K ≤ 8 := by unfold wordsFor; omega
  have l2 : wordsFor V ≤ 16 := by unfold wordsFor; omega
  have HA : Hid (sizeN K 0 = 3 + wordsFor K) := rfl
  have HK := hide hk
  have HV := hide hv
  have HS := hide hs
  have HP := hide hp
  have HT := hide ht
  have HI := hide hi
  have HS1 := hide hs1
  have HS2 := hide hs2
  have HN : Hid (sizeN K V = 3 + wordsFor K + wordsFor V) := rfl
  have hN3 : 3 + wordsFor K ≤ sizeN K V := by rw [HN.out]; omega
  have hN4 : sizeN K V ≤ 27 := by rw [HN.out]; omega
  generalize sizeN K V = N at *
  obtain ⟨_, _, e0, c0⟩ := hs 0 (by omega)
  cases e0
  obtain ⟨_, _, e0, c1⟩ := hs 1 (by omega)
  cases e0
  simp only [Nat.add_zero] at c0
  have hbw : b < w.heap.size := World.block_lt_of_cell? w _ c0
  replace c0 := cell_alloc c0 (.cells #[.int .u64 0, .bool false, .bool false, .string ⟨#[]⟩, .string ⟨#[]⟩] 26)
  replace c1 := cell_alloc c1 (.cells #[.int .u64 0, .bool false, .bool false, .string ⟨#[]⟩, .string ⟨#[]⟩] 26)
  clear hs hk hv hp ht hi hs1 hs2
  go_enter Try.func32, Try.ntmps32
  go_wp2_with fail
  refine (unpack_yes (v 0) _ h0).mono ?_
  rintro e x1 ⟨rfl, b1⟩
  rw [HP.out, HT.out, HI.out]
  unfold hdV
  have B5 := hide ((Box5.made w (.int .u64 0) (.bool false) (.bool false) (.string ⟨#[]⟩) (.string ⟨#[]⟩) 26).below b1)
  replace c1 := (b1.cell (p := ⟨b, off + 1, none⟩) (by simp; omega)).trans c1
  have hb : Below w.heap.size w x1 := ((Below.refl _ w).alloc (Nat.le_refl _) _).trans (b1.mono (by simp))
  have ba : Below x1.heap.size x1 (x1.alloc (.cells #[.int .u64 (p : Int), .bool t, .bool i] 24)) := (Below.refl _ _).alloc (Nat.le_refl _) _
  replace c1 := cell_alloc c1 (.cells #[.int .u64 (p : Int), .bool t, .bool i] 24)
  have B3 := hide (Box3.made x1 (.int .u64 (p : Int)) (.bool t) (.bool i) 24)
  replace B5 := hide (B5.out.below ba)
  replace hb := hb.trans (ba.mono hb.size)
  clear b1 c0 ba
  have e1 : ((v 1 : Int) != (v 1 : Int)) = false := by simp
  have C1 := hide (fun w => count_is (v 1) (v 1) w (by omega) (Nat.mod_eq_of_lt h1))
  go_wp2_with fail
  go_quiet ((go_at_call 42; exact Calls.quiet_of (C1.out _)))
  have bq := below_drewN (Below.refl (x1.alloc (.cells #[.int .u64 (p : Int), .bool t, .bool i] 24)).heap.size (x1.alloc (.cells #[.int .u64 (p : Int), .bool t, .bool i] 24))) nq
  replace B5 := hide (B5.out.below bq)
  replace B3 := hide (B3.out.below bq)
  replace hb := hb.trans (bq.mono hb.size)
  clear bq c1
  generalize (x1.alloc (.cells #[.int .u64 (p : Int), .bool t, .bool i] 24)).drewN nq = y1 at *
  generalize x1.heap.size = r3 at *
  go_wp2_with fail
  refine (at_yes K _ hK).mono ?_
  rintro e y2 ⟨rfl, b2⟩
  replace B5 := hide (B5.out.below b2)
  replace B3 := hide (B3.out.below b2)
  replace hb := hb.trans (b2.mono hb.size)
  clear b2
  obtain ⟨A, HA2⟩ : ∃ A, Hid (A = 3 + wordsFor K) := ⟨_, rfl⟩
  have hA3 : A ≤ N := by rw [HA2.out]; exact hN3
  have hA4 : 3 ≤ A := by rw [HA2.out]; omega
  have hA5 : A ≤ 11 := by rw [HA2.out]; omega
  rw [HA.out, ← HA2.out]
  have HW : Hid (wordsFor K = A - 3) := by have := HA2.out; unfold Hid; omega
  have HW2 : Hid (wordsFor V = N - A) := by have := HA2.out; have := HN.out; unfold Hid; omega
  replace HK : Hid (Empty (shV v 3) K (A - 3)) := by rw [← HW.out]; exact HK
  replace HV : Hid (Empty (shV v A) V (N - A)) := by rw [← HW2.out, HA2.out]; exact HV
  rw [← HA2.out] at HS2
  clear hN3
  go_wp2_with fail
  all_goals
    refine (bytes_ok _ (A - 3) _ K (shV v 3) _ (by omega) (by first | exact sl_sh (HS.out.below hb) 3 (A - 3) (by omega) | exact fun j hj => absurd hj (by omega)) HW.out HK.out).mono ?_
    rintro e y3 ⟨rfl, b3⟩
    rw [HS1.out]
    replace B5 := hide (B5.out.below b3)
    replace B3 := hide (B3.out.below b3)
    replace hb := hb.trans (b3.mono hb.size)
    clear b3
    go_wp2_with fail
    all_goals
      refine (bytes_ok _ (N - A) _ V (shV v A) _ (by omega) (by first | exact sl_sh (HS.out.below hb) A (N - A) (by omega) | exact fun j hj => absurd hj (by omega)) HW2.out HV.out).mono ?_
      rintro e y4 ⟨rfl, b4⟩
      rw [HS2.out]
      replace B5 := hide (B5.out.below b4)
      replace B3 := hide (B3.out.below b4)
      replace hb := hb.trans (b4.mono hb.size)
      clear b4
      obtain ⟨d0, d1, d2, d3, d4, hf⟩ := B5.out
      have f0 := hf 0
      have f1 := hf 1
      have f2 := hf 2
      have f3 := hf 3
      have f4 := hf 4
      obtain ⟨g0, g1, g2⟩ := B3.out
      go_wp2
      obtain ⟨q0, q1, q2, q3, q4, _⟩ := Box5.set B5.out (.int .u64 (p : Int)) (.bool t) (.bool i) (.string s1) (.string s2)
      have hy := below_set5 hb (Nat.le_refl w.heap.size) (.int .u64 (p : Int)) (.bool t) (.bool i) (.string s1) (.string s2)
      generalize (((((y4.setCell ⟨w.heap.size, 0, none⟩ (.int .u64 (p : Int))).setCell ⟨w.heap.size, 1, none⟩ (.bool t)).setCell ⟨w.heap.size, 2, none⟩ (.bool i)).setCell ⟨w.heap.size, 3, none⟩ (.string s1)).setCell ⟨w.heap.size, 4, none⟩ (.string s2)) = y at *
      (try simp only [Exit.inBlock, Exit.then])
      refine bodyPost_ret (by simp [results, Try.results32, go_sem, q0, q1, q2, q3, q4]; try rfl) rfl ?_
      exact ⟨rfl, hy⟩
set_option maxHeartbeats 2000000 in
theorem read_hd (b off K V cap : Nat) (v : Nat → Nat) (w : World) (hK : K ≤ 64) (hV : V ≤ 128) (hcap : sizeN K V ≤ cap) (hcm : cap ≤ 9223372036854775807)
    (hs : Sl .u64 w (some ⟨b, off, none⟩) (sizeN K V) (fun j => (v j : Int))) (h0 : v 0 < 18446744073709551616) (h1 : v 1 < 18446744073709551616) (h : 1125899906842624 ≤ v 0) :
    Calls Try.prog 32 #[.slice (some ⟨b, off, none⟩) (sizeN K V) cap, .int .i64 (K : Int), .int .i64 (V : Int)] w fun e w' =>
      e = .returned (.tuple #[recV 0 false false ⟨#[]⟩ ⟨#[]⟩, .int .i64 4]) ∧ Below w.heap.size w w' := by
  have l1 : wordsFor K ≤ 8 := by unfold wordsFor; omega
  have l2 : wordsFor V ≤ 16 := by unfold wordsFor; omega
  have HS := hide hs
  have HN : Hid (sizeN K V = 3 + wordsFor K + wordsFor V) := rfl
  have hN3 : 3 + wordsFor K ≤ sizeN K V := by rw [HN.out]; omega
  have hN4 : sizeN K V ≤ 27 := by rw [HN.out]; omega
  generalize sizeN K V = N at *
  obtain ⟨_, _, e0, c0⟩ := hs 0 (by omega)
  cases e0
  obtain ⟨_, _, e0, c1⟩ := hs 1 (by omega)
  cases e0
  simp only [Nat.add_zero] at c0
  have hbw : b < w.heap.size := World.block_lt_of_cell? w _ c0
  replace c0 := cell_alloc c0 (.cells #[.int .u64 0, .bool false, .bool false, .string ⟨#[]⟩, .string ⟨#[]⟩] 26)
  replace c1 := cell_alloc c1 (.cells #[.int .u64 0, .bool false, .bool false, .string ⟨#[]⟩, .string ⟨#[]⟩] 26)
  clear hs c1
  go_enter Try.func32, Try.ntmps32
  go_wp2_with fail
  refine (unpack_no (v 0) _ h0 h).mono ?_
  rintro e x1 ⟨rfl, b1⟩
  unfold hdV
  have B5 := hide ((Box5.made w (.int .u64 0) (.bool false) (.bool false) (.string ⟨#[]⟩) (.string ⟨#[]⟩) 26).below b1)
  have hb : Below w.heap.size w x1 := ((Below.refl _ w).alloc (Nat.le_refl _) _).trans (b1.mono (by simp))
  have ba : Below x1.heap.size x1 (x1.alloc (.cells #[.int .u64 0, .bool false, .bool false] 24)) := (Below.refl _ _).alloc (Nat.le_refl _) _
  replace B5 := hide (B5.out.below ba)
  replace hb := hb.trans (ba.mono hb.size)
  clear b1 c0 ba
  obtain ⟨d0, d1, d2, d3, d4, hf⟩ := B5.out
  have f0 := hf 0
  have f1 := hf 1
  have f2 := hf 2
  have f3 := hf 3
  have f4 := hf 4
  go_wp2
  obtain ⟨q0, q1, q2, q3, q4, _⟩ := Box5.set B5.out (.int .u64 0) (.bool false) (.bool false) (.string ⟨#[]⟩) (.string ⟨#[]⟩)
  have hy := below_set5 hb (Nat.le_refl w.heap.size) (.int .u64 0) (.bool false) (.bool false) (.string ⟨#[]⟩) (.string ⟨#[]⟩)
  generalize ((((((x1.alloc (.cells #[.int .u64 0, .bool false, .bool false] 24)).setCell ⟨w.heap.size, 0, none⟩ (.int .u64 0)).setCell ⟨w.heap.size, 1, none⟩ (.bool false)).setCell ⟨w.heap.size, 2, none⟩ (.bool false)).setCell ⟨w.heap.size, 3, none⟩ (.string ⟨#[]⟩)).setCell ⟨w.heap.size, 4, none⟩ (.string ⟨#[]⟩)) = y at *
  (try simp only [Exit.inBlock, Exit.then])
  refine bodyPost_ret (by simp [results, Try.results32, go_sem, q0, q1, q2, q3, q4]; try rfl) rfl ?_
  exact ⟨rfl, hy⟩
set_option maxHeartbeats 2000000 in
theorem read_lock (b off K V cap : Nat) (v : Nat → Nat) (w : World) (hK : K ≤ 64) (hV : V ≤ 128) (hcap : sizeN K V ≤ cap) (hcm : cap ≤ 9223372036854775807)
    (hs : Sl .u64 w (some ⟨b, off, none⟩) (sizeN K V) (fun j => (v j : Int))) (h0 : v 0 < 18446744073709551616) (h1 : v 1 < 18446744073709551616) (h : v 0 < 1125899906842624) (h2 : 4294967296 ≤ v 1) :
    Calls Try.prog 32 #[.slice (some ⟨b, off, none⟩) (sizeN K V) cap, .int .i64 (K : Int), .int .i64 (V : Int)] w fun e w' =>
      e = .returned (.tuple #[recV 0 false false ⟨#[]⟩ ⟨#[]⟩, .int .i64 4]) ∧ Below w.heap.size w w' := by
  have l1 : wordsFor K ≤ 8 := by unfold wordsFor; omega
  have l2 : wordsFor V ≤ 16 := by unfold wordsFor; omega
  have HS := hide hs
  have HN : Hid (sizeN K V = 3 + wordsFor K + wordsFor V) := rfl
  have hN3 : 3 + wordsFor K ≤ sizeN K V := by rw [HN.out]; omega
  have hN4 : sizeN K V ≤ 27 := by rw [HN.out]; omega
  generalize sizeN K V = N at *
  obtain ⟨_, _, e0, c0⟩ := hs 0 (by omega)
  cases e0
  obtain ⟨_, _, e0, c1⟩ := hs 1 (by omega)
  cases e0
  simp only [Nat.add_zero] at c0
  have hbw : b < w.heap.size := World.block_lt_of_cell? w _ c0
  replace c0 := cell_alloc c0 (.cells #[.int .u64 0, .bool false, .bool false, .string ⟨#[]⟩, .string ⟨#[]⟩] 26)
  replace c1 := cell_alloc c1 (.cells #[.int .u64 0, .bool false, .bool false, .string ⟨#[]⟩, .string ⟨#[]⟩] 26)
  clear hs
  go_enter Try.func32, Try.ntmps32
  go_wp2_with fail
  refine (unpack_yes (v 0) _ h).mono ?_
  rintro e x1 ⟨rfl, b1⟩
  unfold hdV
  generalize v 0 % 281474976710656 = p at *
  generalize tombB (v 0) = t at *
  generalize invalidB (v 0) = i at *
  have B5 := hide ((Box5.made w (.int .u64 0) (.bool false) (.bool false) (.string ⟨#[]⟩) (.string ⟨#[]⟩) 26).below b1)
  replace c1 := (b1.cell (p := ⟨b, off + 1, none⟩) (by simp; omega)).trans c1
  have hb : Below w.heap.size w x1 := ((Below.refl _ w).alloc (Nat.le_refl _) _).trans (b1.mono (by simp))
  have ba : Below x1.heap.size x1 (x1.alloc (.cells #[.int .u64 (p : Int), .bool t, .bool i] 24)) := (Below.refl _ _).alloc (Nat.le_refl _) _
  replace c1 := cell_alloc c1 (.cells #[.int .u64 (p : Int), .bool t, .bool i] 24)
  replace B5 := hide (B5.out.below ba)
  replace hb := hb.trans (ba.mono hb.size)
  clear b1 c0 ba
  obtain ⟨m, HM⟩ : ∃ m, Hid (v 1 % 4294967296 = m) := ⟨_, rfl⟩
  have e1 : ((v 1 : Int) != (m : Int)) = true := by rw [bne_iff_ne]; have := HM.out; omega
  have C1 := hide (fun w => count_is (v 1) m w h1 HM.out)
  go_wp2_with fail
  go_quiet ((go_at_call 42; exact Calls.quiet_of (C1.out _)))
  have bq := below_drewN (Below.refl (x1.alloc (.cells #[.int .u64 (p : Int), .bool t, .bool i] 24)).heap.size (x1.alloc (.cells #[.int .u64 (p : Int), .bool t, .bool i] 24))) nq
  replace B5 := hide (B5.out.below bq)
  replace hb := hb.trans (bq.mono hb.size)
  clear bq c1
  generalize (x1.alloc (.cells #[.int .u64 (p : Int), .bool t, .bool i] 24)).drewN nq = y1 at *
  generalize x1.heap.size = r3 at *
  obtain ⟨d0, d1, d2, d3, d4, hf⟩ := B5.out
  have f0 := hf 0
  have f1 := hf 1
  have f2 := hf 2
  have f3 := hf 3
  have f4 := hf 4
  go_wp2
  obtain ⟨q0, q1, q2, q3, q4, _⟩ := Box5.set B5.out (.int .u64 0) (.bool false) (.bool false) (.string ⟨#[]⟩) (.string ⟨#[]⟩)
  have hy := below_set5 hb (Nat.le_refl w.heap.size) (.int .u64 0) (.bool false) (.bool false) (.string ⟨#[]⟩) (.string ⟨#[]⟩)
  generalize (((((y1.setCell ⟨w.heap.size, 0, none⟩ (.int .u64 0)).setCell ⟨w.heap.size, 1, none⟩ (.bool false)).setCell ⟨w.heap.size, 2, none⟩ (.bool false)).setCell ⟨w.heap.size, 3, none⟩ (.string ⟨#[]⟩)).setCell ⟨w.heap.size, 4, none⟩ (.string ⟨#[]⟩)) = y at *
  (try simp only [Exit.inBlock, Exit.then])
  refine bodyPost_ret (by simp [results, Try.results32, go_sem, q0, q1, q2, q3, q4]; try rfl) rfl ?_
  exact ⟨rfl, hy⟩
set_option maxHeartbeats 2000000 in
theorem read_key (b off K V cap : Nat) (v : Nat → Nat) (w : World) (hK : K ≤ 64) (hV : V ≤ 128) (hcap : sizeN K V ≤ cap) (hcm : cap ≤ 9223372036854775807)
    (hs : Sl .u64 w (some ⟨b, off, none⟩) (sizeN K V) (fun j => (v j : Int))) (h0 : v 0 < 18446744073709551616) (h1 : v 1 < 18446744073709551616) (h : v 0 < 1125899906842624) (h2 : v 1 < 4294967296) (hk : ¬ Empty (shV v 3) K (wordsFor K)) :
    Calls Try.prog 32 #[.slice (some ⟨b, off, none⟩) (sizeN K V) cap, .int .i64 (K : Int), .int .i64 (V : Int)] w fun e w' =>
      e = .returned (.tuple #[recV 0 false false ⟨#[]⟩ ⟨#[]⟩, .int .i64 4]) ∧ Below w.heap.size w w' := by
  have l1 : wordsFor K ≤ 8 := by unfold wordsFor; omega
  have l2 : wordsFor V ≤ 16 := by unfold wordsFor; omega
  have HS := hide hs
  have HN : Hid (sizeN K V = 3 + wordsFor K + wordsFor V) := rfl
  have hN3 : 3 + wordsFor K ≤ sizeN K V := by rw [HN.out]; omega
  have hN4 : sizeN K V ≤ 27 := by rw [HN.out]; omega
  generalize sizeN K V = N at *
  obtain ⟨_, _, e0, c0⟩ := hs 0 (by omega)
  cases e0
  obtain ⟨_, _, e0, c1⟩ := hs 1 (by omega)
  cases e0
  simp only [Nat.add_zero] at c0
  have hbw : b < w.heap.size := World.block_lt_of_cell? w _ c0
  replace c0 := cell_alloc c0 (.cells #[.int .u64 0, .bool false, .bool false, .string ⟨#[]⟩, .string ⟨#[]⟩] 26)
  replace c1 := cell_alloc c1 (.cells #[.int .u64 0, .bool false, .bool false, .string ⟨#[]⟩, .string ⟨#[]⟩] 26)
  have HK := hide hk
  clear hk
  clear hs
  go_enter Try.func32, Try.ntmps32
  go_wp2_with fail
  refine (unpack_yes (v 0) _ h).mono ?_
  rintro e x1 ⟨rfl, b1⟩
  unfold hdV
  generalize v 0 % 281474976710656 = p at *
  generalize tombB (v 0) = t at *
  generalize invalidB (v 0) = i at *
  have B5 := hide ((Box5.made w (.int .u64 0) (.bool false) (.bool false) (.string ⟨#[]⟩) (.string ⟨#[]⟩) 26).below b1)
  replace c1 := (b1.cell (p := ⟨b, off + 1, none⟩) (by simp; omega)).trans c1
  have hb : Below w.heap.size w x1 := ((Below.refl _ w).alloc (Nat.le_refl _) _).trans (b1.mono (by simp))
  have ba : Below x1.heap.size x1 (x1.alloc (.cells #[.int .u64 (p : Int), .bool t, .bool i] 24)) := (Below.refl _ _).alloc (Nat.le_refl _) _
  replace c1 := cell_alloc c1 (.cells #[.int .u64 (p : Int), .bool t, .bool i] 24)
  replace B5 := hide (B5.out.below ba)
  replace hb := hb.trans (ba.mono hb.size)
  clear b1 c0 ba
  have e1 : ((v 1 : Int) != (v 1 : Int)) = false := by simp
  have C1 := hide (fun w => count_is (v 1) (v 1) w (by omega) (Nat.mod_eq_of_lt h2))
  go_wp2_with fail
  go_quiet ((go_at_call 42; exact Calls.quiet_of (C1.out _)))
  have bq := below_drewN (Below.refl (x1.alloc (.cells #[.int .u64 (p : Int), .bool t, .bool i] 24)).heap.size (x1.alloc (.cells #[.int .u64 (p : Int), .bool t, .bool i] 24))) nq
  replace B5 := hide (B5.out.below bq)
  replace hb := hb.trans (bq.mono hb.size)
  clear bq c1
  generalize (x1.alloc (.cells #[.int .u64 (p : Int), .bool t, .bool i] 24)).drewN nq = y1 at *
  generalize x1.heap.size = r3 at *
  go_wp2_with fail
  refine (at_yes K _ hK).mono ?_
  rintro e y2 ⟨rfl, b2⟩
  replace B5 := hide (B5.out.below b2)
  replace hb := hb.trans (b2.mono hb.size)
  clear b2
  obtain ⟨A, HA2⟩ : ∃ A, Hid (A = 3 + wordsFor K) := ⟨_, rfl⟩
  have hA3 : A ≤ N := by rw [HA2.out]; exact hN3
  have hA4 : 3 ≤ A := by rw [HA2.out]; omega
  have hA5 : A ≤ 11 := by rw [HA2.out]; omega
  rw [at_size K, ← HA2.out]
  have HW : Hid (wordsFor K = A - 3) := by have := HA2.out; unfold Hid; omega
  replace HK : Hid (¬ Empty (shV v 3) K (A - 3)) := by rw [← HW.out]; exact HK
  clear hN3
  go_wp2_with fail
  all_goals
    refine (bytes_form _ (A - 3) _ K (shV v 3) _ (by omega) (by omega) (by first | exact sl_sh (HS.out.below hb) 3 (A - 3) (by omega) | exact fun j hj => absurd hj (by omega)) (by rw [HW.out]; exact Nat.le_refl _) (.inr HK.out)).mono ?_
    rintro e y3 ⟨rfl, rfl⟩
    obtain ⟨d0, d1, d2, d3, d4, hf⟩ := B5.out
    have f0 := hf 0
    have f1 := hf 1
    have f2 := hf 2
    have f3 := hf 3
    have f4 := hf 4
    go_wp2
    obtain ⟨q0, q1, q2, q3, q4, _⟩ := Box5.set B5.out (.int .u64 0) (.bool false) (.bool false) (.string ⟨#[]⟩) (.string ⟨#[]⟩)
    have hy := below_set5 hb (Nat.le_refl w.heap.size) (.int .u64 0) (.bool false) (.bool false) (.string ⟨#[]⟩) (.string ⟨#[]⟩)
    generalize (((((y3.setCell ⟨w.heap.size, 0, none⟩ (.int .u64 0)).setCell ⟨w.heap.size, 1, none⟩ (.bool false)).setCell ⟨w.heap.size, 2, none⟩ (.bool false)).setCell ⟨w.heap.size, 3, none⟩ (.string ⟨#[]⟩)).setCell ⟨w.heap.size, 4, none⟩ (.string ⟨#[]⟩)) = y at *
    (try simp only [Exit.inBlock, Exit.then])
    refine bodyPost_ret (by simp [results, Try.results32, go_sem, q0, q1, q2, q3, q4]; try rfl) rfl ?_
    exact ⟨rfl, hy⟩
set_option maxHeartbeats 2000000 in
theorem read_val (b off K V cap : Nat) (v : Nat → Nat) (w : World) (hK : K ≤ 64) (hV : V ≤ 128) (hcap : sizeN K V ≤ cap) (hcm : cap ≤ 9223372036854775807)
    (hs : Sl .u64 w (some ⟨b, off, none⟩) (sizeN K V) (fun j => (v j : Int))) (h0 : v 0 < 18446744073709551616) (h1 : v 1 < 18446744073709551616) (h : v 0 < 1125899906842624) (h2 : v 1 < 4294967296) (hk : Empty (shV v 3) K (wordsFor K)) (hv : ¬ Empty (shV v (3 + wordsFor K)) V (wordsFor V)) :
    Calls Try.prog 32 #[.slice (some ⟨b, off, none⟩) (sizeN K V) cap, .int .i64 (K : Int), .int .i64 (V : Int)] w fun e w' =>
      e = .returned (.tuple #[recV 0 false false ⟨#[]⟩ ⟨#[]⟩, .int .i64 4]) ∧ Below w.heap.size w w' := by
  have l1 : wordsFor K ≤ 8 := by unfold wordsFor; omega
  have l2 : wordsFor V ≤ 16 := by unfold wordsFor; omega
  have HS := hide hs
  have HN : Hid (sizeN K V = 3 + wordsFor K + wordsFor V) := rfl
  have hN3 : 3 + wordsFor K ≤ sizeN K V := by rw [HN.out]; omega
  have hN4 : sizeN K V ≤ 27 := by rw [HN.out]; omega
  generalize sizeN K V = N at *
  obtain ⟨_, _, e0, c0⟩ := hs 0 (by omega)
  cases e0
  obtain ⟨_, _, e0, c1⟩ := hs 1 (by omega)
  cases e0
  simp only [Nat.add_zero] at c0
  have hbw : b < w.heap.size := World.block_lt_of_cell? w _ c0
  replace c0 := cell_alloc c0 (.cells #[.int .u64 0, .bool false, .bool false, .string ⟨#[]⟩, .string ⟨#[]⟩] 26)
  replace c1 := cell_alloc c1 (.cells #[.int .u64 0, .bool false, .bool false, .string ⟨#[]⟩, .string ⟨#[]⟩] 26)
  have HK := hide hk
  have HV := hide hv
  clear hk hv
  clear hs
  go_enter Try.func32, Try.ntmps32
  go_wp2_with fail
  refine (unpack_yes (v 0) _ h).mono ?_
  rintro e x1 ⟨rfl, b1⟩
  unfold hdV
  generalize v 0 % 281474976710656 = p at *
  generalize tombB (v 0) = t at *
  generalize invalidB (v 0) = i at *
  have B5 := hide ((Box5.made w (.int .u64 0) (.bool false) (.bool false) (.string ⟨#[]⟩) (.string ⟨#[]⟩) 26).below b1)
  replace c1 := (b1.cell (p := ⟨b, off + 1, none⟩) (by simp; omega)).trans c1
  have hb : Below w.heap.size w x1 := ((Below.refl _ w).alloc (Nat.le_refl _) _).trans (b1.mono (by simp))
  have ba : Below x1.heap.size x1 (x1.alloc (.cells #[.int .u64 (p : Int), .bool t, .bool i] 24)) := (Below.refl _ _).alloc (Nat.le_refl _) _
  replace c1 := cell_alloc c1 (.cells #[.int .u64 (p : Int), .bool t, .bool i] 24)
  replace B5 := hide (B5.out.below ba)
  replace hb := hb.trans (ba.mono hb.size)
  clear b1 c0 ba
  have e1 : ((v 1 : Int) != (v 1 : Int)) = false := by simp
  have C1 := hide (fun w => count_is (v 1) (v 1) w (by omega) (Nat.mod_eq_of_lt h2))
  go_wp2_with fail
  go_quiet ((go_at_call 42; exact Calls.quiet_of (C1.out _)))
  have bq := below_drewN (Below.refl (x1.alloc (.cells #[.int .u64 (p : Int), .bool t, .bool i] 24)).heap.size (x1.alloc (.cells #[.int .u64 (p : Int), .bool t, .bool i] 24))) nq
  replace B5 := hide (B5.out.below bq)
  replace hb := hb.trans (bq.mono hb.size)
  clear bq c1
  generalize (x1.alloc (.cells #[.int .u64 (p : Int), .bool t, .bool i] 24)).drewN nq = y1 at *
  generalize x1.heap.size = r3 at *
  go_wp2_with fail
  refine (at_yes K _ hK).mono ?_
  rintro e y2 ⟨rfl, b2⟩
  replace B5 := hide (B5.out.below b2)
  replace hb := hb.trans (b2.mono hb.size)
  clear b2
  obtain ⟨A, HA2⟩ : ∃ A, Hid (A = 3 + wordsFor K) := ⟨_, rfl⟩
  have hA3 : A ≤ N := by rw [HA2.out]; exact hN3
  have hA4 : 3 ≤ A := by rw [HA2.out]; omega
  have hA5 : A ≤ 11 := by rw [HA2.out]; omega
  rw [at_size K, ← HA2.out]
  have HW : Hid (wordsFor K = A - 3) := by have := HA2.out; unfold Hid; omega
  have HW2 : Hid (wordsFor V = N - A) := by have := HA2.out; have := HN.out; unfold Hid; omega
  replace HK : Hid (Empty (shV v 3) K (A - 3)) := by rw [← HW.out]; exact HK
  replace HV : Hid (¬ Empty (shV v A) V (N - A)) := by rw [← HW2.out, HA2.out]; exact HV
  clear hN3
  go_wp2_with fail
  all_goals
    refine (bytes_ok _ (A - 3) _ K (shV v 3) _ (by omega) (by first | exact sl_sh (HS.out.below hb) 3 (A - 3) (by omega) | exact fun j hj => absurd hj (by omega)) HW.out HK.out).mono ?_
    rintro e y3 ⟨rfl, b3⟩
    replace B5 := hide (B5.out.below b3)
    replace hb := hb.trans (b3.mono hb.size)
    clear b3
    generalize (⟨(bytesL (shV v 3) K).toArray⟩ : ByteArray) = s1 at *
    go_wp2_with fail
    all_goals
      refine (bytes_form _ (N - A) _ V (shV v A) _ (by omega) (by omega) (by first | exact sl_sh (HS.out.below hb) A (N - A) (by omega) | exact fun j hj => absurd hj (by omega)) (by rw [HW2.out]; exact Nat.le_refl _) (.inr HV.out)).mono ?_
      rintro e y4 ⟨rfl, rfl⟩
      obtain ⟨d0, d1, d2, d3, d4, hf⟩ := B5.out
      have f0 := hf 0
      have f1 := hf 1
      have f2 := hf 2
      have f3 := hf 3
      have f4 := hf 4
      go_wp2
      obtain ⟨q0, q1, q2, q3, q4, _⟩ := Box5.set B5.out (.int .u64 0) (.bool false) (.bool false) (.string ⟨#[]⟩) (.string ⟨#[]⟩)
      have hy := below_set5 hb (Nat.le_refl w.heap.size) (.int .u64 0) (.bool false) (.bool false) (.string ⟨#[]⟩) (.string ⟨#[]⟩)
      generalize (((((y4.setCell ⟨w.heap.size, 0, none⟩ (.int .u64 0)).setCell ⟨w.heap.size, 1, none⟩ (.bool false)).setCell ⟨w.heap.size, 2, none⟩ (.bool false)).setCell ⟨w.heap.size, 3, none⟩ (.string ⟨#[]⟩)).setCell ⟨w.heap.size, 4, none⟩ (.string ⟨#[]⟩)) = y at *
      (try simp only [Exit.inBlock, Exit.then])
      refine bodyPost_ret (by simp [results, Try.results32, go_sem, q0, q1, q2, q3, q4]; try rfl) rfl ?_
      exact ⟨rfl, hy⟩
end Go.Proofs.Ytmjolhmlhdhkfaa
