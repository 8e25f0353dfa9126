/- The walks of the reference's Unpack. -/
import Derived.Test.YtmpnbaiolmkhlaaNc
namespace Go.Proofs.Ytmpnbaiolmkhlaa
set_option maxRecDepth 20000
open Go.RowKit
set_option maxHeartbeats 1000000 in
theorem run_low (n a q s t : Nat) (w : World) (hz : ((n : Int) == 0) = false)
    (H0 : (n : Int) % 281474976710656 = (a : Int)) (H1 : (n : Int) / 281474976710656 = (q : Int)) (H1' : (IntKind.u64.wrap (q : Int)).tmod 16384 = (t : Int)) (H2 : (n : Int) / 4611686018427387904 = (s : Int)) (H3 : decide ((n : Int) < 9223372036854775808) = true) :
    Calls Try.prog 13 #[.int .u64 (n : Int)] w fun e w' => e = .returned (.tuple #[enV 0 0 false, .int .i64 4]) ∧ Below w.heap.size w w' := by
  go_enter Try.func13, Try.ntmps13
  go_wp2
  go_returns
  exact ⟨rfl, ((Below.refl _ _).alloc (Nat.le_refl _) _).alloc (by simp) _⟩
set_option maxHeartbeats 1000000 in
theorem run_bad (n a q s t : Nat) (f : Bool) (w : World) (hz : ((n : Int) == 0) = false)
    (H0 : (n : Int) % 281474976710656 = (a : Int)) (H1 : (n : Int) / 281474976710656 = (q : Int)) (H1' : (IntKind.u64.wrap (q : Int)).tmod 16384 = (t : Int)) (H2 : (n : Int) / 4611686018427387904 = (s : Int)) (H2' : ((IntKind.u64.wrap (s : Int)).tmod 2 == 1) = f) (H3 : decide ((n : Int) < 9223372036854775808) = false) (HR : Hid (entB a t f = false)) :
    Calls Try.prog 13 #[.int .u64 (n : Int)] w fun e w' => e = .returned (.tuple #[enV 0 0 false, .int .i64 4]) ∧ Below w.heap.size w w' := by
  go_enter Try.func13, Try.ntmps13
  go_wp2_with fail
  refine (rright_any a t f _).mono ?_
  rintro e x5 ⟨rfl, b5⟩
  rw [HR.out]
  obtain ⟨c0, c1, c2⟩ := cell_arg b5
  have e1 : (w.alloc (Obj.cells #[.int .u64 0, .int .u64 0, .bool false] 40)).heap.size = w.heap.size + 1 := by simp
  have hlt : w.heap.size < ((w.alloc (Obj.cells #[.int .u64 0, .int .u64 0, .bool false] 40)).alloc (Obj.cells #[.int .u64 (a : Int), .int .u64 (t : Int), .bool f] 40)).heap.size := by simp; omega
  rw [e1] at c0 c1 c2
  have d0 : x5.cell? ⟨w.heap.size, 0, none⟩ = some (.int .u64 0) := by rw [b5.cell (p := ⟨w.heap.size, 0, none⟩) hlt]; exact cell_alloc (by simp) _
  have d1 : x5.cell? ⟨w.heap.size, 1, none⟩ = some (.int .u64 0) := by rw [b5.cell (p := ⟨w.heap.size, 1, none⟩) hlt]; exact cell_alloc (by simp) _
  have d2 : x5.cell? ⟨w.heap.size, 2, none⟩ = some (.bool false) := by rw [b5.cell (p := ⟨w.heap.size, 2, none⟩) hlt]; exact cell_alloc (by simp) _
  have hf0 : x5.frozen? ⟨w.heap.size, 0, none⟩ = false := by rw [b5.frozen (p := ⟨w.heap.size, 0, none⟩) hlt]; exact frozen_alloc (by simp) (by simp) _
  have hf1 : x5.frozen? ⟨w.heap.size, 1, none⟩ = false := by rw [b5.frozen (p := ⟨w.heap.size, 1, none⟩) hlt]; exact frozen_alloc (by simp) (by simp) _
  have hf2 : x5.frozen? ⟨w.heap.size, 2, none⟩ = false := by rw [b5.frozen (p := ⟨w.heap.size, 2, none⟩) hlt]; exact frozen_alloc (by simp) (by simp) _
  have hb3 : Below w.heap.size w x5 := (((Below.refl _ w).alloc (Nat.le_refl _) _).alloc (by simp) _).trans (b5.mono (by simp; omega))
  clear b5 hlt e1
  go_wp2
  obtain ⟨s0, s1, s2⟩ := set_threeE d0 d1 d2 (.int .u64 0) (.int .u64 0) (.bool false)
  have hy : Below w.heap.size w (((x5.setCell ⟨w.heap.size, 0, none⟩ (.int .u64 0)).setCell ⟨w.heap.size, 1, none⟩ (.int .u64 0)).setCell ⟨w.heap.size, 2, none⟩ (.bool false)) := ((hb3.setCell (Nat.le_refl _) _).setCell (Nat.le_refl _) _).setCell (Nat.le_refl _) _
  generalize ((x5.setCell ⟨w.heap.size, 0, none⟩ (.int .u64 0)).setCell ⟨w.heap.size, 1, none⟩ (.int .u64 0)).setCell ⟨w.heap.size, 2, none⟩ (.bool false) = y at *
  (try simp only [Exit.inBlock, Exit.then])
  refine bodyPost_ret (by simp [results, Try.results13, go_sem, s0, s1, s2]; try rfl) rfl ?_
  exact ⟨rfl, hy⟩
set_option maxHeartbeats 1000000 in
theorem run_yes (n a q s t : Nat) (f : Bool) (w : World) (hz : ((n : Int) == 0) = false)
    (H0 : (n : Int) % 281474976710656 = (a : Int)) (H1 : (n : Int) / 281474976710656 = (q : Int)) (H1' : (IntKind.u64.wrap (q : Int)).tmod 16384 = (t : Int)) (H2 : (n : Int) / 4611686018427387904 = (s : Int)) (H2' : ((IntKind.u64.wrap (s : Int)).tmod 2 == 1) = f) (H3 : decide ((n : Int) < 9223372036854775808) = false) (HR : Hid (entB a t f = true)) :
    Calls Try.prog 13 #[.int .u64 (n : Int)] w fun e w' => e = .returned (.tuple #[enV a t f, .int .i64 0]) ∧ Below w.heap.size w w' := by
  go_enter Try.func13, Try.ntmps13
  go_wp2_with fail
  refine (rright_any a t f _).mono ?_
  rintro e x5 ⟨rfl, b5⟩
  rw [HR.out]
  obtain ⟨c0, c1, c2⟩ := cell_arg b5
  have e1 : (w.alloc (Obj.cells #[.int .u64 0, .int .u64 0, .bool false] 40)).heap.size = w.heap.size + 1 := by simp
  have hlt : w.heap.size < ((w.alloc (Obj.cells #[.int .u64 0, .int .u64 0, .bool false] 40)).alloc (Obj.cells #[.int .u64 (a : Int), .int .u64 (t : Int), .bool f] 40)).heap.size := by simp; omega
  rw [e1] at c0 c1 c2
  have d0 : x5.cell? ⟨w.heap.size, 0, none⟩ = some (.int .u64 0) := by rw [b5.cell (p := ⟨w.heap.size, 0, none⟩) hlt]; exact cell_alloc (by simp) _
  have d1 : x5.cell? ⟨w.heap.size, 1, none⟩ = some (.int .u64 0) := by rw [b5.cell (p := ⟨w.heap.size, 1, none⟩) hlt]; exact cell_alloc (by simp) _
  have d2 : x5.cell? ⟨w.heap.size, 2, none⟩ = some (.bool false) := by rw [b5.cell (p := ⟨w.heap.size, 2, none⟩) hlt]; exact cell_alloc (by simp) _
  have hf0 : x5.frozen? ⟨w.heap.size, 0, none⟩ = false := by rw [b5.frozen (p := ⟨w.heap.size, 0, none⟩) hlt]; exact frozen_alloc (by simp) (by simp) _
  have hf1 : x5.frozen? ⟨w.heap.size, 1, none⟩ = false := by rw [b5.frozen (p := ⟨w.heap.size, 1, none⟩) hlt]; exact frozen_alloc (by simp) (by simp) _
  have hf2 : x5.frozen? ⟨w.heap.size, 2, none⟩ = false := by rw [b5.frozen (p := ⟨w.heap.size, 2, none⟩) hlt]; exact frozen_alloc (by simp) (by simp) _
  have hb3 : Below w.heap.size w x5 := (((Below.refl _ w).alloc (Nat.le_refl _) _).alloc (by simp) _).trans (b5.mono (by simp; omega))
  clear b5 hlt e1
  go_wp2
  obtain ⟨s0, s1, s2⟩ := set_threeE d0 d1 d2 (.int .u64 (a : Int)) (.int .u64 (t : Int)) (.bool f)
  have hy : Below w.heap.size w (((x5.setCell ⟨w.heap.size, 0, none⟩ (.int .u64 (a : Int))).setCell ⟨w.heap.size, 1, none⟩ (.int .u64 (t : Int))).setCell ⟨w.heap.size, 2, none⟩ (.bool f)) := ((hb3.setCell (Nat.le_refl _) _).setCell (Nat.le_refl _) _).setCell (Nat.le_refl _) _
  generalize ((x5.setCell ⟨w.heap.size, 0, none⟩ (.int .u64 (a : Int))).setCell ⟨w.heap.size, 1, none⟩ (.int .u64 (t : Int))).setCell ⟨w.heap.size, 2, none⟩ (.bool f) = y at *
  (try simp only [Exit.inBlock, Exit.then])
  refine bodyPost_ret (by simp [results, Try.results13, go_sem, s0, s1, s2]; try rfl) rfl ?_
  exact ⟨rfl, hy⟩
/-- What Unpack says of a word. -/
structure Reads (n a t : Nat) (f : Bool) (e : Int) : Prop where
  none : n = 0 → a = 0 ∧ t = 0 ∧ f = false ∧ e = 7
  some : n ≠ 0 → (a = 0 ∧ t = 0 ∧ f = false ∧ e = 4) ∨ (e = 0 ∧ entB a t f = true ∧ entN a t f = n)
/-- What a call answers. -/
def Says (f : Nat) (l : Array Value) (e : Ending) : Prop := ∀ w : World, Calls Try.prog f l w fun e' w' => e' = e ∧ Below w.heap.size w w'
theorem get62 (n : Nat) : (((getI n 62 1 : Nat) : Int) == 1) = decide (n / 4611686018427387904 % 2 = 1) := by
  have h : getI n 62 1 = getN n 62 1 := by simp [getI, rightB]
  rw [h]; unfold getN
  rw [show (2 : Nat) ^ 62 = 4611686018427387904 by decide, Bool.eq_iff_iff]
  simp only [beq_iff_eq, decide_eq_true_eq]
  omega
theorem get63 (n : Nat) (hn : n < 18446744073709551616) : (((getI n 63 1 : Nat) : Int) == 1) = decide (9223372036854775808 ≤ n) := by
  have h : getI n 63 1 = getN n 63 1 := by simp [getI, rightB]
  rw [h]; unfold getN
  rw [show (2 : Nat) ^ 63 = 9223372036854775808 by decide, Bool.eq_iff_iff]
  simp only [beq_iff_eq, decide_eq_true_eq]
  omega
theorem get48 (n : Nat) : getN n 0 48 = n % 281474976710656 := by simp [getN]
theorem get14 (n : Nat) : getN n 48 14 = n / 281474976710656 % 16384 := by
  unfold getN
  rw [show (2 : Nat) ^ 48 = 281474976710656 by decide, show (2 : Nat) ^ 14 = 16384 by decide]
theorem tag_ref (n : Nat) (hn : n < 18446744073709551616) : (IntKind.u64.wrap ((n / 281474976710656 : Nat) : Int)).tmod 16384 = ((n / 281474976710656 % 16384 : Nat) : Int) := by
  have h : IntKind.u64.wrap ((n / 281474976710656 : Nat) : Int) = ((n / 281474976710656 : Nat) : Int) := by rw [IntKind.wrap_u64]; omega
  rw [h]; rfl
theorem fresh_ref (n : Nat) (hn : n < 18446744073709551616) : ((IntKind.u64.wrap ((n / 4611686018427387904 : Nat) : Int)).tmod 2 == 1) = decide (n / 4611686018427387904 % 2 = 1) := by
  have h : IntKind.u64.wrap ((n / 4611686018427387904 : Nat) : Int) = ((n / 4611686018427387904 : Nat) : Int) := by rw [IntKind.wrap_u64]; omega
  rw [h, show ((n / 4611686018427387904 : Nat) : Int).tmod 2 = ((n / 4611686018427387904 % 2 : Nat) : Int) from rfl, Bool.eq_iff_iff]
  simp only [beq_iff_eq, decide_eq_true_eq]
  omega
/-- Both read alike. -/
theorem both_reads (n : Nat) (hn : n < 18446744073709551616) : ∃ (a t : Nat) (f : Bool) (e : Int), Reads n a t f e ∧ Says 70 #[.int .u64 (n : Int)] (.returned (.tuple #[enV a t f, .int .i64 e])) ∧ Says 13 #[.int .u64 (n : Int)] (.returned (.tuple #[enV a t f, .int .i64 e])) := by
  by_cases h0 : n = 0
  · subst h0
    exact ⟨0, 0, false, 7, ⟨fun _ => ⟨rfl, rfl, rfl, rfl⟩, fun h => absurd rfl h⟩, fun w => eun_zero w, fun w => run_zero w⟩
  · have hz : ((n : Int) == 0) = false := by rw [beq_eq_false_iff_ne]; omega
    by_cases h1 : 9223372036854775808 ≤ n
    · have g1 := (get63 n hn).trans (decide_eq_true h1)
      have g2 : decide ((n : Int) < 9223372036854775808) = false := by rw [decide_eq_false_iff_not]; omega
      cases hb : entB (n % 281474976710656) (n / 281474976710656 % 16384) (decide (n / 4611686018427387904 % 2 = 1))
      · exact ⟨0, 0, false, 4, ⟨fun h => absurd h h0, fun _ => .inl ⟨rfl, rfl, rfl, rfl⟩⟩, fun w => eun_bad n _ _ _ w hn hz (get48 n) (get14 n) (get62 n) g1 hb,
          fun w => run_bad n (n % 281474976710656) (n / 281474976710656) (n / 4611686018427387904) _ _ w hz (by omega) (by omega) (tag_ref n hn) (by omega) (fresh_ref n hn) g2 hb⟩
      · exact ⟨_, _, _, 0, ⟨fun h => absurd h h0, fun _ => .inr ⟨rfl, hb, entN_of h1 hn⟩⟩, fun w => eun_yes n _ _ _ w hn hz (get48 n) (get14 n) (get62 n) g1 hb,
          fun w => run_yes n (n % 281474976710656) (n / 281474976710656) (n / 4611686018427387904) _ _ w hz (by omega) (by omega) (tag_ref n hn) (by omega) (fresh_ref n hn) g2 hb⟩
    · have g1 := (get63 n hn).trans (decide_eq_false h1)
      have g2 : decide ((n : Int) < 9223372036854775808) = true := by rw [decide_eq_true_eq]; omega
      exact ⟨0, 0, false, 4, ⟨fun h => absurd h h0, fun _ => .inl ⟨rfl, rfl, rfl, rfl⟩⟩, fun w => eun_low n _ _ _ w hn hz (get48 n) (get14 n) (get62 n) g1,
        fun w => run_low n (n % 281474976710656) (n / 281474976710656) (n / 4611686018427387904) _ w hz (by omega) (by omega) (tag_ref n hn) (by omega) g2⟩
/-- Both pack alike. -/
theorem both_packs (a t : Nat) (f : Bool) : ∃ (p : Nat) (e : Int), (entB a t f = true → p = entN a t f ∧ e = 0) ∧ (entB a t f = false → p = 0 ∧ e = 1) ∧ Says 75 #[enV a t f] (.returned (.tuple #[.int .u64 (p : Int), .int .i64 e])) ∧ Says 72 #[enV a t f] (.returned (.tuple #[.int .u64 (p : Int), .int .i64 e])) := by
  cases hb : entB a t f
  · exact ⟨0, 1, fun h => (by cases h), fun _ => ⟨rfl, rfl⟩, fun w => epack_no a t f w hb, fun w => rpackE_no a t f w hb⟩
  · exact ⟨_, 0, fun _ => ⟨rfl, rfl⟩, fun h => (by cases h), fun w => epack_yes a t f w hb, fun w => rpackE_yes a t f w hb⟩
/-- What is packed is read back. -/
theorem pack_reads (a t : Nat) (f : Bool) (h : entB a t f = true) : entN a t f < 18446744073709551616 ∧ Says 70 #[.int .u64 (entN a t f : Int)] (.returned (.tuple #[enV a t f, .int .i64 0])) := by
  obtain ⟨ha, ht, _⟩ := entB_iff.1 h
  obtain ⟨h1, h2⟩ := entN_lt (f := f) ha ht
  refine ⟨h2, ?_⟩
  have hf : decide (entN a t f / 4611686018427387904 % 2 = 1) = f := by
    have := entN_f (f := f) ha ht
    cases f
    · rw [decide_eq_false_iff_not, this]; simp
    · rw [decide_eq_true_eq, this]
  have hz : ((entN a t f : Int) == 0) = false := by rw [beq_eq_false_iff_ne]; omega
  exact fun w => eun_yes _ a t f w h2 hz ((get48 _).trans (entN_a ha)) ((get14 _).trans (entN_t ha ht)) ((get62 _).trans hf) ((get63 _ h2).trans (decide_eq_true h1)) h
end Go.Proofs.Ytmpnbaiolmkhlaa
