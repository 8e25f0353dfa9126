/- Parts of the proof: Bi. -/
import Derived.Test.YtikpphbgjbfddaaJ46
import Derived.Deep.OwnRows
namespace Go.Proofs.Ytikpphbgjbfddaa
set_option maxRecDepth 20000
open Go.RowKit
theorem own_made0 (w : World) (N : Nat) (hN : N ≤ 9223372036854775807) : (w.alloc (.cells (madeCells #[.int .u64 0] N) 43)).ownsRow w.heap.size 43 1 (.slice (some ⟨w.heap.size, 0, none⟩) N N) N (uintsN (List.replicate N 0)) := by
  refine ⟨by simp [uintsN], .inr ⟨_, N, madeCells #[.int .u64 0] N, rfl, Nat.le_refl _, heap_alloc_new w _, Nat.le_refl _, by unfold maxLen; exact hN, ?_, ?_⟩⟩
  · rw [← Array.length_toList, toList_madeCells_one]; simp
  · rw [toList_madeCells_one]; simp [uintsN]
section
variable {w : World} {t L V N : Nat}
set_option maxHeartbeats 2000000 in
theorem nr_no (b : Option Addr) (a K n : Int) (E : Int) (hE : E ≠ 0) (HN : Calls Try.prog 37 #[.pointer b, .int .u64 a, .int .i64 K, .int .i64 n] w fun e w' => e = .returned (.tuple #[spotV none 0 0 0, .int .i64 E]) ∧ Below w.heap.size w w') :
    Calls Try.prog 20 #[.pointer b, .int .u64 a, .int .i64 K, .int .i64 n] w fun e w' => e = .returned (.tuple #[.pointer none, .int .i64 E]) ∧ Below w.heap.size w w' := by
  have hE' : (E != 0) = true := by rw [bne_iff_ne]; exact hE
  have H := hide HN
  clear HN hE
  unfold spotV at H
  go_enter Try.func20, Try.ntmps20
  go_wp2_with fail
  refine H.out.mono ?_
  rintro e x1 ⟨rfl, b1⟩
  have hb := b1.alloc b1.size (.cells #[.pointer none, .int .u64 0, .int .u64 0, .int .i64 0, .int .i64 0, .int .i64 0, .int .u64 0] 80)
  clear b1
  go_wp2
  go_ret2
  exact ⟨rfl, hb⟩
set_option maxHeartbeats 4000000 in
theorem nr_yes (a K n : Int) (hN : N ≤ 1000000) (HN : Calls Try.prog 37 #[.pointer (some ⟨t, 0, none⟩), .int .u64 a, .int .i64 K, .int .i64 n] w fun e w' => e = .returned (.tuple #[spotV (some ⟨t, 0, none⟩) L V N, .int .i64 0]) ∧ Below w.heap.size w w') :
    Calls Try.prog 20 #[.pointer (some ⟨t, 0, none⟩), .int .u64 a, .int .i64 K, .int .i64 n] w fun e w' => ∃ p g, e = .returned (.tuple #[.pointer (some ⟨p, 0, none⟩), .int .i64 0]) ∧ PwAt w' p (pwV t L V N 0 0 0 (.slice (some ⟨g, 0, none⟩) N N) (.int .i64 n)) ∧
      w'.ownsRow 0 43 1 (.slice (some ⟨g, 0, none⟩) N N) N (uintsN (List.replicate N 0)) ∧ g ≠ p ∧ w.heap.size ≤ p ∧ w.heap.size ≤ g ∧ Below w.heap.size w w' := by
  have H := hide HN
  clear HN
  unfold spotV at H
  have hmk := run_make_row' (P := Try.prog) 41 43 (.int .u64 0) 8 Try.underlying41 Try.infoU64 rfl .i64 .i64 N (by omega) (by omega)
  have HM := hide (fun w => own_made0 w N (by omega))
  clear hN
  go_enter Try.func20, Try.ntmps20
  go_wp2_with fail
  refine H.out.mono ?_
  rintro e x1 ⟨rfl, b1⟩
  have hb := b1.alloc b1.size (.cells #[.pointer (some ⟨t, 0, none⟩), .int .u64 (L : Int), .int .u64 (V : Int), .int .i64 (N : Int), .int .i64 0, .int .i64 0, .int .u64 0] 80)
  have hs1 := b1.size
  have hC : Spot7 (x1.alloc (.cells #[.pointer (some ⟨t, 0, none⟩), .int .u64 (L : Int), .int .u64 (V : Int), .int .i64 (N : Int), .int .i64 0, .int .i64 0, .int .u64 0] 80)) x1.heap.size t L V N := ⟨by simp, by simp, by simp, by simp, by simp, by simp, by simp⟩
  clear b1 H
  go_wp2_with fail
  generalize x1.alloc (.cells #[.pointer (some ⟨t, 0, none⟩), .int .u64 (L : Int), .int .u64 (V : Int), .int .i64 (N : Int), .int .i64 0, .int .i64 0, .int .u64 0] 80) = y0 at *
  generalize x1.heap.size = r at *
  have hC2 : Spot7 y0 r t L V N := hC
  unfold Spot7 at hC2
  obtain ⟨d0, d1, d2, d3, d4, d5, d6⟩ := hC2
  have e0 := cell_alloc d0 (.cells (madeCells #[.int .u64 0] N) 43)
  have e1 := cell_alloc d1 (.cells (madeCells #[.int .u64 0] N) 43)
  have e2 := cell_alloc d2 (.cells (madeCells #[.int .u64 0] N) 43)
  have e3 := cell_alloc d3 (.cells (madeCells #[.int .u64 0] N) 43)
  have e4 := cell_alloc d4 (.cells (madeCells #[.int .u64 0] N) 43)
  have e5 := cell_alloc d5 (.cells (madeCells #[.int .u64 0] N) 43)
  have e6 := cell_alloc d6 (.cells (madeCells #[.int .u64 0] N) 43)
  clear hC hs1
  go_region
  have hz1 : (y0.alloc (.cells (madeCells #[.int .u64 0] N) 43)).heap.size = y0.heap.size + 1 := by simp
  have P2 := (pw_made (y0.alloc (.cells (madeCells #[.int .u64 0] N) 43)) t L V N (.slice (some ⟨y0.heap.size, 0, none⟩) N N) (.int .i64 n) 82).drewN 1
  rw [hz1] at P2
  have O2 := own_keep (own_base (base' := 0) ((HM.out y0).alloc (.cells #[.pointer (some ⟨t, 0, none⟩), .int .u64 (L : Int), .int .u64 (V : Int), .int .i64 (N : Int), .int .i64 0, .int .i64 0, .int .u64 0, .slice (some ⟨y0.heap.size, 0, none⟩) N N, .int .i64 n] 82)) (Nat.zero_le _)) (Below.keeps (S := fun _ => False) (below_drewN (Below.refl _ _) 1)) (fun _ _ => id)
  have hs0 := hb.size
  have B2 := below_drewN ((hb.alloc hs0 (.cells (madeCells #[.int .u64 0] N) 43)).alloc (by rw [hz1]; omega) (.cells #[.pointer (some ⟨t, 0, none⟩), .int .u64 (L : Int), .int .u64 (V : Int), .int .i64 (N : Int), .int .i64 0, .int .i64 0, .int .u64 0, .slice (some ⟨y0.heap.size, 0, none⟩) N N, .int .i64 n] 82)) 1
  have HP := hide P2
  have HO := hide O2
  have HB := hide B2
  have HG := hide (show y0.heap.size ≠ y0.heap.size + 1 ∧ w.heap.size ≤ y0.heap.size + 1 ∧ w.heap.size ≤ y0.heap.size from ⟨by omega, by omega, hs0⟩)
  clear P2 O2 B2 hs0 hz1 e0 e1 e2 e3 e4 e5 e6 d0 d1 d2 d3 d4 d5 d6 hmk HM hb
  go_wp2
  go_ret2
  exact ⟨_, _, rfl, HP.out, HO.out, HG.out.1, HG.out.2.1, HG.out.2.2, HB.out⟩
end
end Go.Proofs.Ytikpphbgjbfddaa
