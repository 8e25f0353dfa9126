/- Parts of the proof: Hb. -/
import Derived.Test.YtikpphbgjbfddaaJ3
import Derived.Test.YtikpphbgjbfddaaJ4
namespace Go.Proofs.Ytikpphbgjbfddaa
set_option maxRecDepth 20000
open Go.RowKit
set_option maxHeartbeats 400000 in
theorem len_arg (k v : Int) (w : World) (h : k < 0 ∨ v < 0) :
    Calls Try.prog 85 #[.int .i64 k, .int .i64 v] w fun e w' => e = .returned (.tuple #[.int .u64 0, .int .i64 1]) ∧ Below w.heap.size w w' := by
  by_cases hk : k < 0
  · go_enter Try.func85, Try.ntmps85
    go_wp2
    go_ret2
    exact ⟨rfl, Below.refl _ _⟩
  · have hv : v < 0 := by omega
    clear h
    go_enter Try.func85, Try.ntmps85
    go_wp2
    go_ret2
    exact ⟨rfl, Below.refl _ _⟩
set_option maxHeartbeats 400000 in
theorem len_long (k v : Int) (w : World) (hk : 0 ≤ k) (hv : 0 ≤ v) (h : 64 < k ∨ 128 < v) :
    Calls Try.prog 85 #[.int .i64 k, .int .i64 v] w fun e w' => e = .returned (.tuple #[.int .u64 0, .int .i64 5]) ∧ Below w.heap.size w w' := by
  by_cases hk' : 64 < k
  · clear h
    go_enter Try.func85, Try.ntmps85
    go_wp2
    go_ret2
    exact ⟨rfl, Below.refl _ _⟩
  · have hv' : 128 < v := by omega
    clear h
    go_enter Try.func85, Try.ntmps85
    go_wp2
    go_ret2
    exact ⟨rfl, Below.refl _ _⟩
/-- Three numbers, three widths. -/
def three (k v : Nat) : Nat → Nat := fun j => if j = 0 then k else if j = 1 then v else 44203
def sixteen : Nat → Int := fun _ => 16
theorem fits_three : Fits sixteen 3 := by
  intro k hk
  obtain rfl | rfl | rfl : k = 0 ∨ k = 1 ∨ k = 2 := by omega
  all_goals decide
theorem most_three (k v : Nat) (hk : k ≤ 64) (hv : v ≤ 128) : true = true ↔ ∀ j, j < 3 → three k v j ≤ mostN (sixteen j) := by
  refine ⟨fun _ j hj => ?_, fun _ => rfl⟩
  have h : mostN 16 = 65535 := by decide
  unfold three sixteen
  rw [h]
  split
  · omega
  · split
    · omega
    · decide
theorem sum_three (k v : Nat) : joinV (three k v) sixteen 3 true = lenN k v := by
  have e0 : three k v 0 = k := rfl
  have e1 : three k v 1 = v := rfl
  have e2 : three k v 2 = 44203 := rfl
  have a0 : atK (wid sixteen) 0 = 0 := rfl
  have a1 : atK (wid sixteen) 1 = 16 := rfl
  have a2 : atK (wid sixteen) 2 = 32 := rfl
  simp only [joinV, if_true, sumK, e0, e1, e2, a0, a1, a2]
  rw [show (2 : Nat) ^ 32 = 4294967296 by decide, show (2 : Nat) ^ 16 = 65536 by decide, lenN]
  omega
theorem sl_three {ki : IntKind} {w : World} {b : Nat} {z : Nat → Int} (h0 : w.cell? ⟨b, 0, none⟩ = some (.int ki (z 0))) (h1 : w.cell? ⟨b, 1, none⟩ = some (.int ki (z 1))) (h2 : w.cell? ⟨b, 2, none⟩ = some (.int ki (z 2))) :
    Sl ki w (some ⟨b, 0, none⟩) 3 z := by
  intro j hj
  refine ⟨b, 0, rfl, ?_⟩
  rw [Nat.zero_add]
  obtain rfl | rfl | rfl : j = 0 ∨ j = 1 ∨ j = 2 := by omega
  · exact h0
  · exact h1
  · exact h2
set_option maxHeartbeats 1000000 in
theorem len_yes (k v : Nat) (w : World) (hk : k ≤ 64) (hv : v ≤ 128) :
    Calls Try.prog 85 #[.int .i64 (k : Int), .int .i64 (v : Int)] w fun e w' => e = .returned (.tuple #[.int .u64 (lenN k v : Int), .int .i64 0]) ∧ Below w.heap.size w w' := by
  have H := hide (sum_three k v)
  go_enter Try.func85, Try.ntmps85
  go_wp2_with fail
  have b0 : Below w.heap.size w ((w.alloc (.cells #[.int .u64 (k : Int), .int .u64 (v : Int), .int .u64 44203] 43)).alloc (.cells #[.int .i64 16, .int .i64 16, .int .i64 16] 3)) := by
    have h1 := (Below.refl w.heap.size w).alloc (Nat.le_refl _) (.cells #[.int .u64 (k : Int), .int .u64 (v : Int), .int .u64 44203] 43)
    exact h1.alloc (by simp) _
  refine (join_run _ _ 3 _ _ (three k v) sixteen true _ (by decide) (sl_three ?_ ?_ ?_) (sl_three ?_ ?_ ?_) fits_three (most_three k v hk hv)).mono ?_
  · simp [three]
  · simp [three]
  · simp [three]
  · simp [sixteen]
  · simp [sixteen]
  · simp [sixteen]
  rintro e x ⟨rfl, b1⟩
  replace b1 := below_drewN' b1
  replace b1 := b0.trans (b1.mono b0.size)
  rw [H.out]
  clear b0
  go_wp2
  go_ret2
  exact ⟨rfl, b1⟩
theorem right16 : rightB 0 16 = true := by decide
theorem right16' : rightB 16 16 = true := by decide
/-- Do the lengths that a word has in its fields make it? -/
def toldB (n : Nat) : Bool := decide (n / 4294967296 = 44203 ∧ n % 65536 ≤ 64 ∧ n / 65536 % 65536 ≤ 128)
theorem told_of (k v : Nat) (hk : k ≤ 64) (hv : v ≤ 128) : toldB (lenN k v) = true ∧ lenN k v % 65536 = k ∧ lenN k v / 65536 % 65536 = v ∧ lenN k v < 18446744073709551616 := by
  unfold toldB lenN
  rw [decide_eq_true_eq]
  omega
end Go.Proofs.Ytikpphbgjbfddaa
