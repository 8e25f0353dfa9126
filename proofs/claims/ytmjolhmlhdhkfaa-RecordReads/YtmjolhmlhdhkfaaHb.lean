/- The walks of header's lengths, and of the reference's. -/
import Derived.Test.YtmjolhmlhdhkfaaWj
import Derived.Test.YtmjolhmlhdhkfaaMj
namespace Go.Proofs.Ytmjolhmlhdhkfaa
open Go.RowKit
set_option maxHeartbeats 400000 in
theorem len_arg (k v : Int) (w : World) (h : k < 0 ∨ v < 0) :
    Calls Try.prog 26 #[.int .i64 k, .int .i64 v] w fun e w' => e = .returned (.tuple #[.int .u64 0, .int .i64 1]) ∧ Below w.heap.size w w' := by
  by_cases hk : k < 0
  · go_enter Try.func26, Try.ntmps26
    go_wp2
    go_ret2
    exact ⟨rfl, Below.refl _ _⟩
  · have hv : v < 0 := by omega
    clear h
    go_enter Try.func26, Try.ntmps26
    go_wp2
    go_ret2
    exact ⟨rfl, Below.refl _ _⟩
set_option maxHeartbeats 400000 in
theorem len_long (k v : Int) (w : World) (hk : 0 ≤ k) (hv : 0 ≤ v) (h : 64 < k ∨ 128 < v) :
    Calls Try.prog 26 #[.int .i64 k, .int .i64 v] w fun e w' => e = .returned (.tuple #[.int .u64 0, .int .i64 5]) ∧ Below w.heap.size w w' := by
  by_cases hk' : 64 < k
  · clear h
    go_enter Try.func26, Try.ntmps26
    go_wp2
    go_ret2
    exact ⟨rfl, Below.refl _ _⟩
  · have hv' : 128 < v := by omega
    clear h
    go_enter Try.func26, Try.ntmps26
    go_wp2
    go_ret2
    exact ⟨rfl, Below.refl _ _⟩
/-- Three numbers, three widths. -/
def three (k v : Nat) : Nat → Nat := fun j => if j = 0 then k else if j = 1 then v else 44203
def sixteen : Nat → Int := fun _ => 16
theorem fits_three : Fits sixteen 3 := by
  intro k hk
  obtain rfl | rfl | rfl : k = 0 ∨ k = 1 ∨ k = 2 := by omega
  all_goals decide
theorem most_three (k v : Nat) (hk : k ≤ 64) (hv : v ≤ 128) : true = true ↔ ∀ j, j < 3 → three k v j ≤ mostN (sixteen j) := by
  refine ⟨fun _ j hj => ?_, fun _ => rfl⟩
  have h : mostN 16 = 65535 := by decide
  unfold three sixteen
  rw [h]
  split
  · omega
  · split
    · omega
    · decide
theorem sum_three (k v : Nat) : joinV (three k v) sixteen 3 true = lenN k v := by
  have e0 : three k v 0 = k := rfl
  have e1 : three k v 1 = v := rfl
  have e2 : three k v 2 = 44203 := rfl
  have a0 : atK (wid sixteen) 0 = 0 := rfl
  have a1 : atK (wid sixteen) 1 = 16 := rfl
  have a2 : atK (wid sixteen) 2 = 32 := rfl
  simp only [joinV, if_true, sumK, e0, e1, e2, a0, a1, a2]
  rw [show (2 : Nat) ^ 32 = 4294967296 by decide, show (2 : Nat) ^ 16 = 65536 by decide, lenN]
  omega
theorem sl_three {ki : IntKind} {w : World} {b : Nat} {z : Nat → Int} (h0 : w.cell? ⟨b, 0, none⟩ = some (.int ki (z 0))) (h1 : w.cell? ⟨b, 1, none⟩ = some (.int ki (z 1))) (h2 : w.cell? ⟨b, 2, none⟩ = some (.int ki (z 2))) :
    Sl ki w (some ⟨b, 0, none⟩) 3 z := by
  intro j hj
  refine ⟨b, 0, rfl, ?_⟩
  rw [Nat.zero_add]
  obtain rfl | rfl | rfl : j = 0 ∨ j = 1 ∨ j = 2 := by omega
  · exact h0
  · exact h1
  · exact h2
set_option maxHeartbeats 1000000 in
theorem len_yes (k v : Nat) (w : World) (hk : k ≤ 64) (hv : v ≤ 128) :
    Calls Try.prog 26 #[.int .i64 (k : Int), .int .i64 (v : Int)] w fun e w' => e = .returned (.tuple #[.int .u64 (lenN k v : Int), .int .i64 0]) ∧ Below w.heap.size w w' := by
  have H := hide (sum_three k v)
  go_enter Try.func26, Try.ntmps26
  go_wp2_with fail
  have b0 : Below w.heap.size w ((w.alloc (.cells #[.int .u64 (k : Int), .int .u64 (v : Int), .int .u64 44203] 22)).alloc (.cells #[.int .i64 16, .int .i64 16, .int .i64 16] 3)) := by
    have h1 := (Below.refl w.heap.size w).alloc (Nat.le_refl _) (.cells #[.int .u64 (k : Int), .int .u64 (v : Int), .int .u64 44203] 22)
    exact h1.alloc (by simp) _
  refine (join_run _ _ 3 _ _ (three k v) sixteen true _ (by decide) (sl_three ?_ ?_ ?_) (sl_three ?_ ?_ ?_) fits_three (most_three k v hk hv)).mono ?_
  · simp [three]
  · simp [three]
  · simp [three]
  · simp [sixteen]
  · simp [sixteen]
  · simp [sixteen]
  rintro e x ⟨rfl, b1⟩
  replace b1 := below_drewN' b1
  replace b1 := b0.trans (b1.mono b0.size)
  rw [H.out]
  clear b0
  go_wp2
  go_ret2
  exact ⟨rfl, b1⟩
theorem right16 : rightB 0 16 = true := by decide
theorem right16' : rightB 16 16 = true := by decide
/-- Do the lengths that a word has in its fields make it? -/
def toldB (n : Nat) : Bool := decide (n / 4294967296 = 44203 ∧ n % 65536 ≤ 64 ∧ n / 65536 % 65536 ≤ 128)
theorem told_of (k v : Nat) (hk : k ≤ 64) (hv : v ≤ 128) : toldB (lenN k v) = true ∧ lenN k v % 65536 = k ∧ lenN k v / 65536 % 65536 = v ∧ lenN k v < 18446744073709551616 := by
  unfold toldB lenN
  rw [decide_eq_true_eq]
  omega
set_option maxHeartbeats 1000000 in
theorem told_yes (n : Nat) (w : World) (hn : n < 18446744073709551616) (h : toldB n = true) :
    Calls Try.prog 35 #[.int .u64 (n : Int)] w fun e w' => e = .returned (.tuple #[.int .i64 ((n % 65536 : Nat) : Int), .int .i64 ((n / 65536 % 65536 : Nat) : Int), .int .i64 0]) ∧ Below w.heap.size w w' := by
  simp only [toldB, decide_eq_true_eq] at h
  obtain ⟨h1, h2, h3⟩ := h
  have HE : Hid (lenN (n % 65536) (n / 65536 % 65536) = n) := by simp only [Hid, lenN]; omega
  have H1 : Hid (getN n (Int.toNat 0) (Int.toNat 16) = n % 65536) := get_key n
  have H2 : Hid (getN n (Int.toNat 16) (Int.toNat 16) = n / 65536 % 65536) := get_value n
  clear h1
  generalize n % 65536 = K at *
  generalize n / 65536 % 65536 = V at *
  go_enter Try.func35, Try.ntmps35
  go_wp2_with fail
  refine (get_yes _ _ _ _ hn right16).mono ?_
  rintro e x ⟨rfl, b1⟩
  replace b1 := below_drewN' b1
  rw [H1.out]
  go_wp2_with fail
  refine (get_yes _ _ _ _ hn right16').mono ?_
  rintro e x2 ⟨rfl, b2⟩
  replace b2 := below_drewN' b2
  rw [H2.out]
  replace b2 := b1.trans (b2.mono b1.size)
  clear b1
  go_wp2_with fail
  refine (len_yes _ _ _ h2 h3).mono ?_
  rintro e x3 ⟨rfl, b3⟩
  rw [HE.out]
  replace b3 := b2.trans (b3.mono b2.size)
  go_wp2
  go_ret3
  exact ⟨rfl, b3⟩
set_option maxHeartbeats 1000000 in
theorem told_no (n : Nat) (w : World) (hn : n < 18446744073709551616) (h : toldB n = false) :
    Calls Try.prog 35 #[.int .u64 (n : Int)] w fun e w' => e = .returned (.tuple #[.int .i64 0, .int .i64 0, .int .i64 4]) ∧ Below w.heap.size w w' := by
  simp only [toldB, decide_eq_false_iff_not] at h
  have H1 : Hid (getN n (Int.toNat 0) (Int.toNat 16) = n % 65536) := get_key n
  have H2 : Hid (getN n (Int.toNat 16) (Int.toNat 16) = n / 65536 % 65536) := get_value n
  have l1 : n % 65536 < 65536 := Nat.mod_lt _ (by decide)
  have l2 : n / 65536 % 65536 < 65536 := Nat.mod_lt _ (by decide)
  by_cases h3 : n % 65536 ≤ 64 ∧ n / 65536 % 65536 ≤ 128
  · have hne : ((lenN (n % 65536) (n / 65536 % 65536) : Int) != (n : Int)) = true := by
      rw [bne_iff_ne]; simp only [lenN]; omega
    obtain ⟨h3, h4⟩ := h3
    clear h
    generalize n % 65536 = K at *
    generalize n / 65536 % 65536 = V at *
    go_enter Try.func35, Try.ntmps35
    go_wp2_with fail
    refine (get_yes _ _ _ _ hn right16).mono ?_
    rintro e x ⟨rfl, b1⟩
    replace b1 := below_drewN' b1
    rw [H1.out]
    go_wp2_with fail
    refine (get_yes _ _ _ _ hn right16').mono ?_
    rintro e x2 ⟨rfl, b2⟩
    replace b2 := below_drewN' b2
    rw [H2.out]
    replace b2 := b1.trans (b2.mono b1.size)
    clear b1
    go_wp2_with fail
    refine (len_yes _ _ _ h3 h4).mono ?_
    rintro e x3 ⟨rfl, b3⟩
    replace b3 := b2.trans (b3.mono b2.size)
    go_wp2
    go_ret3
    exact ⟨rfl, b3⟩
  · clear h
    have h4 : 64 < ((n % 65536 : Nat) : Int) ∨ 128 < ((n / 65536 % 65536 : Nat) : Int) := by omega
    have p1 : 0 ≤ ((n % 65536 : Nat) : Int) := by omega
    have p2 : 0 ≤ ((n / 65536 % 65536 : Nat) : Int) := by omega
    have H4 := hide h4
    clear h3 h4
    generalize n % 65536 = K at *
    generalize n / 65536 % 65536 = V at *
    go_enter Try.func35, Try.ntmps35
    go_wp2_with fail
    refine (get_yes _ _ _ _ hn right16).mono ?_
    rintro e x ⟨rfl, b1⟩
    replace b1 := below_drewN' b1
    rw [H1.out]
    go_wp2_with fail
    refine (get_yes _ _ _ _ hn right16').mono ?_
    rintro e x2 ⟨rfl, b2⟩
    replace b2 := below_drewN' b2
    rw [H2.out]
    replace b2 := b1.trans (b2.mono b1.size)
    clear b1
    go_wp2_with fail
    refine (len_long _ _ _ p1 p2 H4.out).mono ?_
    rintro e x3 ⟨rfl, b3⟩
    replace b3 := b2.trans (b3.mono b2.size)
    go_wp2
    go_ret3
    exact ⟨rfl, b3⟩
end Go.Proofs.Ytmjolhmlhdhkfaa
