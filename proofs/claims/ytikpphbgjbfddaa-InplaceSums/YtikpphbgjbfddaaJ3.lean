/- Parts of the proof: Wj Mj Hb Ra. -/
import Derived.Test.YtikpphbgjbfddaaJ1
import Derived.Test.YtikpphbgjbfddaaJ2
namespace Go.Proofs.Ytikpphbgjbfddaa
set_option maxRecDepth 20000
open Go.RowKit

set_option maxHeartbeats 400000 in
theorem side_any (ao : Option Addr) (n cap : Nat) (z : Nat → Int) (r : Bool) (w : World) (hn : n ≤ 1000000) (hz : Sl .i64 w ao n z) (hr : r = true ↔ Fits z n) :
    Calls Try.prog 102 #[.slice ao n cap] w fun e w' => e = .returned (.bool r) ∧ w' = w := by
  have HR := hide hr
  have HZ := hide hz
  clear hr hz
  go_enter Try.func102, Try.ntmps102
  go_wp2
  go_loop [3, 8] (fun a i => ∃ k : Nat, k ≤ n ∧ i = .int .i64 k ∧ a = .int .i64 (atK (wid z) k : Int) ∧ Fits z k) (fun _ i => n - (intOf i).toNat)
  case atStart => exact ⟨0, Nat.zero_le _, rfl, rfl, fits_zero z⟩
  case round =>
    obtain ⟨k, hk, rfl, rfl, hf⟩ := hrel
    have hat := fits_at hf
    have hs := hide (fits_succ z k hf)
    have HF := hide hf
    clear hf
    by_cases hlt : k < n
    · obtain ⟨b, off, hao, hc⟩ := HZ.out k hlt
      subst hao
      have HA := hide (at_succ z k)
      cases hrb : rightB (atK (wid z) k : Int) (z k)
      · have hnf : ¬ Fits z n := fun h => by
          have := hs.out.1 (fits_mono h (by omega))
          rw [hrb] at this; cases this
        have hrf : Hid (r = false) := by
          cases r
          · rfl
          · exact absurd (HR.out.1 rfl) hnf
        clear hnf
        generalize atK (wid z) k = A at *
        generalize z k = Z at *
        go_wp2_with (go_at_call 83; refine (right_any _ _ _).mono ?_; rintro e w' ⟨rfl, rfl⟩)
        go_ret
        exact ⟨ret_bool hrf.out.symm, rfl⟩
      · have hf' := hs.out.2 hrb
        have h1 := (rightB_iff _ _).1 hrb
        obtain ⟨h1a, h1b, h1c, h1d⟩ := h1
        have HF' := hide hf'
        have HA' := hide (at_succ z k h1c)
        clear hf' hs HA
        generalize hAA : atK (wid z) k = A at *
        generalize hZZ : z k = Z at *
        clear hAA hZZ
        go_wp2_with (go_at_call 83; refine (right_any _ _ _).mono ?_; rintro e w' ⟨rfl, rfl⟩)
        go_round
        case rel => exact ⟨k + 1, by omega, by go_num, by rw [HA'.out], HF'.out⟩
        case measure => simp [intOf]; omega
    · have e : k = n := by omega
      subst e
      go_wp2
      go_ret
      exact ⟨ret_bool (HR.out.2 HF.out).symm, rfl⟩

/-- The answer of Join, where the widths fit and there are as many of both. -/
def joinV (v : Nat → Nat) (z : Nat → Int) (n : Nat) (r : Bool) : Nat := if r then sumK v (wid z) n else 0
def joinE (r : Bool) : Int := if r then 0 else 13

set_option maxHeartbeats 400000 in
theorem join_arg (va wa : Option Addr) (nv nw cv cw : Nat) (z : Nat → Int) (r : Bool) (w : World) (hn : nw ≤ 1000000) (hz : Sl .i64 w wa nw z) (hr : r = true ↔ Fits z nw) (h : r = false ∨ nv ≠ nw) :
    Calls Try.prog 97 #[.slice va nv cv, .slice wa nw cw] w fun e w' => e = .returned (.tuple #[.int .u64 0, .int .i64 1]) ∧ w' = w := by
  have HR := hide hr
  have HZ := hide hz
  clear hr hz
  cases r
  · go_enter Try.func97, Try.ntmps97
    go_wp2_with (go_at_call 102; refine (side_any _ _ _ _ _ _ hn HZ.out HR.out).mono ?_; rintro e w' ⟨rfl, rfl⟩)
    go_ret2
    exact ⟨rfl, rfl⟩
  · have hne : ((nv : Int) != (nw : Int)) = true := by
      rcases h with h | h
      · cases h
      · rw [bne_iff_ne]; omega
    clear h
    go_enter Try.func97, Try.ntmps97
    go_wp2_with (go_at_call 102; refine (side_any _ _ _ _ _ _ hn HZ.out HR.out).mono ?_; rintro e w' ⟨rfl, rfl⟩)
    go_ret2
    exact ⟨rfl, rfl⟩

set_option maxHeartbeats 1000000 in
theorem join_run (va wa : Option Addr) (n cv cw : Nat) (v : Nat → Nat) (z : Nat → Int) (r : Bool) (w : World) (hn : n ≤ 1000000) (hv : Sl .u64 w va n (fun j => (v j : Int))) (hz : Sl .i64 w wa n z)
    (hf : Fits z n) (hr : r = true ↔ ∀ k, k < n → v k ≤ mostN (z k)) :
    Calls Try.prog 97 #[.slice va n cv, .slice wa n cw] w fun e w' => e = .returned (.tuple #[.int .u64 (joinV v z n r : Int), .int .i64 (joinE r)]) ∧ ∃ m, w' = w.drewN m := by
  have HR := hide hr
  have HZ := hide hz
  have HV := hide hv
  have HF := hide hf
  clear hr hz hv hf
  go_enter Try.func97, Try.ntmps97
  go_wp2_with (go_at_call 102; refine (side_any _ _ _ _ true _ hn HZ.out (by simpa using HF.out)).mono ?_; rintro e w' ⟨rfl, rfl⟩)
  go_loopw [6, 7, 24] (fun x a i wr => ∃ k : Nat, k ≤ n ∧ i = .int .i64 k ∧ a = .int .i64 (atK (wid z) k : Int) ∧ x = .int .u64 (sumK v (wid z) k : Int) ∧ (∀ j, j < k → v j ≤ mostN (z j)) ∧ ∃ m, wr = w'.drewN m) (fun _ _ i _ => n - (intOf i).toNat)
  case atStart => exact ⟨0, Nat.zero_le _, rfl, rfl, rfl, fun j hj => absurd hj (by omega), 0, rfl⟩
  case round =>
    obtain ⟨k, hk, rfl, rfl, rfl, hall, m, rfl⟩ := hrel
    have HALL := hide hall
    have hlt2 : ∀ j, j < k → v j < 2 ^ wid z j := fun j hj => (lt_of_most HF.out (by omega)).1 (hall j hj)
    have hsum : sumK v (wid z) k < 18446744073709551616 := Nat.lt_of_lt_of_le (sumK_lt v (wid z) k hlt2) (pow_le64 (fits_at (fits_mono HF.out hk)))
    have HLT2 := hide hlt2
    clear hall hlt2
    by_cases hlt : k < n
    · obtain ⟨b, off, hao, hc⟩ := HZ.out k hlt
      obtain ⟨b2, off2, hao2, hc2⟩ := HV.out k hlt
      subst hao hao2
      have hrb := (fits_succ z k (fits_mono HF.out (by omega))).1 (fits_mono HF.out (by omega))
      obtain ⟨hA1, hA2, hA3, hA4⟩ := (rightB_iff _ _).1 hrb
      have HA := hide (at_succ z k hA3)
      have HP := hide (put_sum v (wid z) k HLT2.out)
      have HW : Hid (wid z k = (z k).toNat) := rfl
      by_cases hvk : v k ≤ mostN (z k)
      · have HALL' : Hid (∀ j, j < k + 1 → v j ≤ mostN (z j)) := fun j hj => by
          by_cases e : j < k
          · exact HALL.out j e
          · rw [show j = k by omega]; exact hvk
        go_wp2_with (go_at_call 103; refine (put_yes _ _ _ _ _ hsum hrb hvk).mono ?_; rintro e w' ⟨rfl, m2, rfl⟩)
        go_roundw
        case rel => exact ⟨k + 1, by omega, by go_num, by rw [← HA.out], by rw [← HP.out]; rfl, HALL'.out, _, rfl⟩
        case measure => simp [intOf]; omega
      · have hrf : Hid (r = false) := by
          cases r
          · rfl
          · exact absurd (HR.out.1 rfl k hlt) hvk
        have hvk' : mostN (z k) < v k := by omega
        go_wp2_with (go_at_call 103; refine (put_over _ _ _ _ _ hrb hvk').mono ?_; rintro e w' ⟨rfl, rfl⟩)
        go_ret2
        exact ⟨by rw [hrf.out]; rfl, _, rfl⟩
    · have e : k = n := by omega
      subst e
      go_wp2
      go_ret2
      exact ⟨by rw [HR.out.2 HALL.out]; rfl, _, rfl⟩
end Go.Proofs.Ytikpphbgjbfddaa
namespace Go.Proofs.Ytikpphbgjbfddaa
set_option maxRecDepth 20000
def T16 : Nat := 65536
def T32 : Nat := 4294967296
def T48 : Nat := 281474976710656
def T63 : Nat := 9223372036854775808
def bitN (b : Bool) : Nat := if b then 1 else 0
/-- A header's word. -/
def packN (p : Nat) (t i : Bool) : Nat := p + bitN t * T48 + bitN i * (2 * T48)

theorem bitN_le (b : Bool) : bitN b ≤ 1 := by cases b <;> decide
theorem put_prev (p : Nat) : putN 0 0 48 p = p := by simp [putN]
theorem most48 : mostN 48 = 281474976710655 := by decide
theorem set_tomb (p : Nat) (t : Bool) (hp : p < 281474976710656) : putN p 48 1 (bitN t) = p + bitN t * T48 := by
  unfold putN T48
  rw [show (2 : Nat) ^ 48 = 281474976710656 by decide, show (2 : Nat) ^ (48 + 1) = 562949953421312 by decide]
  omega
theorem set_invalid (p : Nat) (t i : Bool) (hp : p < 281474976710656) : putN (p + bitN t * T48) 49 1 (bitN i) = packN p t i := by
  have h := bitN_le t
  unfold putN packN T48
  rw [show (2 : Nat) ^ 49 = 562949953421312 by decide, show (2 : Nat) ^ (49 + 1) = 1125899906842624 by decide]
  omega
theorem packN_lt (p : Nat) (t i : Bool) (hp : p < 281474976710656) : packN p t i < 1125899906842624 := by
  have h := bitN_le t
  have h' := bitN_le i
  unfold packN T48
  omega
/-- What is read of a word. -/
def tombB (n : Nat) : Bool := decide (n / 281474976710656 % 2 = 1)
def invalidB (n : Nat) : Bool := decide (n / 562949953421312 % 2 = 1)
theorem bit_tomb (n : Nat) : bitN (tombB n) = n / 281474976710656 % 2 := by
  unfold tombB bitN
  by_cases h : n / 281474976710656 % 2 = 1
  · simp [h]
  · simp [h]; omega
theorem bit_invalid (n : Nat) : bitN (invalidB n) = n / 562949953421312 % 2 := by
  unfold invalidB bitN
  by_cases h : n / 562949953421312 % 2 = 1
  · simp [h]
  · simp [h]; omega
theorem pack_back (n : Nat) : packN (n % 281474976710656) (tombB n) (invalidB n) = n % 1125899906842624 := by
  unfold packN T48
  rw [bit_tomb, bit_invalid]
  omega
theorem prev_of (p : Nat) (t i : Bool) (hp : p < 281474976710656) : packN p t i % 281474976710656 = p := by
  unfold packN T48
  omega
theorem tomb_of (p : Nat) (t i : Bool) (hp : p < 281474976710656) : tombB (packN p t i) = t := by
  have h : packN p t i / 281474976710656 % 2 = bitN t := by
    have h := bitN_le t
    unfold packN T48
    omega
  unfold tombB
  rw [h]
  cases t <;> decide
theorem invalid_of (p : Nat) (t i : Bool) (hp : p < 281474976710656) : invalidB (packN p t i) = i := by
  have h : packN p t i / 562949953421312 % 2 = bitN i := by
    have h := bitN_le t
    have h := bitN_le i
    unfold packN T48
    omega
  unfold invalidB
  rw [h]
  cases i <;> decide
theorem tomb_ref (n : Nat) : ((n : Int) / 281474976710656 % 2 == 1) = tombB n := by
  unfold tombB
  rw [Bool.eq_iff_iff]
  simp only [beq_iff_eq, decide_eq_true_eq]
  omega
theorem invalid_ref (n : Nat) (h : n < 1125899906842624) : decide (2 ≤ (n : Int) / 281474976710656) = invalidB n := by
  unfold invalidB
  rw [decide_eq_decide]
  omega
/-- Locks. -/
def isLockB (n : Nat) : Bool := decide (n % 9223372036854775808 / 4294967296 = 0)
def writesB (n : Nat) : Bool := decide (9223372036854775808 ≤ n)
theorem get_count (n : Nat) : getN n 0 32 = n % 4294967296 := by simp [getN]
theorem get_empty (n : Nat) : getN n 32 31 = n % 9223372036854775808 / 4294967296 := by
  unfold getN
  rw [show (2 : Nat) ^ 32 = 4294967296 by decide, show (2 : Nat) ^ 31 = 2147483648 by decide]
  omega
theorem get_writes (n : Nat) (h : n < 18446744073709551616) : (((getN n 63 1 : Nat) : Int) == 1) = writesB n := by
  unfold getN writesB
  rw [show (2 : Nat) ^ 63 = 9223372036854775808 by decide, Bool.eq_iff_iff]
  simp only [beq_iff_eq, decide_eq_true_eq]
  omega
theorem set_writes (n : Nat) (h : writesB n = false) : putN n 63 1 1 = n + 9223372036854775808 := by
  simp only [writesB, decide_eq_false_iff_not] at h
  unfold putN
  rw [show (2 : Nat) ^ 63 = 9223372036854775808 by decide, show (2 : Nat) ^ (63 + 1) = 18446744073709551616 by decide]
  omega
theorem get_prev (n : Nat) : getN n 0 48 = n % 281474976710656 := by simp [getN]
theorem get_tomb (n : Nat) : (((getN n 48 1 : Nat) : Int) == 1) = tombB n := by
  unfold getN tombB
  rw [show (2 : Nat) ^ 48 = 281474976710656 by decide, Bool.eq_iff_iff]
  simp only [beq_iff_eq, decide_eq_true_eq]
  omega
theorem get_invalid (n : Nat) : (((getN n 49 1 : Nat) : Int) == 1) = invalidB n := by
  unfold getN invalidB
  rw [show (2 : Nat) ^ 49 = 562949953421312 by decide, Bool.eq_iff_iff]
  simp only [beq_iff_eq, decide_eq_true_eq]
  omega
/-- Lengths. -/
def lenN (k v : Nat) : Nat := k + v * 65536 + 189850439385088
theorem get_key (n : Nat) : getN n 0 16 = n % 65536 := by simp [getN]
theorem get_value (n : Nat) : getN n 16 16 = n / 65536 % 65536 := by simp [getN]
end Go.Proofs.Ytikpphbgjbfddaa
namespace Go.Proofs.Ytikpphbgjbfddaa
set_option maxRecDepth 20000
open Go.RowKit
set_option maxHeartbeats 400000 in
theorem len_arg (k v : Int) (w : World) (h : k < 0 ∨ v < 0) :
    Calls Try.prog 85 #[.int .i64 k, .int .i64 v] w fun e w' => e = .returned (.tuple #[.int .u64 0, .int .i64 1]) ∧ Below w.heap.size w w' := by
  by_cases hk : k < 0
  · go_enter Try.func85, Try.ntmps85
    go_wp2
    go_ret2
    exact ⟨rfl, Below.refl _ _⟩
  · have hv : v < 0 := by omega
    clear h
    go_enter Try.func85, Try.ntmps85
    go_wp2
    go_ret2
    exact ⟨rfl, Below.refl _ _⟩
set_option maxHeartbeats 400000 in
theorem len_long (k v : Int) (w : World) (hk : 0 ≤ k) (hv : 0 ≤ v) (h : 64 < k ∨ 128 < v) :
    Calls Try.prog 85 #[.int .i64 k, .int .i64 v] w fun e w' => e = .returned (.tuple #[.int .u64 0, .int .i64 5]) ∧ Below w.heap.size w w' := by
  by_cases hk' : 64 < k
  · clear h
    go_enter Try.func85, Try.ntmps85
    go_wp2
    go_ret2
    exact ⟨rfl, Below.refl _ _⟩
  · have hv' : 128 < v := by omega
    clear h
    go_enter Try.func85, Try.ntmps85
    go_wp2
    go_ret2
    exact ⟨rfl, Below.refl _ _⟩
/-- Three numbers, three widths. -/
def three (k v : Nat) : Nat → Nat := fun j => if j = 0 then k else if j = 1 then v else 44203
def sixteen : Nat → Int := fun _ => 16
theorem fits_three : Fits sixteen 3 := by
  intro k hk
  obtain rfl | rfl | rfl : k = 0 ∨ k = 1 ∨ k = 2 := by omega
  all_goals decide
theorem most_three (k v : Nat) (hk : k ≤ 64) (hv : v ≤ 128) : true = true ↔ ∀ j, j < 3 → three k v j ≤ mostN (sixteen j) := by
  refine ⟨fun _ j hj => ?_, fun _ => rfl⟩
  have h : mostN 16 = 65535 := by decide
  unfold three sixteen
  rw [h]
  split
  · omega
  · split
    · omega
    · decide
theorem sum_three (k v : Nat) : joinV (three k v) sixteen 3 true = lenN k v := by
  have e0 : three k v 0 = k := rfl
  have e1 : three k v 1 = v := rfl
  have e2 : three k v 2 = 44203 := rfl
  have a0 : atK (wid sixteen) 0 = 0 := rfl
  have a1 : atK (wid sixteen) 1 = 16 := rfl
  have a2 : atK (wid sixteen) 2 = 32 := rfl
  simp only [joinV, if_true, sumK, e0, e1, e2, a0, a1, a2]
  rw [show (2 : Nat) ^ 32 = 4294967296 by decide, show (2 : Nat) ^ 16 = 65536 by decide, lenN]
  omega
theorem sl_three {ki : IntKind} {w : World} {b : Nat} {z : Nat → Int} (h0 : w.cell? ⟨b, 0, none⟩ = some (.int ki (z 0))) (h1 : w.cell? ⟨b, 1, none⟩ = some (.int ki (z 1))) (h2 : w.cell? ⟨b, 2, none⟩ = some (.int ki (z 2))) :
    Sl ki w (some ⟨b, 0, none⟩) 3 z := by
  intro j hj
  refine ⟨b, 0, rfl, ?_⟩
  rw [Nat.zero_add]
  obtain rfl | rfl | rfl : j = 0 ∨ j = 1 ∨ j = 2 := by omega
  · exact h0
  · exact h1
  · exact h2
set_option maxHeartbeats 1000000 in
theorem len_yes (k v : Nat) (w : World) (hk : k ≤ 64) (hv : v ≤ 128) :
    Calls Try.prog 85 #[.int .i64 (k : Int), .int .i64 (v : Int)] w fun e w' => e = .returned (.tuple #[.int .u64 (lenN k v : Int), .int .i64 0]) ∧ Below w.heap.size w w' := by
  have H := hide (sum_three k v)
  go_enter Try.func85, Try.ntmps85
  go_wp2_with fail
  have b0 : Below w.heap.size w ((w.alloc (.cells #[.int .u64 (k : Int), .int .u64 (v : Int), .int .u64 44203] 43)).alloc (.cells #[.int .i64 16, .int .i64 16, .int .i64 16] 3)) := by
    have h1 := (Below.refl w.heap.size w).alloc (Nat.le_refl _) (.cells #[.int .u64 (k : Int), .int .u64 (v : Int), .int .u64 44203] 43)
    exact h1.alloc (by simp) _
  refine (join_run _ _ 3 _ _ (three k v) sixteen true _ (by decide) (sl_three ?_ ?_ ?_) (sl_three ?_ ?_ ?_) fits_three (most_three k v hk hv)).mono ?_
  · simp [three]
  · simp [three]
  · simp [three]
  · simp [sixteen]
  · simp [sixteen]
  · simp [sixteen]
  rintro e x ⟨rfl, b1⟩
  replace b1 := below_drewN' b1
  replace b1 := b0.trans (b1.mono b0.size)
  rw [H.out]
  clear b0
  go_wp2
  go_ret2
  exact ⟨rfl, b1⟩
theorem right16 : rightB 0 16 = true := by decide
theorem right16' : rightB 16 16 = true := by decide
/-- Do the lengths that a word has in its fields make it? -/
def toldB (n : Nat) : Bool := decide (n / 4294967296 = 44203 ∧ n % 65536 ≤ 64 ∧ n / 65536 % 65536 ≤ 128)
theorem told_of (k v : Nat) (hk : k ≤ 64) (hv : v ≤ 128) : toldB (lenN k v) = true ∧ lenN k v % 65536 = k ∧ lenN k v / 65536 % 65536 = v ∧ lenN k v < 18446744073709551616 := by
  unfold toldB lenN
  rw [decide_eq_true_eq]
  omega
end Go.Proofs.Ytikpphbgjbfddaa
namespace Go.Proofs.Ytikpphbgjbfddaa
set_option maxRecDepth 20000
open Go.RowKit
/-- How many words a record of such lengths has. -/
def sizeR (k v : Nat) : Nat := 3 + wordsFor k + wordsFor v
set_option maxHeartbeats 400000 in
theorem rwf_any (n : Nat) (w : World) (hn : n ≤ 1000000) :
    Calls Try.prog 86 #[.int .i64 (n : Int)] w fun e w' => e = .returned (.int .i64 (wordsFor n : Int)) ∧ w' = w := by
  have H : Hid ((wordsFor n : Int) = ((n : Int) + 7) / 8) := by simp only [Hid, wordsFor]; omega
  go_enter Try.func86, Try.ntmps86
  go_wp2
  go_ret
  exact ⟨ret_int (by rw [H.out]; omega), rfl⟩
set_option maxHeartbeats 400000 in
theorem size_yes (k v : Nat) (w : World) (hk : k ≤ 64) (hv : v ≤ 128) :
    Calls Try.prog 63 #[.int .i64 (k : Int), .int .i64 (v : Int)] w fun e w' => e = .returned (.int .i64 (sizeR k v : Int)) ∧ Below w.heap.size w w' := by
  have H : Hid ((sizeR k v : Int) = 3 + (wordsFor k : Int) + (wordsFor v : Int)) := by simp only [Hid, sizeR]; omega
  have l1 : wordsFor k ≤ 8 := by unfold wordsFor; omega
  have l2 : wordsFor v ≤ 16 := by unfold wordsFor; omega
  go_enter Try.func63, Try.ntmps63
  go_wp2_with fail
  refine (len_yes _ _ _ hk hv).mono ?_
  rintro e x ⟨rfl, b1⟩
  go_wp2_with fail
  refine (rwf_any _ _ (by omega)).mono ?_
  rintro e x2 ⟨rfl, rfl⟩
  go_wp2_with fail
  refine (rwf_any _ _ (by omega)).mono ?_
  rintro e x3 ⟨rfl, rfl⟩
  generalize wordsFor k = K at *
  generalize wordsFor v = V at *
  go_wp2
  go_ret
  exact ⟨ret_int (by rw [H.out]), b1⟩
set_option maxHeartbeats 400000 in
theorem size_no (k v : Int) (w : World) (h : k < 0 ∨ v < 0 ∨ 64 < k ∨ 128 < v) :
    Calls Try.prog 63 #[.int .i64 k, .int .i64 v] w fun e w' => e = .returned (.int .i64 0) ∧ Below w.heap.size w w' := by
  by_cases h1 : k < 0 ∨ v < 0
  · clear h
    go_enter Try.func63, Try.ntmps63
    go_wp2_with fail
    refine (len_arg _ _ _ h1).mono ?_
    rintro e x ⟨rfl, b1⟩
    go_wp2
    go_ret
    exact ⟨rfl, b1⟩
  · have a1 : 0 ≤ k := by omega
    have a2 : 0 ≤ v := by omega
    have a3 : Hid (64 < k ∨ 128 < v) := by unfold Hid; omega
    clear h h1
    go_enter Try.func63, Try.ntmps63
    go_wp2_with fail
    refine (len_long _ _ _ a1 a2 a3.out).mono ?_
    rintro e x ⟨rfl, b1⟩
    go_wp2
    go_ret
    exact ⟨rfl, b1⟩
theorem at_size (k : Nat) : sizeR k 0 = 3 + wordsFor k := rfl
set_option maxHeartbeats 400000 in
theorem at_yes (k : Nat) (w : World) (hk : k ≤ 64) :
    Calls Try.prog 65 #[.int .i64 (k : Int)] w fun e w' => e = .returned (.int .i64 (sizeR k 0 : Int)) ∧ Below w.heap.size w w' := by
  go_enter Try.func65, Try.ntmps65
  go_wp2_with fail
  refine (size_yes k 0 _ hk (by decide)).mono ?_
  rintro e x ⟨rfl, b1⟩
  go_wp2
  go_ret
  exact ⟨rfl, b1⟩
set_option maxHeartbeats 400000 in
theorem rsize_yes (k v : Nat) (w : World) (hk : k ≤ 64) (hv : v ≤ 128) :
    Calls Try.prog 40 #[.int .i64 (k : Int), .int .i64 (v : Int)] w fun e w' => e = .returned (.int .i64 (sizeR k v : Int)) ∧ w' = w := by
  have H : Hid ((sizeR k v : Int) = 3 + ((k : Int) + 7) / 8 + ((v : Int) + 7) / 8) := by simp only [Hid, sizeR, wordsFor]; omega
  go_enter Try.func40, Try.ntmps40
  go_wp2
  go_ret
  exact ⟨ret_int (by rw [H.out]), rfl⟩
set_option maxHeartbeats 400000 in
theorem rsize_no (k v : Int) (w : World) (h : k < 0 ∨ v < 0 ∨ 64 < k ∨ 128 < v) :
    Calls Try.prog 40 #[.int .i64 k, .int .i64 v] w fun e w' => e = .returned (.int .i64 0) ∧ w' = w := by
  have H := hide h
  clear h
  by_cases h1 : k < 0
  · clear H
    go_enter Try.func40, Try.ntmps40
    go_wp2
    go_ret
    exact ⟨rfl, rfl⟩
  · by_cases h2 : v < 0
    · clear H
      go_enter Try.func40, Try.ntmps40
      go_wp2
      go_ret
      exact ⟨rfl, rfl⟩
    · by_cases h3 : 64 < k
      · clear H
        go_enter Try.func40, Try.ntmps40
        go_wp2
        go_ret
        exact ⟨rfl, rfl⟩
      · have h4 : 128 < v := by have := H.out; omega
        clear H
        go_enter Try.func40, Try.ntmps40
        go_wp2
        go_ret
        exact ⟨rfl, rfl⟩
end Go.Proofs.Ytikpphbgjbfddaa
