/- The walks of sums: seal.down, Next, Sum, and the reference's Turned and Sum. -/
import Derived.Test.YtookklmcgidcfaaWk
import Derived.Test.YtookklmcgidcfaaMs
namespace Go.Proofs.Ytookklmcgidcfaa
open Go.RowKit

theorem not_bits (h : Nat) (hh : h < 18446744073709551616) : bits .xor .u64 IntKind.u64.max (h : Int) = (notN h : Int) := by
  have e := u64_xor_nat onesN h onesN_lt hh
  have x := xor_not hh
  have : onesN ^^^ h = notN h := by rw [← x, Nat.xor_comm h, Nat.xor_assoc, Nat.xor_self, Nat.xor_zero]
  rw [this] at e
  exact e
theorem bit_bits (x : Nat) (hx : x < 18446744073709551616) : bits .xor .u64 ((x : Int) / 2) (IntKind.u64.wrap (bits .and .u64 (x : Int) 1 * 14514072000185962306)) = (bitS x : Int) := by
  have ha : bits .and .u64 (x : Int) 1 = ((x % 2 : Nat) : Int) := by
    have := u64_and_nat x 1 hx (by omega)
    rw [Nat.and_one_is_mod] at this
    exact this
  have hm : IntKind.u64.wrap (((x % 2 : Nat) : Int) * 14514072000185962306) = ((x % 2 * turnP : Nat) : Int) := by
    rw [IntKind.wrap_u64]; unfold turnP
    rcases Nat.mod_two_eq_zero_or_one x with e | e <;> rw [e] <;> omega
  have hd : ((x : Int) / 2) = ((x / 2 : Nat) : Int) := by omega
  have hl : x % 2 * turnP < 18446744073709551616 := by
    have := turnP_lt
    rcases Nat.mod_two_eq_zero_or_one x with e | e <;> rw [e] <;> omega
  rw [ha, hm, hd, u64_xor_nat _ _ (by omega) hl]
  rfl
set_option maxHeartbeats 400000 in
theorem down_any (h : Nat) (w : World) (hh : h < 18446744073709551616) :
    Calls Try.prog 33 #[.int .u64 (h : Int)] w fun e w' => e = .returned (.int .u64 (downK h 8 : Int)) ∧ w' = w := by
  go_enter Try.func33, Try.ntmps33
  go_wp2
  go_loop [0, 3] (fun x i => ∃ k : Nat, k ≤ 8 ∧ i = .int .i64 k ∧ x = .int .u64 (downK h k : Int)) (fun _ i => 8 - (intOf i).toNat)
  case atStart => exact ⟨0, by omega, rfl, rfl⟩
  case round =>
    obtain ⟨k, hk, rfl, rfl⟩ := hrel
    have hl := downK_lt hh k
    by_cases hlt : k < 8
    · obtain ⟨y, HY⟩ : ∃ y, Hid (y = downK h (k + 1)) := ⟨_, rfl⟩
      have M : Hid (bits .xor .u64 ((downK h k : Int) / 2) (IntKind.u64.wrap (bits .and .u64 (downK h k : Int) 1 * 14514072000185962306)) = (y : Int)) := by
        rw [HY.out]; exact bit_bits _ hl
      generalize downK h k = x at *
      go_wp2
      rw [M.out]
      go_round
      case rel => exact ⟨k + 1, by omega, by go_num, by rw [HY.out]⟩
      case measure => simp [intOf]; omega
    · have e : k = 8 := by omega
      subst e
      go_wp2
      go_ret
      exact ⟨rfl, rfl⟩
set_option maxHeartbeats 800000 in
theorem next_any (h : Nat) (s : ByteArray) (w : World) (hh : h < 18446744073709551616) (hs : s.size ≤ 1000000000) :
    Calls Try.prog 31 #[.int .u64 (h : Int), .string s] w fun e w' => e = .returned (.int .u64 (nextN h s.data.toList : Int)) ∧ w' = w := by
  have hsg : IntKind.u64.signed = false := rfl
  have N := hide (not_bits h hh)
  have hn := notN_lt h
  have HE : Hid (notN (regL (notN h) (s.data.toList.take s.size)) = nextN h s.data.toList) := by
    unfold Hid nextN; rw [List.take_of_length_le (by simp)]
  go_enter Try.func31, Try.ntmps31
  go_wp2
  rw [N.out]
  generalize notN h = z at *
  clear N
  go_loop [5, 11] (fun x i => ∃ k : Nat, k ≤ s.size ∧ i = .int .i64 k ∧ x = .int .u64 (regL z (s.data.toList.take k) : Int)) (fun _ i => s.size - (intOf i).toNat)
  case atStart => exact ⟨0, by omega, rfl, rfl⟩
  case round =>
    obtain ⟨k, hk, rfl, rfl⟩ := hrel
    have hl := regL_lt hn (s.data.toList.take k)
    by_cases hlt : k < s.size
    · obtain ⟨y, HY⟩ : ∃ y, Hid (y = regL z (s.data.toList.take (k + 1))) := ⟨_, rfl⟩
      have hby := (s[k]).toNat_lt
      have HB := hide (u64_xor_nat _ (s[k]).toNat hl (by omega))
      have hx := xor_lt64 hl (show (s[k]).toNat < 18446744073709551616 by omega)
      have M : Hid (downK (regL z (s.data.toList.take k) ^^^ (s[k]).toNat) 8 = y) := by
        rw [HY.out, take_snoc s k hlt, regL_snoc]; rfl
      generalize regL z (s.data.toList.take k) = x at *
      go_wp2_with fail
      rw [HB.out]
      refine (down_any _ _ hx).mono ?_
      rintro e w2 ⟨rfl, rfl⟩
      rw [M.out]
      go_wp2
      go_round
      case rel => exact ⟨k + 1, by omega, by go_num, by rw [HY.out]⟩
      case measure => simp [intOf]; omega
    · have e : k = s.size := by omega
      subst e
      have N2 := hide (not_bits _ hl)
      generalize regL z (s.data.toList.take s.size) = x at *
      go_wp2
      go_ret
      exact ⟨ret_int (by rw [N2.out, HE.out]), rfl⟩
set_option maxHeartbeats 400000 in
theorem sum_any (s : ByteArray) (w : World) (hs : s.size ≤ 1000000000) :
    Calls Try.prog 27 #[.string s] w fun e w' => e = .returned (.int .u64 (sumL s.data.toList : Int)) ∧ w' = w := by
  go_enter Try.func27, Try.ntmps27
  go_wp2_with fail
  refine (next_any 0 _ _ (by omega) hs).mono ?_
  rintro e w2 ⟨rfl, rfl⟩
  go_wp2
  go_ret
  exact ⟨rfl, rfl⟩
set_option maxHeartbeats 400000 in
theorem turned_any (a b : Nat) (w : World) (ha : a < 18446744073709551616) (hb : b < 18446744073709551616) :
    Calls Try.prog 30 #[.int .u64 (a : Int), .int .u64 (b : Int)] w fun e w' => e = .returned (.int .u64 ((a ^^^ b : Nat) : Int)) ∧ w' = w := by
  have H := hide (turn_bits a b ha hb)
  go_enter Try.func30, Try.ntmps30
  go_wp2
  go_ret
  exact ⟨ret_int H.out, rfl⟩
theorem turned_P (a : Nat) (w : World) (ha : a < 18446744073709551616) :
    Calls Try.prog 30 #[.int .u64 (a : Int), .int .u64 14514072000185962306] w fun e w' => e = .returned (.int .u64 ((a ^^^ turnP : Nat) : Int)) ∧ w' = w :=
  turned_any a turnP w ha turnP_lt
theorem bitS_0 {x : Nat} (h : x % 2 = 0) : x / 2 = bitS x := by unfold bitS; rw [h]; simp
theorem bitS_1 {x : Nat} (h : x % 2 = 1) : x / 2 ^^^ turnP = bitS x := by unfold bitS; rw [h, Nat.one_mul]
set_option maxHeartbeats 800000 in
theorem rsum_any (s : ByteArray) (w : World) (hs : s.size ≤ 1000000000) :
    Calls Try.prog 23 #[.string s] w fun e w' => e = .returned (.int .u64 (sumL s.data.toList : Int)) ∧ w' = w := by
  have HE : Hid (notN (regL onesN (s.data.toList.take s.size)) = sumL s.data.toList) := by
    unfold Hid sumL nextN; rw [List.take_of_length_le (by simp)]; rfl
  go_enter Try.func23, Try.ntmps23
  go_wp2
  go_loop [3, 4] (fun x i => ∃ k : Nat, k ≤ s.size ∧ i = .int .i64 k ∧ x = .int .u64 (regL onesN (s.data.toList.take k) : Int)) (fun _ i => s.size - (intOf i).toNat)
  case atStart => exact ⟨0, by omega, rfl, rfl⟩
  case round =>
    obtain ⟨k, hk, rfl, rfl⟩ := hrel
    have hl := regL_lt onesN_lt (s.data.toList.take k)
    by_cases hlt : k < s.size
    · obtain ⟨y, HY⟩ : ∃ y, Hid (y = regL onesN (s.data.toList.take (k + 1))) := ⟨_, rfl⟩
      have hby := (s[k]).toNat_lt
      have hx := xor_lt64 hl (show (s[k]).toNat < 18446744073709551616 by omega)
      have M : Hid (downK (regL onesN (s.data.toList.take k) ^^^ (s[k]).toNat) 8 = y) := by
        rw [HY.out, take_snoc s k hlt, regL_snoc]; rfl
      generalize regL onesN (s.data.toList.take k) = x at *
      go_wp2_with fail
      refine (turned_any _ _ _ hl (by omega)).mono ?_
      rintro e w2 ⟨rfl, rfl⟩
      generalize x ^^^ (s[k]).toNat = z at *
      clear hl
      go_wp2
      go_loop [3, 5] (fun x i => ∃ j : Nat, j ≤ 8 ∧ i = .int .i64 j ∧ x = .int .u64 (downK z j : Int)) (fun _ i => 8 - (intOf i).toNat)
      case atStart => exact ⟨0, by omega, rfl, rfl⟩
      case round =>
        obtain ⟨j, hj, rfl, rfl⟩ := hrel
        have hl := downK_lt hx j
        by_cases hj8 : j < 8
        · obtain ⟨q, HQ⟩ : ∃ q, Hid (q = downK z (j + 1)) := ⟨_, rfl⟩
          have HB : Hid (q = bitS (downK z j)) := HQ.out
          generalize downK z j = v at *
          rcases Nat.mod_two_eq_zero_or_one v with e | e
          · have HZ : Hid (v / 2 = q) := (bitS_0 e).trans HB.out.symm
            go_wp2
            go_round
            case rel => exact ⟨j + 1, by omega, by go_num, by rw [← HQ.out, ← HZ.out]; go_num⟩
            case measure => simp [intOf]; omega
          · have HZ : Hid (v / 2 ^^^ turnP = q) := (bitS_1 e).trans HB.out.symm
            go_wp2_with fail
            rw [show ((v : Int) / 2) = ((v / 2 : Nat) : Int) by omega]
            refine (turned_P _ _ (by omega)).mono ?_
            rintro e w2 ⟨rfl, rfl⟩
            rw [HZ.out]
            go_wp2
            go_round
            case rel => exact ⟨j + 1, by omega, by go_num, by rw [← HQ.out]⟩
            case measure => simp [intOf]; omega
        · have e : j = 8 := by omega
          subst e
          rw [M.out] at hl ⊢
          go_wp2
          go_round
          case rel => exact ⟨k + 1, by omega, by go_num, by rw [HY.out]⟩
          case measure => simp [intOf]; omega
    · have e : k = s.size := by omega
      subst e
      generalize regL onesN (s.data.toList.take s.size) = x at *
      go_wp2
      go_ret
      exact ⟨ret_int (by rw [← HE.out]; unfold notN onesN; omega), rfl⟩
end Go.Proofs.Ytookklmcgidcfaa
