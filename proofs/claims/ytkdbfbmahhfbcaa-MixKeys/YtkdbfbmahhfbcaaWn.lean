/- The walks of the numbers of keys, mix's and the reference's, and of the chapter's example. -/
import Derived.Test.YtkdbfbmahhfbcaaWm
namespace Go.Proofs.Ytkdbfbmahhfbcaa
open Go.RowKit

theorem take_snoc (s : ByteArray) (k : Nat) (h : k < s.size) : s.data.toList.take (k + 1) = s.data.toList.take k ++ [s[k]] := by
  rw [List.take_succ_eq_append_getElem (by simpa using h)]; rfl
theorem key_bits (x : Nat) (b : UInt8) (hx : x < 18446744073709551616) : IntKind.u64.wrap (bits .xor .u64 (x : Int) (b.toNat : Int) * 1099511628211) = (hstep x b : Int) := by
  have hb := b.toNat_lt
  rw [u64_xor_nat _ _ hx (by omega)]
  exact wrap_mul64 _ 1099511628211
set_option maxHeartbeats 800000 in
theorem mkey_any (s : ByteArray) (w : World) (hs : s.size ≤ 1000000000) :
    Calls Try.prog 6 #[.string s] w fun e w' => e = .returned (.int .u64 (keyN s.data.toList : Int)) ∧ Below w.heap.size w w' := by
  have hlen : Hid (s.data.toList.length = s.size) := by unfold Hid; simp
  go_enter Try.func6, Try.ntmps6
  go_wp2
  go_loop [3, 7] (fun x i => ∃ k : Nat, k ≤ s.size ∧ i = .int .i64 k ∧ x = .int .u64 (hashL (s.data.toList.take k) : Int)) (fun _ i => s.size - (intOf i).toNat)
  case atStart => exact ⟨0, by omega, rfl, rfl⟩
  case round =>
    obtain ⟨k, hk, rfl, rfl⟩ := hrel
    have hl := hashL_lt (s.data.toList.take k)
    by_cases hlt : k < s.size
    · obtain ⟨y, HY⟩ : ∃ y, Hid (y = hashL (s.data.toList.take (k + 1))) := ⟨_, rfl⟩
      have hby := (s[k]).toNat_lt
      have M : Hid (IntKind.u64.wrap (bits .xor .u64 (hashL (s.data.toList.take k) : Int) ((s[k]).toNat : Int) * 1099511628211) = (y : Int)) := by
        rw [HY.out, take_snoc s k hlt, hashL_snoc]
        exact key_bits _ _ hl
      generalize hashL (s.data.toList.take k) = x at *
      go_wp2
      rw [M.out]
      go_round
      case rel => exact ⟨k + 1, by omega, by go_num, by rw [HY.out]⟩
      case measure => simp [intOf]; omega
    · have e : k = s.size := by omega
      subst e
      have HK : Hid (finN (hashL (s.data.toList.take s.size)) = keyN s.data.toList) := by
        unfold Hid keyN; rw [List.take_of_length_le (by simp)]
      generalize hashL (s.data.toList.take s.size) = x at *
      go_wp2_with fail
      refine (finish_any _ _ hl).mono ?_
      rintro e w2 ⟨rfl, b2⟩
      go_wp2
      go_ret
      exact ⟨ret_int (by rw [HK.out]), b2⟩
theorem quo_wrap (x : Nat) (h : x < 18446744073709551616) : IntKind.u64.wrap ((x : Int).tdiv 4294967296) = ((x / 4294967296 : Nat) : Int) := by
  rw [IntKind.wrap_u64, Int.tdiv_eq_ediv_of_nonneg (by omega)]; omega
theorem fold_quo (x : Nat) : ((x : Int) / 4294967296) = ((x / 4294967296 : Nat) : Int) := by omega
set_option maxHeartbeats 800000 in
theorem rmkey_any (s : ByteArray) (w : World) (hs : s.size ≤ 1000000000) :
    Calls Try.prog 7 #[.string s] w fun e w' => e = .returned (.int .u64 (keyN s.data.toList : Int)) ∧ w' = w := by
  have hlen : Hid (s.data.toList.length = s.size) := by unfold Hid; simp
  go_enter Try.func7, Try.ntmps7
  go_wp2
  go_loop [3, 4] (fun x i => ∃ k : Nat, k ≤ s.size ∧ i = .int .i64 k ∧ x = .int .u64 (hashL (s.data.toList.take k) : Int)) (fun _ i => s.size - (intOf i).toNat)
  case atStart => exact ⟨0, by omega, rfl, rfl⟩
  case round =>
    obtain ⟨k, hk, rfl, rfl⟩ := hrel
    have hl := hashL_lt (s.data.toList.take k)
    by_cases hlt : k < s.size
    · obtain ⟨y, HY⟩ : ∃ y, Hid (y = hashL (s.data.toList.take (k + 1))) := ⟨_, rfl⟩
      have hby := (s[k]).toNat_lt
      have M : Hid (IntKind.u64.wrap (((hashL (s.data.toList.take k) ^^^ (s[k]).toNat : Nat) : Int) * 1099511628211) = (y : Int)) := by
        rw [HY.out, take_snoc s k hlt, hashL_snoc]
        exact wrap_mul64 _ 1099511628211
      generalize hashL (s.data.toList.take k) = x at *
      go_wp2_with fail
      refine (turn_any _ _ _ hl (by omega)).mono ?_
      rintro e w2 ⟨rfl, rfl⟩
      go_wp2
      rw [M.out]
      go_round
      case rel => exact ⟨k + 1, by omega, by go_num, by rw [HY.out]⟩
      case measure => simp [intOf]; omega
    · have e : k = s.size := by omega
      subst e
      have HK : Hid (finN (hashL (s.data.toList.take s.size)) = keyN s.data.toList) := by
        unfold Hid keyN; rw [List.take_of_length_le (by simp)]
      generalize hashL (s.data.toList.take s.size) = x at *
      have M1 : Hid (IntKind.u64.wrap (((x ^^^ x / 4294967296 : Nat) : Int) * 15480190943371904987) = (finK x 1 : Int)) := wrap_mul64 (foldN x) 15480190943371904987
      have M2 : Hid (IntKind.u64.wrap (((finK x 1 ^^^ finK x 1 / 4294967296 : Nat) : Int) * 15480190943371904987) = (finK x 2 : Int)) := wrap_mul64 (foldN (finK x 1)) 15480190943371904987
      have M3 : Hid (((finK x 2 ^^^ finK x 2 / 4294967296 : Nat) : Int) = (keyN s.data.toList : Int)) := by rw [← HK.out]; rfl
      have l1 := finK_lt hl 1
      have l2 := finK_lt hl 2
      generalize finK x 1 = y1 at *
      generalize finK x 2 = y2 at *
      go_wp2_with fail
      rw [fold_quo]
      refine (turn_any _ _ _ hl (by omega)).mono ?_
      rintro e w2 ⟨rfl, rfl⟩
      go_wp2_with fail
      rw [M1.out, quo_wrap _ l1]
      refine (turn_any _ _ _ l1 (by omega)).mono ?_
      rintro e w2 ⟨rfl, rfl⟩
      go_wp2_with fail
      rw [M2.out, quo_wrap _ l2]
      refine (turn_any _ _ _ l2 (by omega)).mono ?_
      rintro e w2 ⟨rfl, rfl⟩
      go_wp2
      go_ret
      exact ⟨ret_int M3.out, rfl⟩
def sameB (a b : Nat) (n : Int) : Bool := ((buckN a n : Int) == (buckN b n : Int)) && (((a / 1125899906842624 : Nat) : Int) == ((b / 1125899906842624 : Nat) : Int))
set_option maxHeartbeats 400000 in
theorem same_mix (a b : Nat) (n : Int) (w : World) (ha : a < 18446744073709551616) (hb : b < 18446744073709551616) :
    Calls Try.prog 14 #[.int .u64 (a : Int), .int .u64 (b : Int), .int .i64 n] w fun e w' => e = .returned (.bool (sameB a b n)) ∧ Below w.heap.size w w' := by
  cases hq : ((buckN a n : Int) == (buckN b n : Int))
  · have H : Hid (sameB a b n = false) := by unfold Hid sameB; rw [hq]; rfl
    go_enter Try.func14, Try.ntmps14
    go_wp2_with fail
    refine (bucket_any _ _ _ ha).mono ?_
    rintro e w1 ⟨rfl, rfl⟩
    go_wp2_with fail
    refine (bucket_any _ _ _ hb).mono ?_
    rintro e w1 ⟨rfl, rfl⟩
    go_wp2
    go_ret
    exact ⟨ret_bool H.out.symm, Below.refl _ _⟩
  · have H : Hid (sameB a b n = (((a / 1125899906842624 : Nat) : Int) == ((b / 1125899906842624 : Nat) : Int))) := by unfold Hid sameB; rw [hq]; rfl
    go_enter Try.func14, Try.ntmps14
    go_wp2_with fail
    refine (bucket_any _ _ _ ha).mono ?_
    rintro e w1 ⟨rfl, rfl⟩
    go_wp2_with fail
    refine (bucket_any _ _ _ hb).mono ?_
    rintro e w1 ⟨rfl, rfl⟩
    go_wp2_with fail
    refine (tag_any _ _ ha).mono ?_
    rintro e w2 ⟨rfl, b2⟩
    go_wp2_with fail
    refine (tag_any _ _ hb).mono ?_
    rintro e w3 ⟨rfl, b3⟩
    replace b3 := b2.trans (b3.mono b2.size)
    go_wp2
    go_ret
    exact ⟨ret_bool H.out.symm, b3⟩
theorem key_a (w : World) : Calls Try.prog 6 #[.string ⟨#[97]⟩] w fun e w' => e = .returned (.int .u64 (keyN [97] : Int)) ∧ Below w.heap.size w w' := mkey_any ⟨#[97]⟩ w (by decide)
theorem key_b (w : World) : Calls Try.prog 6 #[.string ⟨#[98]⟩] w fun e w' => e = .returned (.int .u64 (keyN [98] : Int)) ∧ Below w.heap.size w w' := mkey_any ⟨#[98]⟩ w (by decide)
theorem may_4 (w : World) : Calls Try.prog 8 #[.int .i64 4] w fun e w' => e = .returned (.bool true) ∧ w' = w := mmay_any 4 w
theorem may_3 (w : World) : Calls Try.prog 8 #[.int .i64 3] w fun e w' => e = .returned (.bool false) ∧ w' = w := mmay_any 3 w
set_option maxHeartbeats 400000 in
theorem awake3_any (w : World) :
    Calls Try.prog 5 #[] w fun e w' => e = .returned (.bool true) ∧ Below w.heap.size w w' := by
  have h : ((keyN [97] : Int) != (keyN [98] : Int)) = true := by
    rw [bne_iff_ne]; exact fun x => key_ab (Int.ofNat.inj x)
  go_enter Try.func5, Try.ntmps5
  go_wp2_with fail
  refine (key_a _).mono ?_
  rintro e w1 ⟨rfl, b1⟩
  generalize keyN [97] = x at *
  go_wp2_with fail
  refine (key_b _).mono ?_
  rintro e w2 ⟨rfl, b2⟩
  replace b2 := b1.trans (b2.mono b1.size)
  generalize keyN [98] = y at *
  go_wp2_with fail
  refine (may_4 _).mono ?_
  rintro e w3 ⟨rfl, rfl⟩
  go_wp2_with fail
  refine (may_3 _).mono ?_
  rintro e w3 ⟨rfl, rfl⟩
  go_wp2
  go_ret
  exact ⟨rfl, b2⟩
end Go.Proofs.Ytkdbfbmahhfbcaa
