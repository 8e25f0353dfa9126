/- The walks of field.Bytes. -/
import Derived.Test.YtcjefpbagcflcaaWi
import Derived.ProofKit
namespace Go.Proofs.Ytcjefpbagcflcaa
open Go.RowKit

theorem Try.infoU8 : (Try.prog.info? 5).map (fun i => (i.zero, i.size, i.bytes)) = some (some (.int .u8 0), 1, 1) := by kernel_rfl

set_option maxHeartbeats 400000 in
theorem bytes_neg (ao : Option Addr) (N cap : Nat) (n : Int) (w : World) (h : n < 0) :
    Calls Try.prog 26 #[.slice ao N cap, .int .i64 n] w fun e w' => e = .returned (.tuple #[.string ByteArray.empty, .int .i64 1]) ∧ w' = w := by
  go_enter Try.func26, Try.ntmps26
  go_wp2
  go_ret2
  exact ⟨rfl, rfl⟩
set_option maxHeartbeats 400000 in
theorem bytes_short (ao : Option Addr) (N cap n : Nat) (w : World) (hn : n ≤ 9223372036854775807) (h : N < wordsFor n) :
    Calls Try.prog 26 #[.slice ao N cap, .int .i64 (n : Int)] w fun e w' => e = .returned (.tuple #[.string ByteArray.empty, .int .i64 3]) ∧ w' = w := by
  go_enter Try.func26, Try.ntmps26
  go_wp2_with (go_at_call 30; refine (wordsFor_any _ _ hn).mono ?_; rintro e w' ⟨rfl, rfl⟩)
  go_ret2
  exact ⟨rfl, rfl⟩
set_option maxHeartbeats 400000 in
theorem bytes_form (ao : Option Addr) (N cap n : Nat) (v : Nat → Nat) (w : World) (hN : N ≤ 1000000) (hn : n ≤ 9223372036854775807) (hs : Sl .u64 w ao N (fun j => (v j : Int))) (h0 : wordsFor n ≤ N) (h : wordsFor n < N ∨ ¬ Empty v n N) :
    Calls Try.prog 26 #[.slice ao N cap, .int .i64 (n : Int)] w fun e w' => e = .returned (.tuple #[.string ByteArray.empty, .int .i64 4]) ∧ w' = w := by
  have HS := hide hs
  clear hs
  by_cases h1 : wordsFor n < N
  · clear h
    go_enter Try.func26, Try.ntmps26
    go_wp2_with (go_at_call 30; refine (wordsFor_any _ _ hn).mono ?_; rintro e w' ⟨rfl, rfl⟩)
    go_ret2
    exact ⟨rfl, rfl⟩
  · have h2 : Hid (¬ Empty v n N) := by rcases h with h | h; exact absurd h h1; exact h
    clear h
    go_enter Try.func26, Try.ntmps26
    go_wp2_with (first | (go_at_call 30; refine (wordsFor_any _ _ hn).mono ?_; rintro e w' ⟨rfl, rfl⟩) | (go_at_call 31; refine (empty_any _ _ _ _ v false _ hN hn HS.out (by simpa using h2.out)).mono ?_; rintro e w' ⟨rfl, rfl⟩))
    go_ret2
    exact ⟨rfl, rfl⟩

def bytesV (l : List UInt8) : List Value := l.map fun (b : UInt8) => Value.int .u8 (b.toNat : Int)
theorem bytesV_length (l : List UInt8) : (bytesV l).length = l.length := by simp [bytesV]
theorem bytesV_set (v : Nat → Nat) (n k : Nat) (h : k < n) : (bytesV (bytesL v k ++ List.replicate (n - k) 0)).set k (.int .u8 (byteAt v k : Int)) = bytesV (bytesL v (k + 1) ++ List.replicate (n - (k + 1)) 0) := by
  have e : n - k = (n - (k + 1)) + 1 := by omega
  rw [bytesL_succ, e, List.replicate_succ, List.append_assoc]
  simp only [bytesV, List.map_append, List.map_cons]
  rw [List.set_append_right _ _ (by simp [bytesL_length]), List.length_map, bytesL_length, Nat.sub_self, List.set_cons_zero]
  simp [ofNat_toNat (byteAt_lt v k)]

set_option maxHeartbeats 1000000 in
theorem bytes_ok (ao : Option Addr) (N cap n : Nat) (v : Nat → Nat) (w : World) (hN : N ≤ 1000000) (hs : Sl .u64 w ao N (fun j => (v j : Int))) (h0 : wordsFor n = N) (h : Empty v n N) :
    Calls Try.prog 26 #[.slice ao N cap, .int .i64 (n : Int)] w fun e w' => e = .returned (.tuple #[.string ⟨(bytesL v n).toArray⟩, .int .i64 0]) ∧ Below w.heap.size w w' := by
  obtain ⟨i0, hi, hz0, hz1, hz2⟩ := info_parts Try.infoU8
  have hn : n ≤ 8 * N := by unfold wordsFor at h0; omega
  have HS := hide hs
  have HE := hide h
  have H0 := hide h0
  clear hs h h0
  go_enter Try.func26, Try.ntmps26
  go_wp2_with fail
  refine (wordsFor_any _ _ (by omega)).mono ?_
  rintro e w' ⟨rfl, rfl⟩
  rw [H0.out]
  go_wp2_with fail
  refine (empty_any _ _ _ _ v true _ hN (by omega) HS.out (by simpa using HE.out)).mono ?_
  rintro e w' ⟨rfl, rfl⟩
  go_wp2_with (at_make; refine wpList_make_full _ rfl _ _ 51 rfl w'.heap.size 5 i0 (.int .u8 0) 1 Try.underlying51 hi hz0 hz1 _ _ _ _ n rfl rfl rfl rfl ?b1 ?b2 (Nat.le_refl _) ?_)
  case b1 => rw [hz2]; omega
  case b2 => unfold maxLen; omega
  intro w1 hown hgrow
  have hown1 : w1.ownsRow w'.heap.size 5 1 (.slice (some ⟨w'.heap.size, 0, none⟩) n n) n (bytesV (bytesL v 0 ++ List.replicate (n - 0) 0)) := by
    simpa [bytesV, bytesL, toList_madeCells_one] using hown
  have hb1 : Below w'.heap.size w' w1 := (Below.refl _ _).grown hgrow (Nat.le_refl _) (by simp)
  generalize hgg : w'.heap.size = g at *
  have HG : Hid (w'.heap.size = g) := hgg
  clear hown hgrow hgg
  go_wp2
  go_loopw [31] (fun i wr => ∃ k : Nat, k ≤ n ∧ i = .int .i64 k ∧ wr.ownsRow g 5 1 (.slice (some ⟨g, 0, none⟩) n n) n (bytesV (bytesL v k ++ List.replicate (n - k) 0)) ∧ Below g w' wr)
    (fun i _ => n - (intOf i).toNat)
  case atStart => exact ⟨0, Nat.zero_le _, rfl, hown1, hb1⟩
  case round =>
    clear hown1 hb1
    obtain ⟨k, hk, rfl, ho, hb⟩ := hrel
    have HSr := hide (HS.out.below (by rw [HG.out]; exact hb))
    by_cases hlt : k < n
    · have hfz := ho.frozenAt k
      have hce := ho.cellAt k (by omega)
      have HSET := hide (bytesV_set v n k hlt)
      obtain ⟨hs1, hs2⟩ := ho.stored k (.int .u8 (byteAt v k : Int))
      rw [HSET.out] at hs1
      have hb' := hb.setCell (p := ⟨g, k, none⟩) (Nat.le_refl _) (.int .u8 (byteAt v k : Int))
      have HS1 := hide hs1
      have HB' := hide hb'
      rw [List.getElem?_eq_getElem (by rw [bytesV_length, List.length_append, bytesL_length, List.length_replicate]; omega)] at hce
      clear ho hb hs1 hs2 hb'
      go_wp2_with fail
      refine (byteOf_any _ _ _ _ v _ hN HSr.out (by omega)).mono ?_
      rintro e w2 ⟨rfl, rfl⟩
      go_wp2
      go_roundw
      case rel => exact ⟨k + 1, by omega, by go_num, HS1.out, HB'.out⟩
      case measure => simp [intOf]; omega
    · have e : k = n := by omega
      subst e
      rw [Nat.sub_self, List.replicate_zero, List.append_nil] at ho
      have kc := run_convert_bytes_back (P := Try.prog) wr 51 9 5 ⟨g, 0, none⟩ k (bytesL v k) Try.underlying51 Try.underlying5 Try.underlying9 (fun j hj => by
        have hj' : j < k := by rw [bytesL_length] at hj; exact hj
        have h1 := ho.cellAt j (by omega)
        rw [Go.WideShapes.add_plain, Nat.zero_add, h1]
        simp [bytesV, List.getElem?_eq_getElem hj])
      rw [bytesL_length] at kc
      go_wp2
      go_ret2
      exact ⟨rfl, by rw [HG.out]; exact hb⟩
end Go.Proofs.Ytcjefpbagcflcaa
