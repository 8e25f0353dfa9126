/- Numbers as values of eight bytes: record's and the reference's Value and Number. -/
import Derived.Test.YtookklmcgidcfaaWk
namespace Go.Proofs.Ytookklmcgidcfaa
open Go.RowKit
/-- A number as a value. -/
def valS (n : Nat) : ByteArray := strL (bytesL (fun _ => n) 8)
/-- A value's number. -/
def numN (s : ByteArray) : Nat := if s.size = 8 then leN s.data.toList else 0
theorem valS_size (n : Nat) : (valS n).size = 8 := by rw [valS, strL_size, bytesL_length]
theorem leN_bytes (n : Nat) (hn : n < 18446744073709551616) : leN (bytesL (fun _ => n) 8) = n := by
  have h := (words_of_bytes (fun _ => n) 8 1 (fun _ _ => hn)).2 (fun i h1 h2 => by omega) 0 (by decide)
  simpa only [wordAt, Nat.mul_zero, List.drop_zero, List.take_of_length_le (show (bytesL (fun _ => n) 8).length ≤ 8 by rw [bytesL_length]; decide)] using h
theorem numN_val (n : Nat) (hn : n < 18446744073709551616) : numN (valS n) = n := by
  rw [numN, if_pos (valS_size n), valS, strL_toList, leN_bytes n hn]
theorem numN_lt (s : ByteArray) : numN s < 18446744073709551616 := by
  unfold numN
  split
  · rename_i h
    have := leN_lt s.data.toList
    rw [show s.data.toList.length = 8 by simpa using h] at this
    exact this
  · decide
set_option maxHeartbeats 400000 in
theorem rnumber_no (s : ByteArray) (w : World) (h : s.size ≠ 8) :
    Calls Try.prog 22 #[.string s] w fun e w' => e = .returned (.int .u64 (numN s : Int)) ∧ w' = w := by
  have HN : Hid (numN s = 0) := by rw [numN, if_neg h]; rfl
  have hne : ((s.size : Int) != 8) = true := by rw [bne_iff_ne]; omega
  clear h
  go_enter Try.func22, Try.ntmps22
  go_wp2
  go_ret
  exact ⟨ret_int (by rw [HN.out]; rfl), rfl⟩
set_option maxHeartbeats 1000000 in
theorem rnumber_yes (s : ByteArray) (w : World) (h : s.size = 8) :
    Calls Try.prog 22 #[.string s] w fun e w' => e = .returned (.int .u64 (numN s : Int)) ∧ w' = w := by
  have HN : Hid (numN s = leN s.data.toList) := by rw [numN, if_pos h]; rfl
  have hne : ((s.size : Int) != 8) = false := by simp [h]
  have hlen : Hid (s.data.toList.length = 8) := by unfold Hid; simpa using h
  go_enter Try.func22, Try.ntmps22
  go_wp2
  go_loop [3, 4] (fun x i => ∃ j : Nat, j ≤ 8 ∧ i = .int .i64 ((j : Int) - 1) ∧ x = .int .u64 (leN ((s.data.toList.drop (0 + j)).take (8 - j)) : Int)) (fun _ i => (intOf i + 1).toNat)
  case atStart => exact ⟨8, Nat.le_refl _, rfl, by simp [leN]⟩
  case round =>
    obtain ⟨j, hj, rfl, rfl⟩ := hrel
    by_cases h0 : 0 < j
    · obtain ⟨q, rfl⟩ : ∃ q, j = q + 1 := ⟨j - 1, by omega⟩
      have hst := leN_step s.data.toList 0 q (by omega)
      have hbd := word_bound s.data.toList 0 q (by omega)
      have hin : 0 + q < s.size := by omega
      rw [dif_pos (by rw [hlen.out]; omega)] at hst
      have hst' : leN ((s.data.toList.drop (0 + q)).take (8 - q)) = leN ((s.data.toList.drop (0 + (q + 1))).take (8 - (q + 1))) * 256 + (s[0 + q]).toNat := hst
      have HST := hide hst'
      have hby := (s[0 + q]).toNat_lt
      have hq : q < s.size := by omega
      have HQ : Hid (s[0 + q] = s[q]) := by simp [Hid]
      rw [HQ.out] at hby
      clear hst hst'
      generalize leN ((s.data.toList.drop (0 + (q + 1))).take (8 - (q + 1))) = X at *
      go_wp2
      go_round
      case rel => exact ⟨q, by omega, by go_num, by rw [HST.out, HQ.out]; exact congrArg (Value.int .u64) (by omega)⟩
      case measure => simp [intOf]
    · have e : j = 0 := by omega
      subst e
      have HX : Hid (leN ((s.data.toList.drop (0 + 0)).take (8 - 0)) = leN s.data.toList) := by
        rw [Nat.add_zero, List.drop_zero, List.take_of_length_le (by rw [hlen.out]; decide)]; rfl
      rw [HX.out]
      go_wp2
      go_ret
      exact ⟨ret_int (by rw [HN.out]), rfl⟩
theorem rnumber_any (s : ByteArray) (w : World) :
    Calls Try.prog 22 #[.string s] w fun e w' => e = .returned (.int .u64 (numN s : Int)) ∧ w' = w := by
  by_cases h : s.size = 8
  · exact rnumber_yes s w h
  · exact rnumber_no s w h
theorem bytesV_snoc (l : List UInt8) (x : Nat) (hx : x < 256) : bytesV (l ++ [UInt8.ofNat x]) = bytesV l ++ [.int .u8 (x : Int)] := by
  simp [bytesV, ofNat_toNat hx]
/-- Owned bytes as a string. -/
theorem own_str {w : World} {base g cap : Nat} {l : List UInt8} (h : w.ownsRow base 5 1 (.slice (some ⟨g, 0, none⟩) l.length cap) l.length (bytesV l)) (j : Nat) (hj : j < l.length) :
    w.cell? ((⟨g, 0, none⟩ : Addr).add j) = some (.int .u8 ((l[j]).toNat : Int)) := by
  rw [Go.WideShapes.add_plain, Nat.zero_add, h.cellAt j (by omega)]
  simp [bytesV, List.getElem?_eq_getElem hj]
set_option maxHeartbeats 1000000 in
theorem rvalue_any (n : Nat) (w : World) (hn : n < 18446744073709551616) :
    Calls Try.prog 20 #[.int .u64 (n : Int)] w fun e w' => e = .returned (.string (valS n)) ∧ Below w.heap.size w w' := by
  obtain ⟨i0, hi, hz0, hz1, hz2⟩ := info_parts Try.infoU8
  have HV : Hid (valS n = ⟨(bytesL (fun _ => n) 8).toArray⟩) := rfl
  go_enter Try.func20, Try.ntmps20
  go_wp2
  go_loopw [0, 3, 4] (fun x b i wr => ∃ k m : Nat, k ≤ 8 ∧ Hid (m = n / 2 ^ (8 * k)) ∧ i = .int .i64 k ∧ x = .int .u64 (m : Int) ∧ wr.ownsRow w.heap.size 5 1 b k (bytesV (bytesL (fun _ => n) k)) ∧ Below w.heap.size w wr) (fun _ _ i _ => 8 - (intOf i).toNat)
  case atStart => exact ⟨0, n, by omega, by simp [Hid], rfl, rfl, by simpa [bytesV, bytesL] using World.ownsRow_made (e := 5) (size := 1) w #[] 0 (Nat.le_refl _) (by decide) (by simp), (Below.refl _ _).alloc (Nat.le_refl _) _⟩
  case round =>
    obtain ⟨k, m, hk, HM, rfl, rfl, hown, hb⟩ := hrel
    have hB := hb.size
    by_cases hlt : k < 8
    · have hm : m < 18446744073709551616 := by rw [HM.out]; exact Nat.lt_of_le_of_lt (Nat.div_le_self _ _) hn
      have HM2 : Hid (m / 256 = n / 2 ^ (8 * (k + 1))) := by rw [HM.out]; exact div_byte n k
      have HS : Hid (bytesV (bytesL (fun _ => n) (k + 1)) = bytesV (bytesL (fun _ => n) k) ++ [.int .u8 ((m : Int) % 256)]) := by
        unfold Hid
        rw [bytesL_succ, byteAt_one n k hlt, ← HM.out, bytesV_snoc _ _ (Nat.mod_lt _ (by decide))]; simp
      have hown2 := hown.alloc (.cells #[.int .u8 ((m : Int) % 256)] 5)
      go_wp2_with (at_builtin; refine wpList_append_own _ rfl _ _ 46 rfl w.heap.size 5 i0 (.int .u8 0) 1 1 Try.underlying46 hi hz0 hz1 hz2 rfl (by decide) _ _ _ rfl hown2 ⟨wr.heap.size, 0, none⟩ 1 1 [.int .u8 ((m : Int) % 256)] rfl rfl (cell_one _ _ _) one_int ?c3 ?c4 ?c5 ?_)
      case c3 => unfold maxLen; omega
      case c4 => omega
      case c5 => simpa using Nat.le_succ_of_le hB
      intro v' w3 hown' hgrow _
      have R := grow_step hown hB hb hgrow
      rw [← HS.out] at hown'
      clear hgrow hown hown2 hb
      go_wp2
      go_roundw
      case rel => exact ⟨k + 1, m / 256, by omega, HM2, by go_num, by go_num, hown', R⟩
      case measure => simp [intOf]; omega
    · have e : k = 8 := by omega
      subst e
      obtain ⟨g, cap, rfl, _, _⟩ := own_form hown (by decide)
      have kc := run_convert_bytes_back (P := Try.prog) wr 46 9 5 ⟨g, 0, none⟩ cap (bytesL (fun _ => n) 8) Try.underlying46 Try.underlying5 Try.underlying9 (own_str (by rw [bytesL_length]; exact hown))
      rw [bytesL_length] at kc
      clear hown
      go_wp2
      go_ret
      exact ⟨ret_str HV.out.symm, hb⟩
end Go.Proofs.Ytookklmcgidcfaa
