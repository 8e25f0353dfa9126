/- Parts of the proof: Wr Ry. -/
import Derived.Test.YtikpphbgjbfddaaJ1
import Derived.Test.YtikpphbgjbfddaaJ6
import Derived.Deep.AppendLies
namespace Go.Proofs.Ytikpphbgjbfddaa
set_option maxRecDepth 20000
open Go.RowKit
/-- A number as a value. -/
def valS (n : Nat) : ByteArray := strL (bytesL (fun _ => n) 8)
/-- A value's number. -/
def numN (s : ByteArray) : Nat := if s.size = 8 then leN s.data.toList else 0
theorem valS_size (n : Nat) : (valS n).size = 8 := by rw [valS, strL_size, bytesL_length]
theorem leN_bytes (n : Nat) (hn : n < 18446744073709551616) : leN (bytesL (fun _ => n) 8) = n := by
  have h := (words_of_bytes (fun _ => n) 8 1 (fun _ _ => hn)).2 (fun i h1 h2 => by omega) 0 (by decide)
  simpa only [wordAt, Nat.mul_zero, List.drop_zero, List.take_of_length_le (show (bytesL (fun _ => n) 8).length ≤ 8 by rw [bytesL_length]; decide)] using h
theorem numN_val (n : Nat) (hn : n < 18446744073709551616) : numN (valS n) = n := by
  rw [numN, if_pos (valS_size n), valS, strL_toList, leN_bytes n hn]
theorem numN_lt (s : ByteArray) : numN s < 18446744073709551616 := by
  unfold numN
  split
  · rename_i h
    have := leN_lt s.data.toList
    rw [show s.data.toList.length = 8 by simpa using h] at this
    exact this
  · decide
set_option maxHeartbeats 400000 in
theorem value_any (n : Nat) (w : World) :
    Calls Try.prog 39 #[.int .u64 (n : Int)] w fun e w' => e = .returned (.string (valS n)) ∧ Below w.heap.size w w' := by
  have SL := hide (sl_one w 43 n)
  have b1 : Below w.heap.size w (w.alloc (.cells #[.int .u64 (n : Int)] 43)) := (Below.refl _ _).alloc (Nat.le_refl _) _
  have HV : Hid ((⟨(bytesL (fun _ => n) 8).toArray⟩ : ByteArray) = valS n) := rfl
  go_enter Try.func39, Try.ntmps39
  go_wp2_with fail
  refine (bytes_ok _ 1 1 8 (fun _ => n) _ (by omega) SL.out (by decide) (fun i h1 h2 => by omega)).mono ?_
  rintro e w2 ⟨rfl, b2⟩
  replace b2 := b1.trans (b2.mono b1.size)
  rw [HV.out]
  go_wp2
  go_ret
  exact ⟨rfl, b2⟩
theorem bytesV_snoc (l : List UInt8) (x : Nat) (hx : x < 256) : bytesV (l ++ [UInt8.ofNat x]) = bytesV l ++ [.int .u8 (x : Int)] := by
  simp [bytesV, ofNat_toNat hx]
/-- Owned bytes as a string. -/
theorem own_str {w : World} {base g cap : Nat} {l : List UInt8} (h : w.ownsRow base 5 1 (.slice (some ⟨g, 0, none⟩) l.length cap) l.length (bytesV l)) (j : Nat) (hj : j < l.length) :
    w.cell? ((⟨g, 0, none⟩ : Addr).add j) = some (.int .u8 ((l[j]).toNat : Int)) := by
  rw [Go.WideShapes.add_plain, Nat.zero_add, h.cellAt j (by omega)]
  simp [bytesV, List.getElem?_eq_getElem hj]
set_option maxHeartbeats 1000000 in
theorem rvalue_any (n : Nat) (w : World) (hn : n < 18446744073709551616) :
    Calls Try.prog 17 #[.int .u64 (n : Int)] w fun e w' => e = .returned (.string (valS n)) ∧ Below w.heap.size w w' := by
  obtain ⟨i0, hi, hz0, hz1, hz2⟩ := info_parts Try.infoU8
  have HV : Hid (valS n = ⟨(bytesL (fun _ => n) 8).toArray⟩) := rfl
  go_enter Try.func17, Try.ntmps17
  go_wp2
  go_loopw [0, 3, 4] (fun x b i wr => ∃ k m : Nat, k ≤ 8 ∧ Hid (m = n / 2 ^ (8 * k)) ∧ i = .int .i64 k ∧ x = .int .u64 (m : Int) ∧ wr.ownsRow w.heap.size 5 1 b k (bytesV (bytesL (fun _ => n) k)) ∧ Below w.heap.size w wr) (fun _ _ i _ => 8 - (intOf i).toNat)
  case atStart => exact ⟨0, n, by omega, by simp [Hid], rfl, rfl, by simpa [bytesV, bytesL] using World.ownsRow_made (e := 5) (size := 1) w #[] 0 (Nat.le_refl _) (by decide) (by simp), (Below.refl _ _).alloc (Nat.le_refl _) _⟩
  case round =>
    obtain ⟨k, m, hk, HM, rfl, rfl, hown, hb⟩ := hrel
    have hB := hb.size
    by_cases hlt : k < 8
    · have hm : m < 18446744073709551616 := by rw [HM.out]; exact Nat.lt_of_le_of_lt (Nat.div_le_self _ _) hn
      have HM2 : Hid (m / 256 = n / 2 ^ (8 * (k + 1))) := by rw [HM.out]; exact div_byte n k
      have HS : Hid (bytesV (bytesL (fun _ => n) (k + 1)) = bytesV (bytesL (fun _ => n) k) ++ [.int .u8 ((m : Int) % 256)]) := by
        unfold Hid
        rw [bytesL_succ, byteAt_one n k hlt, ← HM.out, bytesV_snoc _ _ (Nat.mod_lt _ (by decide))]; simp
      have hown2 := hown.alloc (.cells #[.int .u8 ((m : Int) % 256)] 5)
      go_wp2_with (at_builtin; refine wpList_append_own _ rfl _ _ 23 rfl w.heap.size 5 i0 (.int .u8 0) 1 1 Try.underlying23 hi hz0 hz1 hz2 rfl (by decide) _ _ _ rfl hown2 ⟨wr.heap.size, 0, none⟩ 1 1 [.int .u8 ((m : Int) % 256)] rfl rfl (cell_one _ _ _) one_int ?c3 ?c4 ?c5 ?_)
      case c3 => unfold maxLen; omega
      case c4 => omega
      case c5 => simpa using Nat.le_succ_of_le hB
      intro v' w3 hown' hgrow _
      have R := grow_step hown hB hb hgrow
      rw [← HS.out] at hown'
      clear hgrow hown hown2 hb
      go_wp2
      go_roundw
      case rel => exact ⟨k + 1, m / 256, by omega, HM2, by go_num, by go_num, hown', R⟩
      case measure => simp [intOf]; omega
    · have e : k = 8 := by omega
      subst e
      obtain ⟨g, cap, rfl, _, _⟩ := own_form hown (by decide)
      have kc := run_convert_bytes_back (P := Try.prog) wr 23 9 5 ⟨g, 0, none⟩ cap (bytesL (fun _ => n) 8) Try.underlying23 Try.underlying5 Try.underlying9 (own_str (by rw [bytesL_length]; exact hown))
      rw [bytesL_length] at kc
      clear hown
      go_wp2
      go_ret
      exact ⟨ret_str HV.out.symm, hb⟩
end Go.Proofs.Ytikpphbgjbfddaa
namespace Go.Proofs.Ytikpphbgjbfddaa
set_option maxRecDepth 20000
open Go.RowKit
theorem byteAt_in (v : Nat → Nat) (k j : Nat) (hj : j < 8) : byteAt v (8 * k + j) = v k / 2 ^ (8 * j) % 256 := by
  unfold byteAt
  rw [show (8 * k + j) / 8 = k by omega, show (8 * k + j) % 8 = j by omega, Nat.mul_comm j 8]
theorem own_byte {w : World} {base g cap c : Nat} {v : Nat → Nat} (h : w.ownsRow base 5 1 (.slice (some ⟨g, 0, none⟩) c cap) c (bytesV (bytesL v c))) (j : Nat) (hj : j < c) :
    w.cell? ⟨g, j, none⟩ = some (.int .u8 (byteAt v j : Int)) := by
  rw [h.cellAt j (by omega)]
  simp [bytesV, bytesL_get v c j hj, ofNat_toNat (byteAt_lt v j)]
set_option maxHeartbeats 4000000 in
theorem text_any (ao : Option Addr) (N cap n : Nat) (v : Nat → Nat) (r : Bool) (T : ByteArray) (w : World) (hN : N ≤ 100000) (hn : n ≤ 8 * N) (hs : Sl .u64 w ao N (fun j => (v j : Int))) (hv : ∀ j, j < N → v j < 18446744073709551616) (hr : r = true ↔ Empty v n N)
    (hT : T = if r then ⟨(bytesL v n).toArray⟩ else ⟨#[]⟩) :
    Calls Try.prog 31 #[.slice ao N cap, .int .i64 (n : Int)] w fun e w' => e = .returned (.tuple #[.string T, .bool r]) ∧ Below w.heap.size w w' := by
  obtain ⟨i0, hi, hz0, hz1, hz2⟩ := info_parts Try.infoU8
  have HS := hide hs
  have HV := hide hv
  have HR := hide hr
  have HT := hide hT
  clear hs hv hr hT
  go_enter Try.func31, Try.ntmps31
  go_wp2
  go_loopw [6, 7] (fun b i wr => ∃ k c g cp : Nat, k ≤ N ∧ Hid (c = 8 * k) ∧ i = .int .i64 k ∧ b = .slice (some ⟨g, 0, none⟩) c cp ∧ wr.ownsRow w.heap.size 5 1 (.slice (some ⟨g, 0, none⟩) c cp) c (bytesV (bytesL v c)) ∧ Below w.heap.size w wr) (fun _ i _ => N - (intOf i).toNat)
  case atStart => exact ⟨0, 0, w.heap.size, 0, Nat.zero_le _, rfl, rfl, rfl, by simpa [bytesV, bytesL] using World.ownsRow_made (e := 5) (size := 1) w #[] 0 (Nat.le_refl _) (by decide) (by simp), (Below.refl _ _).alloc (Nat.le_refl _) _⟩
  case round =>
    obtain ⟨k, c, g, cp, hk, HC, rfl, rfl, hown, hb⟩ := hrel
    by_cases hlt : k < N
    · obtain ⟨bb, off, hao, hc⟩ := HS.out.below hb k hlt
      subst hao
      simp only at hc
      have hvk := HV.out k hlt
      go_wp2
      go_loopw [6, 8, 9] (fun b x i wr => ∃ j m d g cp : Nat, j ≤ 8 ∧ Hid (d = 8 * k + j) ∧ Hid (m = v k / 2 ^ (8 * j)) ∧ i = .int .i64 j ∧ x = .int .u64 (m : Int) ∧ b = .slice (some ⟨g, 0, none⟩) d cp ∧ wr.ownsRow w.heap.size 5 1 (.slice (some ⟨g, 0, none⟩) d cp) d (bytesV (bytesL v d)) ∧ Below w.heap.size w wr) (fun _ _ i _ => 8 - (intOf i).toNat)
      case atStart => exact ⟨0, v k, c, g, cp, by omega, by have := HC.out; simp only [Hid]; omega, by simp [Hid], rfl, rfl, rfl, hown, hb⟩
      case round =>
        clear hown hb hc
        obtain ⟨j, m, d, g, cp, hj, HD, HM, rfl, rfl, rfl, hown, hb⟩ := hrel
        have hB := hb.size
        have hd : d ≤ 1000000 := by have := HD.out; omega
        by_cases hl8 : j < 8
        · have hm : m < 18446744073709551616 := by rw [HM.out]; exact Nat.lt_of_le_of_lt (Nat.div_le_self _ _) hvk
          have HM2 : Hid (m / 256 = v k / 2 ^ (8 * (j + 1))) := by rw [HM.out]; exact div_byte (v k) j
          have HX : Hid (bytesV (bytesL v (d + 1)) = bytesV (bytesL v d) ++ [.int .u8 ((m : Int) % 256)]) := by
            unfold Hid
            rw [bytesL_succ, HD.out, byteAt_in v k j hl8, ← HM.out, bytesV_snoc _ _ (Nat.mod_lt _ (by decide))]; simp
          have hown2 := hown.alloc (.cells #[.int .u8 ((m : Int) % 256)] 5)
          go_wp2_with (at_builtin; refine wpList_append_lies _ rfl _ _ 23 rfl w.heap.size 5 i0 (.int .u8 0) 1 1 Try.underlying23 hi hz0 hz1 hz2 rfl (by decide) _ _ _ rfl hown2 ⟨wr.heap.size, 0, none⟩ 1 1 [.int .u8 ((m : Int) % 256)] rfl rfl (cell_one _ _ _) one_int (by decide) ?c3 ?c4 ?c5 _ rfl ?_)
          case c3 => unfold maxLen; omega
          case c4 => omega
          case c5 => simpa using Nat.le_succ_of_le hB
          intro g' cp' w3 hown' hgrow _ _
          have R := grow_step hown hB hb hgrow
          rw [← HX.out] at hown'
          clear hgrow hown hown2 hb
          go_wp2
          go_roundw
          case rel => exact ⟨j + 1, m / 256, d + 1, g', cp', by omega, by have := HD.out; simp only [Hid]; omega, HM2, by go_num, by go_num, rfl, hown', R⟩
          case measure => simp [intOf]; omega
        · have e : j = 8 := by omega
          subst e
          go_wp2
          go_roundw
          case rel => exact ⟨k + 1, d, g, cp, by omega, by have := HD.out; simp only [Hid]; omega, by go_num, rfl, hown, hb⟩
          case measure => simp [intOf]; omega
    · have e : k = N := by omega
      subst e
      have hcm : c ≤ 1000000 := by have := HC.out; omega
      have hnc : n ≤ c := by have := HC.out; omega
      obtain ⟨hcap, _, _, hcx⟩ := own_cap hown
      go_wp2
      go_loop [10] (fun i => ∃ q : Nat, n ≤ q ∧ q ≤ c ∧ i = .int .i64 q ∧ ∀ j, n ≤ j → j < q → byteAt v j = 0) (fun i => c - (intOf i).toNat)
      case atStart => exact ⟨n, Nat.le_refl _, hnc, rfl, fun j h1 h2 => by omega⟩
      case round =>
        obtain ⟨q, hq, hqc, rfl, hall⟩ := hrel
        have HALL := hide hall
        clear hall
        by_cases hl : q < c
        · have hce := own_byte hown q hl
          by_cases hz : byteAt v q = 0
          · have HALL' : Hid (∀ j, n ≤ j → j < q + 1 → byteAt v j = 0) := fun j h1 h2 => by
              by_cases e : j < q
              · exact HALL.out j h1 e
              · rw [show j = q by omega]; exact hz
            rw [hz] at hce
            clear hz
            go_wp2
            go_round
            case rel => exact ⟨q + 1, by omega, by omega, by go_num, HALL'.out⟩
            case measure => simp [intOf]; omega
          · have hrf : Hid (r = false) := by
              cases r
              · rfl
              · exact absurd (HR.out.1 rfl q hq (by have := HC.out; omega)) hz
            have hz' : ((byteAt v q : Int) != 0) = true := by rw [bne_iff_ne]; omega
            have HT' : Hid (T = ⟨#[]⟩) := by rw [HT.out, hrf.out]; rfl
            generalize byteAt v q = z at *
            go_wp2
            go_ret2
            exact ⟨by rw [HT'.out, hrf.out]; rfl, hb⟩
        · have hrt : Hid (r = true) := HR.out.2 fun i h1 h2 => HALL.out i h1 (by have := HC.out; omega)
          have HT' : Hid (T = ⟨(bytesL v n).toArray⟩) := by rw [HT.out, hrt.out]; rfl
          have kc := run_convert_bytes_back (P := Try.prog) wr 23 9 5 ⟨g, 0, none⟩ cp (bytesL v n) Try.underlying23 Try.underlying5 Try.underlying9 (fun j hj => by
            have hj' : j < n := by rw [bytesL_length] at hj; exact hj
            rw [Go.WideShapes.add_plain, Nat.zero_add, own_byte hown j (by omega)]
            simp [bytesL, ofNat_toNat (byteAt_lt v j)])
          rw [bytesL_length, ← HT'.out] at kc
          have hnp : n ≤ cp := by omega
          go_wp2
          go_ret2
          exact ⟨by rw [hrt.out]; rfl, hb⟩
end Go.Proofs.Ytikpphbgjbfddaa
