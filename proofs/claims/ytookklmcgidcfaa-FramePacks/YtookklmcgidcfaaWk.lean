/- The walks of bytes in words: wordsFor, Words, byteOf, emptyBehind, Bytes; slices that are read (Sl). -/
import Derived.Test.YtookklmcgidcfaaW0
import Derived.Test.YtookklmcgidcfaaMf
import Derived.Deep.RegionHeld3
import Derived.OpenShut
import Derived.ProofKit
namespace Go.Proofs.Ytookklmcgidcfaa
open Go.RowKit

theorem Try.infoU64 : (Try.prog.info? 29).map (fun i => (i.zero, i.size, i.bytes)) = some (some (.int .u64 0), 1, 8) := by kernel_rfl
theorem Try.infoU8 : (Try.prog.info? 5).map (fun i => (i.zero, i.size, i.bytes)) = some (some (.int .u8 0), 1, 1) := by kernel_rfl

def uintsN (l : List Nat) : List Value := l.map fun (b : Nat) => Value.int .u64 (b : Int)
theorem uintsN_length (l : List Nat) : (uintsN l).length = l.length := by simp [uintsN]
theorem uintsN_snoc (l : List Nat) (b : Nat) : uintsN (l ++ [b]) = uintsN l ++ [Value.int .u64 (b : Int)] := by simp [uintsN]
theorem uintsN_get (l : List Nat) (j : Nat) (h : j < l.length) : (uintsN l)[j]? = some (.int .u64 (l[j]?.getD 0 : Nat)) := by simp [uintsN, h]
theorem uintsN_set (l : List Nat) (j b : Nat) : (uintsN l).set j (.int .u64 (b : Int)) = uintsN (l.set j b) := by simp [uintsN, List.map_set]
theorem own_cellsU {w : World} {base g cap n : Nat} {e : TypeId} {zs : List Nat} (h : w.ownsRow base e 1 (.slice (some ⟨g, 0, none⟩) n cap) n (uintsN zs)) (hl : zs.length = n) (j : Nat) (hj : j < n) :
    w.cell? ⟨g, j, none⟩ = some (.int .u64 (zs[j]?.getD 0 : Nat)) := by
  rw [h.cellAt j (by omega), uintsN_get _ _ (by omega)]

theorem own_slU {w : World} {base n : Nat} {e : TypeId} {v : Value} {zs : List Nat} (h : w.ownsRow base e 1 v n (uintsN zs)) (hl : zs.length = n) :
    ∃ ao cap, v = .slice ao n cap ∧ Sl .u64 w ao n (fun i => ((zs[i]?.getD 0 : Nat) : Int)) := by
  by_cases hn : 0 < n
  · obtain ⟨g, cap, rfl, _, _⟩ := own_form h hn
    refine ⟨_, _, rfl, fun j hj => ⟨g, 0, rfl, ?_⟩⟩
    rw [Nat.zero_add]
    exact own_cellsU h hl j hj
  · rcases h.2 with ⟨h1, h2⟩ | ⟨g, cap, cur, h1, _⟩
    · exact ⟨_, _, by rw [h1, h2], fun j hj => absurd hj (by omega)⟩
    · exact ⟨_, _, h1, fun j hj => absurd hj (by omega)⟩
theorem u8_byte (x r : Nat) : (x : Int) / 2 ^ (r % 8 * 8) % 256 = ((x / 2 ^ (r % 8 * 8) % 256 : Nat) : Int) := by
  have h3 : ((x : Int) / 2 ^ (r % 8 * 8)) = ((x / 2 ^ (r % 8 * 8) : Nat) : Int) := by simp
  rw [h3]; omega

theorem ret_str {a b : ByteArray} (h : a = b) : Ending.returned (.string a) = .returned (.string b) := by rw [h]
/-- A string by its list of bytes. -/
def strL (l : List UInt8) : ByteArray := ⟨l.toArray⟩
theorem strL_data (s : ByteArray) : strL s.data.toList = s := rfl
theorem strL_toList (l : List UInt8) : (strL l).data.toList = l := rfl
theorem strL_size (l : List UInt8) : (strL l).size = l.length := by show l.toArray.size = _; simp
theorem str_append (s : ByteArray) (l : List UInt8) : s ++ (⟨l.toArray⟩ : ByteArray) = strL (s.data.toList ++ l) := by
  apply ByteArray.ext
  rw [ByteArray.data_append]
  apply Array.ext'
  simp [strL]
theorem sl_one (w : World) (t : TypeId) (x : Nat) : Sl .u64 (w.alloc (.cells #[.int .u64 (x : Int)] t)) (some ⟨w.heap.size, 0, none⟩) 1 (fun j => (((fun _ => x) j : Nat) : Int)) := by
  intro j hj
  have e : j = 0 := by omega
  subst e
  exact ⟨_, 0, rfl, World.cell?_alloc_new (w := w) _ _ 0⟩
theorem byteAt_one (x k : Nat) (hk : k < 8) : byteAt (fun _ => x) k = x / 2 ^ (8 * k) % 256 := by
  unfold byteAt; rw [Nat.mod_eq_of_lt hk, Nat.mul_comm]
theorem div_byte (x k : Nat) : x / 2 ^ (8 * k) / 256 = x / 2 ^ (8 * (k + 1)) := by
  rw [Nat.div_div_eq_div_mul, show (256 : Nat) = 2 ^ 8 by decide, ← Nat.pow_add]; rfl
set_option maxHeartbeats 400000 in
theorem wordsFor_any (n : Nat) (w : World) (hn : n ≤ 9223372036854775807) :
    Calls Try.prog 24 #[.int .i64 (n : Int)] w fun e w' => e = .returned (.int .i64 (wordsFor n : Int)) ∧ w' = w := by
  have HE := wordsFor_eq n
  by_cases h : 0 < n % 8
  · rw [if_pos h] at HE
    have H : Hid (wordsFor n = n / 8 + 1) := HE
    clear HE
    go_enter Try.func24, Try.ntmps24
    go_wp2
    go_ret
    exact ⟨ret_int (by rw [H.out]; omega), rfl⟩
  · rw [if_neg h] at HE
    have H : Hid (wordsFor n = n / 8) := HE
    clear HE
    go_enter Try.func24, Try.ntmps24
    go_wp2
    go_ret
    exact ⟨ret_int (by rw [H.out]; omega), rfl⟩
set_option maxHeartbeats 1000000 in
theorem words_any (s : ByteArray) (w : World) (hs : s.size ≤ 1000000) :
    Calls Try.prog 29 #[.string s] w fun e w' => ∃ g, e = .returned (.slice (some ⟨g, 0, none⟩) (wordsFor s.size) (wordsFor s.size)) ∧
      w'.ownsRow w.heap.size 29 1 (.slice (some ⟨g, 0, none⟩) (wordsFor s.size) (wordsFor s.size)) (wordsFor s.size) (uintsN (wordsL s.data.toList (wordsFor s.size))) ∧ Below w.heap.size w w' := by
  obtain ⟨i0, hi, hz0, hz1, hz2⟩ := info_parts Try.infoU64
  obtain ⟨N, hN⟩ : ∃ N, N = wordsFor s.size := ⟨_, rfl⟩
  have hN1 : N ≤ s.size / 8 + 1 := by rw [hN, wordsFor]; omega
  have hN2 : s.size ≤ 8 * N := by rw [hN, wordsFor]; omega
  have HN : Hid (N = wordsFor s.size) := hN
  rw [← hN]
  clear hN
  go_enter Try.func29, Try.ntmps29
  go_wp2_with fail
  refine (wordsFor_any _ _ (by omega)).mono ?_
  rintro e w' ⟨rfl, rfl⟩
  rw [← HN.out]
  go_wp2_with (at_make; refine wpList_make_full _ rfl _ _ 22 rfl w'.heap.size 29 i0 (.int .u64 0) 1 Try.underlying22 hi hz0 hz1 _ _ _ _ N rfl rfl rfl rfl ?b1 ?b2 (Nat.le_refl _) ?_)
  case b1 => rw [hz2]; omega
  case b2 => unfold maxLen; omega
  intro w1 hown hgrow
  have hown1 : w1.ownsRow w'.heap.size 29 1 (.slice (some ⟨w'.heap.size, 0, none⟩) N N) N (uintsN (wordsL [] N)) := by
    rw [wordsL_nil]
    simpa [uintsN, toList_madeCells_one] using hown
  have hb1 : Below w'.heap.size w' w1 := (Below.refl _ _).grown hgrow (Nat.le_refl _) (by simp)
  generalize hgg : w'.heap.size = g at *
  have HG : Hid (w'.heap.size = g) := hgg
  clear hown hgrow hgg
  go_wp2
  go_loopw [11] (fun i wr => ∃ k : Nat, k ≤ s.size ∧ i = .int .i64 k ∧ wr.ownsRow g 29 1 (.slice (some ⟨g, 0, none⟩) N N) N (uintsN (wordsL (s.data.toList.take k) N)) ∧ Below g w' wr)
    (fun i _ => s.size - (intOf i).toNat)
  case atStart => exact ⟨0, Nat.zero_le _, rfl, by simpa using hown1, hb1⟩
  case round =>
    clear hown1 hb1
    obtain ⟨k, hk, rfl, ho, hb⟩ := hrel
    by_cases hlt : k < s.size
    · have htl : (s.data.toList.take k).length = k := by simp; omega
      have hts : s.data.toList.take (k + 1) = s.data.toList.take k ++ [s[k]] := by
        rw [List.take_succ_eq_append_getElem (by simpa using hlt)]; rfl
      have hce := own_cellsU ho (wordsL_length _ _) (k / 8) (by omega)
      rw [wordsL_get _ _ _ (by omega)] at hce
      simp only [Option.getD_some] at hce
      have hfz := ho.frozenAt (k / 8)
      have hor := word_or (s.data.toList.take k) s[k]
      have hsn := wordsL_snoc (s.data.toList.take k) s[k] N
      rw [← hts, htl] at hor hsn
      have HOR := hide hor
      have HSN := hide hsn
      generalize wordAt (s.data.toList.take k) (k / 8) = z at *
      clear hor hsn hts htl
      go_wp2
      go_region
      rw [HOR.out]
      generalize wordAt (s.data.toList.take (k + 1)) (k / 8) = y at *
      obtain ⟨hs1, hs2⟩ := ho.stored (k / 8) (.int .u64 (y : Int))
      have hs1' : (wr.setCell ⟨g, k / 8, none⟩ (.int .u64 (y : Int))).drew.ownsRow g 29 1 (.slice (some ⟨g, 0, none⟩) N N) N (uintsN (wordsL (s.data.toList.take (k + 1)) N)) := by
        rw [← HSN.out, ← uintsN_set]; exact hs1
      have hb' : Below g w' (wr.setCell ⟨g, k / 8, none⟩ (.int .u64 (y : Int))).drew := (hb.setCell (Nat.le_refl _) _).drew
      clear hs1 hs2 ho hb hfz hce
      go_wp2
      go_roundw
      case rel => exact ⟨k + 1, by omega, by go_num, hs1', hb'⟩
      case measure => simp [intOf]; omega
    · have e : k = s.size := by omega
      subst e
      go_wp2
      go_ret
      rw [List.take_of_length_le (by simp)] at ho
      exact ⟨g, rfl, by rw [HG.out]; exact ho, by rw [HG.out]; exact hb⟩
set_option maxHeartbeats 400000 in
theorem byteOf_any (ao : Option Addr) (n cap i : Nat) (v : Nat → Nat) (w : World) (hn : n ≤ 1000000) (hs : Sl .u64 w ao n (fun j => (v j : Int))) (hi : i < 8 * n) :
    Calls Try.prog 26 #[.slice ao n cap, .int .i64 (i : Int)] w fun e w' => e = .returned (.int .u8 (byteAt v i : Int)) ∧ w' = w := by
  obtain ⟨b, off, hao, hc⟩ := hs (i / 8) (by omega)
  subst hao
  simp only at hc
  have HB : Hid ((v (i / 8) : Int) / 2 ^ (i % 8 * 8) % 256 = (byteAt v i : Int)) := u8_byte _ _
  clear hs
  generalize v (i / 8) = x at *
  go_enter Try.func26, Try.ntmps26
  go_wp2
  go_ret
  exact ⟨ret_int HB.out, rfl⟩
set_option maxHeartbeats 400000 in
theorem empty_any (ao : Option Addr) (N cap n : Nat) (v : Nat → Nat) (r : Bool) (w : World) (hN : N ≤ 1000000) (hn : n ≤ 9223372036854775807) (hs : Sl .u64 w ao N (fun j => (v j : Int))) (hr : r = true ↔ Empty v n N) :
    Calls Try.prog 25 #[.slice ao N cap, .int .i64 (n : Int)] w fun e w' => e = .returned (.bool r) ∧ w' = w := by
  have HS := hide hs
  have HR := hide hr
  clear hs hr
  go_enter Try.func25, Try.ntmps25
  go_wp2
  go_loop [5] (fun i => ∃ k : Nat, n ≤ k ∧ k ≤ 9223372036854775807 ∧ i = .int .i64 k ∧ ∀ j, n ≤ j → j < k → j < 8 * N → byteAt v j = 0) (fun i => 8 * N - (intOf i).toNat)
  case atStart => exact ⟨n, Nat.le_refl _, hn, rfl, fun j h1 h2 => by omega⟩
  case round =>
    obtain ⟨k, hk, hk2, rfl, hall⟩ := hrel
    have HALL := hide hall
    clear hall
    by_cases hlt : k < 8 * N
    · by_cases hz : byteAt v k = 0
      · have HALL' : Hid (∀ j, n ≤ j → j < k + 1 → j < 8 * N → byteAt v j = 0) := fun j h1 h2 h3 => by
          by_cases e : j < k
          · exact HALL.out j h1 e h3
          · rw [show j = k by omega]; exact hz
        have HB : Hid (byteAt v k = 0) := hz
        clear hz
        go_wp2_with fail
        refine (byteOf_any _ _ _ _ _ _ hN HS.out hlt).mono ?_
        rintro e w' ⟨rfl, rfl⟩
        rw [HB.out]
        go_wp2
        go_round
        case rel => exact ⟨k + 1, by omega, by omega, by go_num, HALL'.out⟩
        case measure => simp [intOf]; omega
      · have hrf : Hid (r = false) := by
          cases r
          · rfl
          · exact absurd (HR.out.1 rfl k hk hlt) hz
        have hz' : ((byteAt v k : Int) != 0) = true := by rw [bne_iff_ne]; omega
        go_wp2_with fail
        refine (byteOf_any _ _ _ _ _ _ hN HS.out hlt).mono ?_
        rintro e w' ⟨rfl, rfl⟩
        go_wp2
        go_ret
        exact ⟨ret_bool hrf.out.symm, rfl⟩
    · have hrt : Hid (r = true) := HR.out.2 fun i h1 h2 => HALL.out i h1 (by omega) h2
      go_wp2
      go_ret
      exact ⟨ret_bool hrt.out.symm, rfl⟩
def bytesV (l : List UInt8) : List Value := l.map fun (b : UInt8) => Value.int .u8 (b.toNat : Int)
theorem bytesV_length (l : List UInt8) : (bytesV l).length = l.length := by simp [bytesV]
theorem bytesV_set (v : Nat → Nat) (n k : Nat) (h : k < n) : (bytesV (bytesL v k ++ List.replicate (n - k) 0)).set k (.int .u8 (byteAt v k : Int)) = bytesV (bytesL v (k + 1) ++ List.replicate (n - (k + 1)) 0) := by
  have e : n - k = (n - (k + 1)) + 1 := by omega
  rw [bytesL_succ, e, List.replicate_succ, List.append_assoc]
  simp only [bytesV, List.map_append, List.map_cons]
  rw [List.set_append_right _ _ (by simp [bytesL_length]), List.length_map, bytesL_length, Nat.sub_self, List.set_cons_zero]
  simp [ofNat_toNat (byteAt_lt v k)]

set_option maxHeartbeats 400000 in
theorem bytes_neg (ao : Option Addr) (N cap : Nat) (n : Int) (w : World) (h : n < 0) :
    Calls Try.prog 17 #[.slice ao N cap, .int .i64 n] w fun e w' => e = .returned (.tuple #[.string ByteArray.empty, .int .i64 1]) ∧ w' = w := by
  go_enter Try.func17, Try.ntmps17
  go_wp2
  go_ret2
  exact ⟨rfl, rfl⟩
set_option maxHeartbeats 400000 in
theorem bytes_short (ao : Option Addr) (N cap n : Nat) (w : World) (hn : n ≤ 9223372036854775807) (h : N < wordsFor n) :
    Calls Try.prog 17 #[.slice ao N cap, .int .i64 (n : Int)] w fun e w' => e = .returned (.tuple #[.string ByteArray.empty, .int .i64 3]) ∧ w' = w := by
  go_enter Try.func17, Try.ntmps17
  go_wp2_with (go_at_call 24; refine (wordsFor_any _ _ hn).mono ?_; rintro e w' ⟨rfl, rfl⟩)
  go_ret2
  exact ⟨rfl, rfl⟩
set_option maxHeartbeats 400000 in
theorem bytes_form (ao : Option Addr) (N cap n : Nat) (v : Nat → Nat) (w : World) (hN : N ≤ 1000000) (hn : n ≤ 9223372036854775807) (hs : Sl .u64 w ao N (fun j => (v j : Int))) (h0 : wordsFor n ≤ N) (h : wordsFor n < N ∨ ¬ Empty v n N) :
    Calls Try.prog 17 #[.slice ao N cap, .int .i64 (n : Int)] w fun e w' => e = .returned (.tuple #[.string ByteArray.empty, .int .i64 4]) ∧ w' = w := by
  have HS := hide hs
  clear hs
  by_cases h1 : wordsFor n < N
  · clear h
    go_enter Try.func17, Try.ntmps17
    go_wp2_with (go_at_call 24; refine (wordsFor_any _ _ hn).mono ?_; rintro e w' ⟨rfl, rfl⟩)
    go_ret2
    exact ⟨rfl, rfl⟩
  · have h2 : Hid (¬ Empty v n N) := by rcases h with h | h; exact absurd h h1; exact h
    clear h
    go_enter Try.func17, Try.ntmps17
    go_wp2_with (first | (go_at_call 24; refine (wordsFor_any _ _ hn).mono ?_; rintro e w' ⟨rfl, rfl⟩) | (go_at_call 25; refine (empty_any _ _ _ _ v false _ hN hn HS.out (by simpa using h2.out)).mono ?_; rintro e w' ⟨rfl, rfl⟩))
    go_ret2
    exact ⟨rfl, rfl⟩

set_option maxHeartbeats 1000000 in
theorem bytes_ok (ao : Option Addr) (N cap n : Nat) (v : Nat → Nat) (w : World) (hN : N ≤ 1000000) (hs : Sl .u64 w ao N (fun j => (v j : Int))) (h0 : wordsFor n = N) (h : Empty v n N) :
    Calls Try.prog 17 #[.slice ao N cap, .int .i64 (n : Int)] w fun e w' => e = .returned (.tuple #[.string ⟨(bytesL v n).toArray⟩, .int .i64 0]) ∧ Below w.heap.size w w' := by
  obtain ⟨i0, hi, hz0, hz1, hz2⟩ := info_parts Try.infoU8
  have hn : n ≤ 8 * N := by unfold wordsFor at h0; omega
  have HS := hide hs
  have HE := hide h
  have H0 := hide h0
  clear hs h h0
  go_enter Try.func17, Try.ntmps17
  go_wp2_with fail
  refine (wordsFor_any _ _ (by omega)).mono ?_
  rintro e w' ⟨rfl, rfl⟩
  rw [H0.out]
  go_wp2_with fail
  refine (empty_any _ _ _ _ v true _ hN (by omega) HS.out (by simpa using HE.out)).mono ?_
  rintro e w' ⟨rfl, rfl⟩
  go_wp2_with (at_make; refine wpList_make_full _ rfl _ _ 46 rfl w'.heap.size 5 i0 (.int .u8 0) 1 Try.underlying46 hi hz0 hz1 _ _ _ _ n rfl rfl rfl rfl ?b1 ?b2 (Nat.le_refl _) ?_)
  case b1 => rw [hz2]; omega
  case b2 => unfold maxLen; omega
  intro w1 hown hgrow
  have hown1 : w1.ownsRow w'.heap.size 5 1 (.slice (some ⟨w'.heap.size, 0, none⟩) n n) n (bytesV (bytesL v 0 ++ List.replicate (n - 0) 0)) := by
    simpa [bytesV, bytesL, toList_madeCells_one] using hown
  have hb1 : Below w'.heap.size w' w1 := (Below.refl _ _).grown hgrow (Nat.le_refl _) (by simp)
  generalize hgg : w'.heap.size = g at *
  have HG : Hid (w'.heap.size = g) := hgg
  clear hown hgrow hgg
  go_wp2
  go_loopw [31] (fun i wr => ∃ k : Nat, k ≤ n ∧ i = .int .i64 k ∧ wr.ownsRow g 5 1 (.slice (some ⟨g, 0, none⟩) n n) n (bytesV (bytesL v k ++ List.replicate (n - k) 0)) ∧ Below g w' wr)
    (fun i _ => n - (intOf i).toNat)
  case atStart => exact ⟨0, Nat.zero_le _, rfl, hown1, hb1⟩
  case round =>
    clear hown1 hb1
    obtain ⟨k, hk, rfl, ho, hb⟩ := hrel
    have HSr := hide (HS.out.below (by rw [HG.out]; exact hb))
    by_cases hlt : k < n
    · have hfz := ho.frozenAt k
      have hce := ho.cellAt k (by omega)
      have HSET := hide (bytesV_set v n k hlt)
      obtain ⟨hs1, hs2⟩ := ho.stored k (.int .u8 (byteAt v k : Int))
      rw [HSET.out] at hs1
      have hb' := hb.setCell (p := ⟨g, k, none⟩) (Nat.le_refl _) (.int .u8 (byteAt v k : Int))
      have HS1 := hide hs1
      have HB' := hide hb'
      rw [List.getElem?_eq_getElem (by rw [bytesV_length, List.length_append, bytesL_length, List.length_replicate]; omega)] at hce
      clear ho hb hs1 hs2 hb'
      go_wp2_with fail
      refine (byteOf_any _ _ _ _ v _ hN HSr.out (by omega)).mono ?_
      rintro e w2 ⟨rfl, rfl⟩
      go_wp2
      go_roundw
      case rel => exact ⟨k + 1, by omega, by go_num, HS1.out, HB'.out⟩
      case measure => simp [intOf]; omega
    · have e : k = n := by omega
      subst e
      rw [Nat.sub_self, List.replicate_zero, List.append_nil] at ho
      have kc := run_convert_bytes_back (P := Try.prog) wr 46 9 5 ⟨g, 0, none⟩ k (bytesL v k) Try.underlying46 Try.underlying5 Try.underlying9 (fun j hj => by
        have hj' : j < k := by rw [bytesL_length] at hj; exact hj
        have h1 := ho.cellAt j (by omega)
        rw [Go.WideShapes.add_plain, Nat.zero_add, h1]
        simp [bytesV, List.getElem?_eq_getElem hj])
      rw [bytesL_length] at kc
      go_wp2
      go_ret2
      exact ⟨rfl, by rw [HG.out]; exact hb⟩
end Go.Proofs.Ytookklmcgidcfaa
