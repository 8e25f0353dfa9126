/- The walks of field.Words and of awake. -/
import Derived.Test.YtcjefpbagcflcaaWc
import Derived.Test.YtcjefpbagcflcaaMc
import Derived.Deep.RegionHeld3
import Derived.OpenShut
namespace Go.Proofs.Ytcjefpbagcflcaa
open Go.RowKit

def uintsN (l : List Nat) : List Value := l.map fun (b : Nat) => Value.int .u64 (b : Int)
theorem uintsN_length (l : List Nat) : (uintsN l).length = l.length := by simp [uintsN]
theorem uintsN_snoc (l : List Nat) (b : Nat) : uintsN (l ++ [b]) = uintsN l ++ [Value.int .u64 (b : Int)] := by simp [uintsN]
theorem uintsN_get (l : List Nat) (j : Nat) (h : j < l.length) : (uintsN l)[j]? = some (.int .u64 (l[j]?.getD 0 : Nat)) := by simp [uintsN, h]
theorem uintsN_set (l : List Nat) (j b : Nat) : (uintsN l).set j (.int .u64 (b : Int)) = uintsN (l.set j b) := by simp [uintsN, List.map_set]
theorem own_cellsU {w : World} {base g cap n : Nat} {e : TypeId} {zs : List Nat} (h : w.ownsRow base e 1 (.slice (some ⟨g, 0, none⟩) n cap) n (uintsN zs)) (hl : zs.length = n) (j : Nat) (hj : j < n) :
    w.cell? ⟨g, j, none⟩ = some (.int .u64 (zs[j]?.getD 0 : Nat)) := by
  rw [h.cellAt j (by omega), uintsN_get _ _ (by omega)]

set_option maxHeartbeats 400000 in
theorem wordsFor_any (n : Nat) (w : World) (hn : n ≤ 9223372036854775807) :
    Calls Try.prog 30 #[.int .i64 (n : Int)] w fun e w' => e = .returned (.int .i64 (wordsFor n : Int)) ∧ w' = w := by
  have HE := wordsFor_eq n
  by_cases h : 0 < n % 8
  · rw [if_pos h] at HE
    have H : Hid (wordsFor n = n / 8 + 1) := HE
    clear HE
    go_enter Try.func30, Try.ntmps30
    go_wp2
    go_ret
    exact ⟨ret_int (by rw [H.out]; omega), rfl⟩
  · rw [if_neg h] at HE
    have H : Hid (wordsFor n = n / 8) := HE
    clear HE
    go_enter Try.func30, Try.ntmps30
    go_wp2
    go_ret
    exact ⟨ret_int (by rw [H.out]; omega), rfl⟩

set_option maxHeartbeats 1000000 in
theorem words_any (s : ByteArray) (w : World) (hs : s.size ≤ 1000000) :
    Calls Try.prog 25 #[.string s] w fun e w' => ∃ g, e = .returned (.slice (some ⟨g, 0, none⟩) (wordsFor s.size) (wordsFor s.size)) ∧
      w'.ownsRow w.heap.size 22 1 (.slice (some ⟨g, 0, none⟩) (wordsFor s.size) (wordsFor s.size)) (wordsFor s.size) (uintsN (wordsL s.data.toList (wordsFor s.size))) ∧ Below w.heap.size w w' := by
  obtain ⟨i0, hi, hz0, hz1, hz2⟩ := info_parts Try.infoU64
  obtain ⟨N, hN⟩ : ∃ N, N = wordsFor s.size := ⟨_, rfl⟩
  have hN1 : N ≤ s.size / 8 + 1 := by rw [hN, wordsFor]; omega
  have hN2 : s.size ≤ 8 * N := by rw [hN, wordsFor]; omega
  have HN : Hid (N = wordsFor s.size) := hN
  rw [← hN]
  clear hN
  go_enter Try.func25, Try.ntmps25
  go_wp2_with fail
  refine (wordsFor_any _ _ (by omega)).mono ?_
  rintro e w' ⟨rfl, rfl⟩
  rw [← HN.out]
  go_wp2_with (at_make; refine wpList_make_full _ rfl _ _ 38 rfl w'.heap.size 22 i0 (.int .u64 0) 1 Try.underlying38 hi hz0 hz1 _ _ _ _ N rfl rfl rfl rfl ?b1 ?b2 (Nat.le_refl _) ?_)
  case b1 => rw [hz2]; omega
  case b2 => unfold maxLen; omega
  intro w1 hown hgrow
  have hown1 : w1.ownsRow w'.heap.size 22 1 (.slice (some ⟨w'.heap.size, 0, none⟩) N N) N (uintsN (wordsL [] N)) := by
    rw [wordsL_nil]
    simpa [uintsN, toList_madeCells_one] using hown
  have hb1 : Below w'.heap.size w' w1 := (Below.refl _ _).grown hgrow (Nat.le_refl _) (by simp)
  generalize hgg : w'.heap.size = g at *
  have HG : Hid (w'.heap.size = g) := hgg
  clear hown hgrow hgg
  go_wp2
  go_loopw [11] (fun i wr => ∃ k : Nat, k ≤ s.size ∧ i = .int .i64 k ∧ wr.ownsRow g 22 1 (.slice (some ⟨g, 0, none⟩) N N) N (uintsN (wordsL (s.data.toList.take k) N)) ∧ Below g w' wr)
    (fun i _ => s.size - (intOf i).toNat)
  case atStart => exact ⟨0, Nat.zero_le _, rfl, by simpa using hown1, hb1⟩
  case round =>
    clear hown1 hb1
    obtain ⟨k, hk, rfl, ho, hb⟩ := hrel
    by_cases hlt : k < s.size
    · have htl : (s.data.toList.take k).length = k := by simp; omega
      have hts : s.data.toList.take (k + 1) = s.data.toList.take k ++ [s[k]] := by
        rw [List.take_succ_eq_append_getElem (by simpa using hlt)]; rfl
      have hce := own_cellsU ho (wordsL_length _ _) (k / 8) (by omega)
      rw [wordsL_get _ _ _ (by omega)] at hce
      simp only [Option.getD_some] at hce
      have hfz := ho.frozenAt (k / 8)
      have hor := word_or (s.data.toList.take k) s[k]
      have hsn := wordsL_snoc (s.data.toList.take k) s[k] N
      rw [← hts, htl] at hor hsn
      have HOR := hide hor
      have HSN := hide hsn
      generalize wordAt (s.data.toList.take k) (k / 8) = z at *
      clear hor hsn hts htl
      go_wp2
      go_region
      rw [HOR.out]
      generalize wordAt (s.data.toList.take (k + 1)) (k / 8) = y at *
      obtain ⟨hs1, hs2⟩ := ho.stored (k / 8) (.int .u64 (y : Int))
      have hs1' : (wr.setCell ⟨g, k / 8, none⟩ (.int .u64 (y : Int))).drew.ownsRow g 22 1 (.slice (some ⟨g, 0, none⟩) N N) N (uintsN (wordsL (s.data.toList.take (k + 1)) N)) := by
        rw [← HSN.out, ← uintsN_set]; exact hs1
      have hb' : Below g w' (wr.setCell ⟨g, k / 8, none⟩ (.int .u64 (y : Int))).drew := (hb.setCell (Nat.le_refl _) _).drew
      clear hs1 hs2 ho hb hfz hce
      go_wp2
      go_roundw
      case rel => exact ⟨k + 1, by omega, by go_num, hs1', hb'⟩
      case measure => simp [intOf]; omega
    · have e : k = s.size := by omega
      subst e
      go_wp2
      go_ret
      rw [List.take_of_length_le (by simp)] at ho
      exact ⟨g, rfl, by rw [HG.out]; exact ho, by rw [HG.out]; exact hb⟩

/-- The chapter's examples hold. -/
theorem put_ex (w : World) : Calls Try.prog 9 #[.int .u64 0, .int .i64 4, .int .i64 4, .int .u64 15] w fun e w' => e = .returned (.tuple #[.int .u64 240, .int .i64 0]) ∧ Below w.heap.size w w' :=
  (put_yes 0 4 4 15 w (by decide) (by decide) (by decide)).mono fun e w' ⟨h, k, h'⟩ => ⟨by rw [h]; rfl, by rw [h']; exact below_drewN (Below.refl _ _) k⟩
theorem words_ex (w : World) : Calls Try.prog 25 #[.string ⟨#[97, 98, 99]⟩] w fun e w' => ∃ g, e = .returned (.slice (some ⟨g, 0, none⟩) 1 1) ∧ w'.cell? ⟨g, 0, none⟩ = some (.int .u64 6513249) ∧ Below w.heap.size w w' := by
  refine (words_any ⟨#[97, 98, 99]⟩ w (by decide)).mono ?_
  rintro e w' ⟨g, rfl, hown, hb⟩
  have hc := own_cellsU hown (wordsL_length _ _) 0 (by decide)
  exact ⟨g, rfl, hc, hb⟩
set_option maxHeartbeats 1000000 in
theorem awake_any (w : World) :
    Calls Try.prog 8 #[] w fun e w' => e = .returned (.bool true) ∧ Below w.heap.size w w' := by
  go_enter Try.func8, Try.ntmps8
  go_wp2_with fail
  refine (put_ex _).mono ?_
  rintro e w1 ⟨rfl, hb1⟩
  go_wp2_with fail
  refine (words_ex _).mono ?_
  rintro e w2 ⟨g, rfl, hc, hb2⟩
  go_wp2
  go_ret
  exact ⟨rfl, hb1.trans (hb2.mono hb1.size)⟩
theorem nat_of_wf {a : Int} (h : (Lit.int .u64 a).wf = true) : ∃ n : Nat, a = (n : Int) ∧ n < 18446744073709551616 := by
  have := bounds_u64 h
  exact ⟨a.toNat, by omega, by omega⟩
theorem below_drewN' {w w' : World} (h : ∃ k, w' = w.drewN k) : Below w.heap.size w w' := by
  obtain ⟨k, rfl⟩ := h
  exact below_drewN (Below.refl _ _) k
end Go.Proofs.Ytcjefpbagcflcaa
