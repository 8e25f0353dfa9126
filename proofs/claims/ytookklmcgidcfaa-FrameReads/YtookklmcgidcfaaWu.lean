/- The walks of opening: strings.Clone off the library's shelf, seal.Open. -/
import Derived.Test.YtookklmcgidcfaaWt
import Derived.Shelf.Pu.Clone
import Derived.Shelf.Lay
import Derived.Ground.MpProg
namespace Go.Proofs
open Go.Shelf
shelf_lay LaysPu.n25 Mp 25 at Try as Try.laysPu25
end Go.Proofs
namespace Go.Proofs.Ytookklmcgidcfaa
open Go.RowKit
set_option maxHeartbeats 400000 in
theorem clone_any (s : ByteArray) (w : World) (hs : s.size ≤ 1000000000) :
    Calls Try.prog 32 #[.string s] w fun e w' => e = .returned (.string s) ∧ Below w.heap.size w w' := by
  go_enter Try.func32, Try.ntmps32
  go_wp2_with fail
  refine (AnyPu.stringslite_Clone Try.laysPu25 s _ (by omega)).mono ?_
  rintro e w1 ⟨rfl, b1⟩
  go_wp2
  go_ret
  exact ⟨rfl, b1⟩
theorem words8 (t : ByteArray) (w : World) (h : t.size = 8) :
    Calls Try.prog 29 #[.string t] w fun e w' => ∃ g, e = .returned (.slice (some ⟨g, 0, none⟩) 1 1) ∧ w'.cell? ⟨g, 0, none⟩ = some (.int .u64 (leN t.data.toList : Int)) ∧ Below w.heap.size w w' := by
  have hw := words_any t w (by omega)
  rw [h, show wordsFor 8 = 1 by decide] at hw
  refine hw.mono ?_
  rintro e w' ⟨g, rfl, ho, b⟩
  refine ⟨g, rfl, ?_, b⟩
  have hc := own_cellsU ho (wordsL_length _ _) 0 (by omega)
  rw [wordsL_get _ _ _ (by omega)] at hc
  rw [hc]
  have : wordAt t.data.toList 0 = leN t.data.toList := by
    unfold wordAt
    rw [List.drop_zero, List.take_of_length_le (by rw [show t.data.toList.length = t.size by simp]; omega)]
  simp [this]
set_option maxHeartbeats 400000 in
theorem open_short (s : ByteArray) (w : World) (h : s.size < 8) :
    Calls Try.prog 28 #[.string s] w fun e w' => e = .returned (.tuple #[.string ⟨#[]⟩, .int .i64 3]) ∧ w' = w := by
  go_enter Try.func28, Try.ntmps28
  go_wp2
  go_ret2
  exact ⟨rfl, rfl⟩
set_option maxHeartbeats 1000000 in
theorem open_form (s : ByteArray) (w : World) (hs : s.size ≤ 1000000) (N : Nat) (hN : s.size = N + 8) (x y : Nat) (hx : leN (s.extract N s.size).data.toList = x) (hy : sumL (s.extract 0 N).data.toList = y) (hxy : x ≠ y) :
    Calls Try.prog 28 #[.string s] w fun e w' => e = .returned (.tuple #[.string ⟨#[]⟩, .int .i64 4]) ∧ Below w.heap.size w w' := by
  have H0 : Hid ((s.size : Int) - 8 = (N : Int)) := by unfold Hid; omega
  have s1 : (s.extract 0 N).size ≤ 1000000 := by rw [ByteArray.size_extract]; omega
  have s2 : (s.extract N s.size).size = 8 := by rw [ByteArray.size_extract]; omega
  have hle : N ≤ s.size := by omega
  have hne : ((x : Int) != (y : Int)) = true := by rw [bne_iff_ne]; omega
  have h8 : 8 ≤ s.size := by omega
  have HX := hide hx
  have HY := hide hy
  clear hN hx hy hxy
  go_enter Try.func28, Try.ntmps28
  go_wp2_with fail
  rw [H0.out]
  go_region_with (first | (go_at_call 29; refine (words8 _ _ s2).mono ?_; rintro e w1 ⟨g, rfl, hc, b1⟩; rw [HX.out] at hc) | (go_at_call 27; refine (sum_any _ _ (Nat.le_trans s1 (by decide))).mono ?_; rintro e w2 ⟨rfl, rfl⟩; rw [HY.out]))
  all_goals
    go_wp2
    go_ret2
    exact ⟨rfl, (Below.drew (Below.refl _ w)).trans b1⟩
set_option maxHeartbeats 1000000 in
theorem open_ok (s : ByteArray) (w : World) (hs : s.size ≤ 1000000) (N : Nat) (hN : s.size = N + 8) (x : Nat) (hx : leN (s.extract N s.size).data.toList = x) (hy : sumL (s.extract 0 N).data.toList = x) :
    Calls Try.prog 28 #[.string s] w fun e w' => e = .returned (.tuple #[.string (s.extract 0 N), .int .i64 0]) ∧ Below w.heap.size w w' := by
  have H0 : Hid ((s.size : Int) - 8 = (N : Int)) := by unfold Hid; omega
  have s1 : (s.extract 0 N).size ≤ 1000000 := by rw [ByteArray.size_extract]; omega
  have s2 : (s.extract N s.size).size = 8 := by rw [ByteArray.size_extract]; omega
  have hle : N ≤ s.size := by omega
  have hne : ((x : Int) != (x : Int)) = false := by simp
  have h8 : 8 ≤ s.size := by omega
  have HX := hide hx
  have HY := hide hy
  clear hN hx hy
  go_enter Try.func28, Try.ntmps28
  go_wp2_with fail
  rw [H0.out]
  go_region_with (first | (go_at_call 29; refine (words8 _ _ s2).mono ?_; rintro e w1 ⟨g, rfl, hc, b1⟩; rw [HX.out] at hc) | (go_at_call 27; refine (sum_any _ _ (Nat.le_trans s1 (by decide))).mono ?_; rintro e w2 ⟨rfl, rfl⟩; rw [HY.out]))
  all_goals
    replace b1 := (Below.drew (Below.refl _ w)).trans b1
    go_wp2_with fail
    refine (clone_any _ _ (Nat.le_trans s1 (by decide))).mono ?_
    rintro e w3 ⟨rfl, b3⟩
    replace b3 := b1.trans (b3.mono b1.size)
    go_wp2
    go_ret2
    exact ⟨rfl, b3⟩
theorem extract_from (l : List UInt8) (N : Nat) : ((strL l).extract N (strL l).size).data.toList = l.drop N := by
  rw [ByteArray.data_extract, Array.toList_extract, strL_size]
  show List.take (l.length - N) (List.drop N l) = _
  exact List.take_of_length_le (by simp)
theorem extract_to (l : List UInt8) (N : Nat) : ((strL l).extract 0 N).data.toList = l.take N := by
  rw [ByteArray.data_extract, Array.toList_extract]
  show List.take (N - 0) (List.drop 0 l) = _
  rw [List.drop_zero, Nat.sub_zero]
theorem extract_str (l : List UInt8) (N : Nat) : (strL l).extract 0 N = strL (l.take N) := by
  rw [← extract_to]; rfl
theorem open_no (l : List UInt8) (w : World) (h8 : 8 ≤ l.length) (hl : l.length ≤ 1000000) (h : ¬ Opens l) :
    Calls Try.prog 28 #[.string (strL l)] w fun e w' => e = .returned (.tuple #[.string ⟨#[]⟩, .int .i64 4]) ∧ Below w.heap.size w w' :=
  open_form (strL l) w (by rw [strL_size]; exact hl) (l.length - 8) (by rw [strL_size]; omega) _ _ rfl rfl (by rw [extract_from, extract_to]; exact h)
theorem open_yes (l : List UInt8) (w : World) (h8 : 8 ≤ l.length) (hl : l.length ≤ 1000000) (h : Opens l) :
    Calls Try.prog 28 #[.string (strL l)] w fun e w' => e = .returned (.tuple #[.string (strL (l.take (l.length - 8))), .int .i64 0]) ∧ Below w.heap.size w w' := by
  have := open_ok (strL l) w (by rw [strL_size]; exact hl) (l.length - 8) (by rw [strL_size]; omega) _ rfl (by rw [extract_from, extract_to]; exact h.symm)
  rw [extract_str] at this
  exact this
end Go.Proofs.Ytookklmcgidcfaa
