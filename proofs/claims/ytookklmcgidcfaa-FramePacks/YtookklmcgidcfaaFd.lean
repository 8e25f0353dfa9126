/- The walks of layer 10's awake and of the reference's frame. -/
import Derived.Test.YtookklmcgidcfaaFc
import Derived.Test.YtookklmcgidcfaaWr
namespace Go.Proofs.Ytookklmcgidcfaa
open Go.RowKit
theorem fpack_ex (w : World) : Calls Try.prog 7 #[.int .i64 3, .slice (some ⟨w.heap.size, 0, none⟩) 1 1] (w.alloc (.cells #[.int .u64 7] 29)) fun e w' => ∃ s : ByteArray, e = .returned (.tuple #[.string s, .int .i64 0]) ∧ s.size = 32 ∧ Below w.heap.size w w' := by
  have hb : Below w.heap.size w (w.alloc (.cells #[.int .u64 7] 29)) := (Below.refl _ _).alloc (Nat.le_refl _) _
  refine (fpack_yes 3 _ 1 1 [7] (w.alloc (.cells #[.int .u64 7] 29)) rfl (by decide) (by decide) (by decide) (fun j hj => ?_)).mono ?_
  · have e : j = 0 := by omega
    subst e
    exact ⟨_, 0, rfl, World.cell?_alloc_new (w := w) _ _ 0⟩
  · rintro e x ⟨rfl, b⟩
    exact ⟨_, rfl, by rw [strL_size, frT_length]; rfl, hb.trans (b.mono hb.size)⟩
set_option maxHeartbeats 1000000 in
theorem awake10_any (w : World) :
    Calls Try.prog 6 #[] w fun e w' => e = .returned (.bool true) ∧ Below w.heap.size w w' := by
  go_enter Try.func6, Try.ntmps6
  go_wp2_with fail
  refine (fpack_ex _).mono ?_
  rintro e x ⟨s, rfl, hs, hb⟩
  go_wp2_with fail
  refine (fbytes_yes 1 _ (by omega) (by omega)).mono ?_
  rintro e x2 ⟨rfl, rfl⟩
  go_wp2
  go_ret
  exact ⟨rfl, hb⟩
set_option maxHeartbeats 400000 in
theorem rmay_yes (p n : Int) (w : World) (h1 : 0 ≤ p) (h2 : p ≤ 63) (h3 : 1 ≤ n) (h4 : n ≤ 512) :
    Calls Try.prog 19 #[.int .i64 p, .int .i64 n] w fun e w' => e = .returned (.bool true) ∧ w' = w := by
  go_enter Try.func19, Try.ntmps19
  go_wp2
  go_ret
  exact ⟨ret_bool (by simp; try omega), rfl⟩
set_option maxHeartbeats 400000 in
theorem rmay_no (p n : Int) (w : World) (h : p < 0 ∨ 64 ≤ p ∨ n < 1 ∨ 512 < n) :
    Calls Try.prog 19 #[.int .i64 p, .int .i64 n] w fun e w' => e = .returned (.bool false) ∧ w' = w := by
  by_cases a1 : p < 0
  · clear h
    go_enter Try.func19, Try.ntmps19
    go_wp2
    go_ret
    exact ⟨ret_bool (by simp; try omega), rfl⟩
  by_cases a2 : 64 ≤ p
  · clear h
    go_enter Try.func19, Try.ntmps19
    go_wp2
    go_ret
    exact ⟨ret_bool (by simp; try omega), rfl⟩
  by_cases a3 : n < 1
  · clear h
    go_enter Try.func19, Try.ntmps19
    go_wp2
    go_ret
    exact ⟨ret_bool (by simp; try omega), rfl⟩
  have a4 : 512 < n := by omega
  clear h
  go_enter Try.func19, Try.ntmps19
  go_wp2
  go_ret
  exact ⟨ret_bool (by simp; try omega), rfl⟩
set_option maxHeartbeats 400000 in
theorem rfpack_no (p : Int) (ao : Option Addr) (n cap : Nat) (w : World) (hn : n ≤ 1000000) (h : p < 0 ∨ 64 ≤ p ∨ n < 1 ∨ 512 < n) :
    Calls Try.prog 8 #[.int .i64 p, .slice ao n cap] w fun e w' => e = .returned (.tuple #[.string ⟨#[]⟩, .int .i64 1]) ∧ w' = w := by
  go_enter Try.func8, Try.ntmps8
  go_wp2_with fail
  refine (rmay_no _ _ _ (by omega)).mono ?_
  rintro e x ⟨rfl, rfl⟩
  go_wp2
  go_ret2
  exact ⟨rfl, rfl⟩
theorem valS_append (s : ByteArray) (n : Nat) : s ++ valS n = strL (s.data.toList ++ bytesL (fun _ => n) 8) := str_append s _
theorem valS_eq (n : Nat) : valS n = strL (bytesL (fun _ => n) 8) := rfl
set_option maxHeartbeats 2000000 in
theorem rfpack_run (p : Nat) (ao : Option Addr) (n cap : Nat) (v : Nat → Nat) (T : Nat → ByteArray) (F S0 : ByteArray) (w : World) (hp : p < 64) (h1 : 1 ≤ n) (h2 : n ≤ 512) (HS : Sl .u64 w ao n (fun j => ((v j : Nat) : Int))) (HB : ∀ j, j < n → v j < 18446744073709551616)
    (HX : valS p ++ valS n = S0) (H0 : S0 = T 0) (HN : ∀ k, T k ++ valS (v k) = T (k + 1)) (HZ : ∀ k, (T k).size = 8 * (k + 2)) (HF : ∀ w, Calls Try.prog 14 #[.string (T n)] w fun e w' => e = .returned (.string F) ∧ Below w.heap.size w w') :
    Calls Try.prog 8 #[.int .i64 (p : Int), .slice ao n cap] w fun e w' => e = .returned (.tuple #[.string F, .int .i64 0]) ∧ Below w.heap.size w w' := by
  replace HS := hide HS
  replace HB := hide HB
  replace HX := hide HX
  replace H0 := hide H0
  replace HN := hide HN
  replace HZ := hide HZ
  replace HF := hide HF
  have hz1 : (valS p).size = 8 := valS_size p
  have hz2 : (valS n).size = 8 := valS_size n
  go_enter Try.func8, Try.ntmps8
  go_wp2_with fail
  refine (rmay_yes _ _ _ (by omega) (by omega) (by omega) (by omega)).mono ?_
  rintro e x ⟨rfl, rfl⟩
  go_wp2_with fail
  refine (rvalue_any p _ (by omega)).mono ?_
  rintro e x1 ⟨rfl, b1⟩
  go_wp2_with fail
  refine (rvalue_any n _ (by omega)).mono ?_
  rintro e x2 ⟨rfl, b2⟩
  replace b2 := b1.trans (b2.mono b1.size)
  clear b1
  generalize valS p = A at *
  generalize valS n = B at *
  go_wp2
  rw [HX.out]
  clear HX hz1 hz2
  go_loopw [6, 7] (fun s i wr => ∃ k : Nat, k ≤ n ∧ i = .int .i64 k ∧ s = .string (T k) ∧ Below x.heap.size x wr) (fun _ i _ => n - (intOf i).toNat)
  case atStart => exact ⟨0, by omega, rfl, by rw [H0.out], b2⟩
  case round =>
    clear b2
    obtain ⟨k, hk, rfl, rfl, b⟩ := hrel
    by_cases hlt : k < n
    · obtain ⟨bb, off, hao, hc⟩ := HS.out.below b k hlt
      subst hao
      replace hc : wr.cell? ⟨bb, off + k, none⟩ = some (.int .u64 (v k : Int)) := hc
      have hvk := HB.out k hlt
      have HNk := hide (HN.out k)
      have hzk := HZ.out k
      have hzv : (valS (v k)).size = 8 := valS_size _
      generalize v k = X at *
      obtain ⟨S, HS1⟩ : ∃ S, Hid (T k = S) := ⟨_, rfl⟩
      obtain ⟨S', HS2⟩ : ∃ S', Hid (T (k + 1) = S') := ⟨_, rfl⟩
      rw [HS1.out] at HNk hzk ⊢
      rw [HS2.out] at HNk
      have HRV : Hid (∀ w, Calls Try.prog 20 #[.int .u64 (X : Int)] w fun e w' => e = .returned (.string (valS X)) ∧ Below w.heap.size w w') := fun w => rvalue_any X w hvk
      generalize valS X = Y at *
      go_wp2_with fail
      refine (HRV.out _).mono ?_
      rintro e w3 ⟨rfl, b3⟩
      replace b3 := b.trans (b3.mono b.size)
      go_wp2
      rw [HNk.out]
      go_roundw
      case rel => exact ⟨k + 1, by omega, by go_num, by rw [HS2.out], b3⟩
      case measure => simp [intOf]; omega
    · obtain rfl : k = n := by omega
      generalize T k = S at *
      go_wp2_with fail
      refine (HF.out _).mono ?_
      rintro e w3 ⟨rfl, b3⟩
      replace b3 := b.trans (b3.mono b.size)
      go_wp2
      go_ret2
      exact ⟨rfl, b3⟩
theorem rfpack_yes (p : Nat) (ao : Option Addr) (n cap : Nat) (l : List Nat) (w : World) (hl : l.length = n) (hp : p < 64) (h1 : 1 ≤ n) (h2 : n ≤ 512) (hs : Sl .u64 w ao n (fun j => ((l[j]?.getD 0 : Nat) : Int))) (hv : ∀ j, j < n → l[j]?.getD 0 < 18446744073709551616) :
    Calls Try.prog 8 #[.int .i64 (p : Int), .slice ao n cap] w fun e w' => e = .returned (.tuple #[.string (strL (frT p l)), .int .i64 0]) ∧ Below w.heap.size w w' := by
  have HW : frT p l = sealL (bytesL (fun j => (p :: n :: l)[j]?.getD 0) (8 * (n + 2))) := by
    rw [frT, wordsT, hl]; simp only [List.length_cons, hl]
  refine rfpack_run p ao n cap (fun j => l[j]?.getD 0) (fun k => strL (bytesL (fun j => (p :: n :: l)[j]?.getD 0) (8 * (k + 2)))) _ _ w hp h1 h2 hs hv rfl ?_ (fun k => ?_) (fun k => ?_) (fun w => ?_)
  · rw [valS_append, valS_eq, strL_toList, show 8 * (0 + 2) = 8 * (1 + 1) by rfl, bytesL_word, show 8 * 1 = 8 * (0 + 1) by rfl, bytesL_word]
    rfl
  · rw [valS_append, strL_toList]
    exact congrArg strL (bytesL_word (fun j => (p :: n :: l)[j]?.getD 0) (k + 2)).symm
  · rw [strL_size, bytesL_length]
  · rw [HW]
    exact rseal_any _ w (by rw [strL_size, bytesL_length]; omega)
end Go.Proofs.Ytookklmcgidcfaa
