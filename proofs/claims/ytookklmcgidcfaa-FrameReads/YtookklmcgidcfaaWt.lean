/- The walks of sealing: seal.Seal, and the reference's. -/
import Derived.Test.YtookklmcgidcfaaWs
namespace Go.Proofs.Ytookklmcgidcfaa
open Go.RowKit

set_option maxHeartbeats 400000 in
theorem seal_any (s : ByteArray) (w : World) (hs : s.size ≤ 1000000) :
    Calls Try.prog 18 #[.string s] w fun e w' => e = .returned (.string (strL (sealL s.data.toList))) ∧ Below w.heap.size w w' := by
  have HA : Hid (s ++ (⟨(bytesL (fun _ => sumL s.data.toList) 8).toArray⟩ : ByteArray) = strL (sealL s.data.toList)) := str_append s (bytes8 (sumL s.data.toList))
  go_enter Try.func18, Try.ntmps18
  go_wp2_with fail
  refine (sum_any _ _ (by omega)).mono ?_
  rintro e w1 ⟨rfl, rfl⟩
  have SL := hide (sl_one w1 29 (sumL s.data.toList))
  generalize sumL s.data.toList = x at *
  have b1 : Below w1.heap.size w1 (w1.alloc (.cells #[.int .u64 (x : Int)] 29)) := (Below.refl _ _).alloc (Nat.le_refl _) _
  go_wp2_with fail
  refine (bytes_ok _ 1 1 8 (fun _ => x) _ (by omega) SL.out (by decide) (fun i h1 h2 => by omega)).mono ?_
  rintro e w2 ⟨rfl, b2⟩
  replace b2 := b1.trans (b2.mono b1.size)
  have hsz : (⟨(bytesL (fun _ => x) 8).toArray⟩ : ByteArray).size = 8 := by show (bytesL (fun _ => x) 8).toArray.size = 8; simp [bytesL_length]
  generalize (⟨(bytesL (fun _ => x) 8).toArray⟩ : ByteArray) = T at *
  go_wp2
  go_ret
  exact ⟨ret_str HA.out, b2⟩
set_option maxHeartbeats 800000 in
theorem rseal_any (s : ByteArray) (w : World) (hs : s.size ≤ 1000000000) :
    Calls Try.prog 14 #[.string s] w fun e w' => e = .returned (.string (strL (sealL s.data.toList))) ∧ Below w.heap.size w w' := by
  have HE : Hid (strL (s.data.toList ++ bytesL (fun _ => sumL s.data.toList) 8) = strL (sealL s.data.toList)) := rfl
  have hl := sumL_lt s.data.toList
  go_enter Try.func14, Try.ntmps14
  go_wp2_with fail
  refine (rsum_any _ _ hs).mono ?_
  rintro e x1 ⟨rfl, rfl⟩
  generalize sumL s.data.toList = S at *
  go_wp2
  go_loopw [0, 3, 4] (fun x y i wr => ∃ k : Nat, k ≤ 8 ∧ i = .int .i64 k ∧ y = .int .u64 ((S / 2 ^ (8 * k) : Nat) : Int) ∧ x = .string (strL (s.data.toList ++ bytesL (fun _ => S) k)) ∧ Below x1.heap.size x1 wr) (fun _ _ i _ => 8 - (intOf i).toNat)
  case atStart => exact ⟨0, by omega, rfl, by simp, by simp [bytesL, strL], Below.refl _ _⟩
  case round =>
    obtain ⟨k, hk, rfl, rfl, rfl, b1⟩ := hrel
    by_cases hlt : k < 8
    · obtain ⟨n, HN⟩ : ∃ n, Hid (n = S / 2 ^ (8 * k)) := ⟨_, rfl⟩
      obtain ⟨t, HT⟩ : ∃ t, Hid (t = strL (s.data.toList ++ bytesL (fun _ => S) k)) := ⟨_, rfl⟩
      have hn : n < 18446744073709551616 := by rw [HN.out]; exact Nat.lt_of_le_of_lt (Nat.div_le_self _ _) hl
      have HN2 : Hid (n / 256 = S / 2 ^ (8 * (k + 1))) := by rw [HN.out]; exact div_byte S k
      have HT2 : Hid (t ++ (⟨[UInt8.ofNat (n % 256)].toArray⟩ : ByteArray) = strL (s.data.toList ++ bytesL (fun _ => S) (k + 1))) := by
        unfold Hid
        rw [str_append, HT.out, strL_toList, bytesL_succ, byteAt_one S k hlt, HN.out, List.append_assoc]
      have hts : t.size ≤ 1000000008 := by
        rw [HT.out, strL_size, List.length_append, bytesL_length, show s.data.toList.length = s.size by simp]; omega
      have hcat : ¬ 9223372036854775807 < t.size + 1 := by omega
      rw [← HN.out, ← HT.out]
      have kc := run_convert_bytes_back (P := Try.prog) (wr.alloc (.cells #[.int .u8 ((n : Int) % 256)] 5)) 46 9 5 ⟨wr.heap.size, 0, none⟩ 1 [UInt8.ofNat (n % 256)] Try.underlying46 Try.underlying5 Try.underlying9 (fun j hj => by
        have hj' : j = 0 := by simpa using hj
        subst hj'
        rw [Go.WideShapes.add_plain, World.cell?_alloc_new]
        have := ofNat_toNat (show n % 256 < 256 by omega)
        simp [this])
      simp only [List.length_singleton] at kc
      have b2 : Below x1.heap.size x1 (wr.alloc (.cells #[.int .u8 ((n : Int) % 256)] 5)) := b1.alloc b1.size _
      go_wp2
      go_roundw
      case rel => exact ⟨k + 1, by omega, by go_num, by rw [← HN2.out]; go_num, by rw [← HT2.out], b2⟩
      case measure => simp [intOf]; omega
    · have e : k = 8 := by omega
      subst e
      go_wp2
      go_ret
      exact ⟨ret_str HE.out, b1⟩
end Go.Proofs.Ytookklmcgidcfaa
