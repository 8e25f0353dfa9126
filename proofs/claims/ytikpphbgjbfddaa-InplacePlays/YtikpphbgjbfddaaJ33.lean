/- Parts of the proof: Jq. -/
import Derived.Test.YtikpphbgjbfddaaJ32
namespace Go.Proofs.Ytikpphbgjbfddaa
set_option maxRecDepth 20000
open Go.RowKit
set_option maxHeartbeats 1000000 in
theorem fit_any (s : ByteArray) (hs : s.size ≤ 9223372036854775807) (n : Nat) (hn : n ≤ 1000) (w : World) :
    Calls Try.prog 27 #[.string s, .int .i64 (n : Int)] w fun e w' => ∃ v : ByteArray, v.size = n ∧ e = .returned (.string v) ∧ Below w.heap.size w w' := by
  by_cases h : n ≤ s.size
  · have hsz : (s.extract 0 n).size = n := by rw [ByteArray.size_extract]; omega
    have HZ := hide hsz
    clear hsz
    go_enter Try.func27, Try.ntmps27
    go_wp2
    go_ret
    exact ⟨_, HZ.out, rfl, Below.refl _ _⟩
  · obtain ⟨i0, hi, hz0, hz1, hz2⟩ := info_parts Try.infoU8
    obtain ⟨m, hm⟩ : ∃ m, n = s.size + m := ⟨n - s.size, by omega⟩
    have hm0 : ((n : Int) - (s.size : Int)) = (m : Int) := by omega
    have hlt : ¬ (n : Int) ≤ (s.size : Int) := by omega
    have HM := hide hm
    have hmn : m ≤ 1000 := by omega
    clear h hm
    generalize hss : s.size = k at *
    go_enter Try.func27, Try.ntmps27
    go_wp2_with (at_make; refine wpList_make_full _ rfl _ _ 23 rfl w.heap.size 5 i0 (.int .u8 0) 1 Try.underlying23 hi hz0 hz1 _ _ _ _ m rfl rfl ?a1 ?a2 ?b1 ?b2 (Nat.le_refl _) ?_)
    case a1 => first | exact hm0 | omega
    case a2 => first | exact hm0 | omega
    case b1 => first | omega | (rw [hz2]; omega)
    case b2 => unfold maxLen; omega
    intro w1 hown hgrow
    have hown1 : w1.ownsRow w.heap.size 5 1 (.slice (some ⟨w.heap.size, 0, none⟩) (List.replicate m (0 : UInt8)).length m) (List.replicate m (0 : UInt8)).length (bytesV (List.replicate m (0 : UInt8))) := by
      rw [List.length_replicate]
      have e : bytesV (List.replicate m (0 : UInt8)) = (madeCells #[.int .u8 0] m).toList := by
        simp [bytesV, toList_madeCells_one]
      rw [e]; exact hown
    have hb1 : Below w.heap.size w w1 := (Below.refl _ _).grown hgrow (Nat.le_refl _) (by simp)
    have kc := run_convert_bytes_back (P := Try.prog) w1 23 9 5 ⟨w.heap.size, 0, none⟩ m (List.replicate m (0 : UInt8)) Try.underlying23 Try.underlying5 Try.underlying9 (own_str hown1)
    rw [List.length_replicate] at kc
    clear hown hgrow hown1
    go_wp2
    go_ret
    refine ⟨_, ?_, rfl, hb1⟩
    rw [HM.out, ← hss, ByteArray.size_append]
    show s.size + (List.replicate m (0 : UInt8)).toArray.size = s.size + m
    rw [List.size_toArray, List.length_replicate]
end Go.Proofs.Ytikpphbgjbfddaa
