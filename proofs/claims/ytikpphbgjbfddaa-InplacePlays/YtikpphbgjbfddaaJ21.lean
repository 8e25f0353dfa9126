/- Parts of the proof: Jl. -/
import Derived.Test.YtikpphbgjbfddaaJ17
import Derived.Test.YtikpphbgjbfddaaJ20
namespace Go.Proofs.Ytikpphbgjbfddaa
set_option maxRecDepth 20000
open Go.RowKit
set_option maxHeartbeats 1000000 in
theorem rc_of (s : ByteArray) (w : World) (hs : s.size ≤ 1000000) :
    Calls Try.prog 26 #[.string s] w fun e w' => ∃ m v, e = .returned (.pointer (some ⟨m, 0, none⟩)) ∧ RcIs w' w.heap.size m v ⟨false, 0, wordsL s.data.toList (wordsFor s.size)⟩ ∧ w.heap.size ≤ m ∧ (∀ g, v.ownBlock = some g → w.heap.size ≤ g) ∧ Below w.heap.size w w' := by
  have hlen : (wordsL s.data.toList (wordsFor s.size)).length = wordsFor s.size := wordsL_length _ _
  have HW := hide (fun w => rwords_own s w hs)
  generalize wordsL s.data.toList (wordsFor s.size) = l at *
  rw [← hlen] at HW
  clear hs
  go_enter Try.func26, Try.ntmps26
  go_wp2_with fail
  refine (HW.out _).mono ?_
  rintro e y ⟨u, rfl, hown, hb⟩
  obtain ⟨ao, cap, rfl, -, -, -⟩ := own_slice hown
  have hge : ∀ g, (Value.slice ao l.length cap).ownBlock = some g → w.heap.size ≤ g ∧ g < y.heap.size := fun g e => hown.lt g e
  have hR : RcIs (y.alloc (.cells #[.bool false, .int .u64 0, .slice ao l.length cap] 45)) w.heap.size y.heap.size (.slice ao l.length cap) ⟨false, 0, l⟩ :=
    ⟨by simp, by simp, by simp, by simp, by simp, hown.alloc _, fun e => by have := (hge _ e).2; omega⟩
  have H := hide hR
  have hb' := hb.alloc hb.size (.cells #[.bool false, .int .u64 0, .slice ao l.length cap] 45)
  clear hR hown hlen
  go_wp2
  go_ret
  exact ⟨_, _, rfl, H.out, hb.size, fun g e => (hge g e).1, hb'⟩
end Go.Proofs.Ytikpphbgjbfddaa
