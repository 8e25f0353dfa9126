/- torn -/
import Derived.Test.YtjhndhibojndfaaDd
namespace Go.Proofs.Ytjhndhibojndfaa
open Go.RowKit Go.Maps
theorem device_torn (w : World) (had tobe : ByteArray) (p : Int) (hp : 2 ≤ p) (hp2 : p ≤ 9223372036854775807) (h1 : had.size ≤ 131072) (h2 : tobe.size ≤ 131072) :
    Calls Try.prog 43 #[.string had, .string tobe, .int .i64 p] w fun e w' => e = .returned (.string (tornS had tobe p)) ∧ ∃ k, w' = w.drewN k := by
  have hN : (p - 2).tmod ((tobe.size : Int) + 1) = (tornN tobe.size p : Int) := by
    rw [Int.tmod_eq_emod_of_nonneg (by omega)]
    unfold tornN
    have := Int.emod_nonneg (p - 2) (b := (tobe.size : Int) + 1) (by omega)
    omega
  have hle := tornN_le tobe.size p
  have hS : tornS had tobe p = tobe.extract 0 (tornN tobe.size p) ++ had.extract (min (tornN tobe.size p) had.size) had.size := rfl
  generalize tornN tobe.size p = n at *
  generalize tornS had tobe p = r at *
  have HS := hide hS
  clear hS
  have h5 : ¬ 9223372036854775807 < n := by omega
  have h6 : ¬ 9223372036854775807 < had.size := by omega
  by_cases h3 : had.size < n
  · go_enter Try.func43, Try.ntmps43
    go_wp2
    go_region_law (fail)
    all_goals
      go_wp2
      go_ret
      refine ⟨?_, ⟨1, rfl⟩⟩
      rw [HS.out, Nat.min_eq_right (by omega)]
      simp [Act.put]
  · have h4 : n ≤ had.size := by omega
    go_enter Try.func43, Try.ntmps43
    go_wp2
    go_region_law (fail)
    all_goals
      go_wp2
      go_ret
      refine ⟨?_, ⟨1, rfl⟩⟩
      rw [HS.out, Nat.min_eq_left (by omega)]
      simp [Act.put]
end Go.Proofs.Ytjhndhibojndfaa
