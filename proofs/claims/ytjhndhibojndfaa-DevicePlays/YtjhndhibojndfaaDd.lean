/- Package device: Peek, torn. -/
import Derived.Test.YtjhndhibojndfaaDc
namespace Go.Proofs.Ytjhndhibojndfaa
open Go.RowKit Go.Maps
set_option maxHeartbeats 1000000 in
theorem device_peek {w : World} {t : Nat} {d : Dv} (h : DvIs w t d) (b : Bk) (hb : okK b) :
    Calls Try.prog 19 #[.pointer (some ⟨t + 3, 0, none⟩), bkV b] w fun e w' => e = .returned (.tuple #[.string ((lookL d.items b).getD ⟨#[]⟩), .bool (lookL d.items b).isSome]) ∧ Below w.heap.size w w' := by
  have hl := ((h.mb.alloc (.cells #[.int .i64 b.1, .int .i64 b.2] 32)).drew 1).look hb
  have hl' := (((h.mb.alloc (.cells #[.int .i64 b.1, .int .i64 b.2] 32)).alloc (.cells #[.string ⟨#[]⟩] 75)).drew 1).look hb
  have h2 := cell_alloc h.c2 (.cells #[.int .i64 b.1, .int .i64 b.2] 32)
  have h2' := cell_alloc h2 (.cells #[.string ⟨#[]⟩] 75)
  obtain ⟨a, n⟩ := b
  simp only [bkV, MB, coV] at hl hl' ⊢
  change Sem.run _ _ (World.drew _) = _ at hl
  change Sem.run _ _ (World.drew _) = _ at hl'
  generalize (lookL d.items (a, n)).getD ⟨#[]⟩ = s at *
  generalize (lookL d.items (a, n)).isSome = o at *
  clear h hb
  go_enter Try.func19, Try.ntmps19
  go_wp2
  go_region_law (fail)
  all_goals
    go_wp2
    go_ret2
    have hB := below_drewN (((Below.refl w.heap.size w).alloc (Nat.le_refl _) (.cells #[.int .i64 a, .int .i64 n] 32)).alloc (by simp) (.cells #[.string ⟨#[]⟩] 75)) 1
    first | exact ⟨rfl, below_drewN (((Below.refl _ _).alloc (Nat.le_refl _) _).alloc (by simp) _) 1⟩ | exact ⟨rfl, hB.setCell (by simp) _⟩
end Go.Proofs.Ytjhndhibojndfaa
