/- The law's does, whole. -/
import Derived.Test.YtjhndhibojndfaaEl
import Derived.Test.YtjhndhibojndfaaEm
import Derived.Test.YtjhndhibojndfaaEn
namespace Go.Proofs.Ytjhndhibojndfaa
open Go.RowKit
set_option maxHeartbeats 8000000 in
set_option maxRecDepth 10000 in
theorem does_none {B t m : Nat} {d : Dv} {x : World} (hB : Both B t m d x) (c : AcT) (n1 : c.kd ≠ 1) (n2 : c.kd ≠ 2) (n3 : c.kd ≠ 3) (n4 : c.kd ≠ 4) (n5 : c.kd ≠ 5) (n6 : c.kd ≠ 6) :
    Calls Try.prog 8 #[.pointer (some ⟨t + 3, 0, none⟩), .pointer (some ⟨m, 0, none⟩), .agg #[.int .i64 c.kd, .int .i64 c.b.1, .int .i64 c.b.2, .string c.s, .int .i64 c.n, .slice c.po c.np c.pc]] x fun e y => e = .returned (.bool true) ∧ (∃ d', Both B t m d' y ∧ d'.jobs.length ≤ d.jobs.length + 1) ∧ Below B x y := by
  obtain ⟨kd, ⟨a, n⟩, s, nn, po, np, pc, pz⟩ := c
  simp only at n1 n2 n3 n4 n5 n6 ⊢
  have hb1 := (Below.refl x.heap.size x).alloc (Nat.le_refl _) (.cells #[.int .i64 kd, .int .i64 a, .int .i64 n, .string s, .int .i64 nn, .slice po np pc] 35)
  have HB1 := hide (hB.below hb1)
  have HBL := hide (hb1.mono hB.low)
  have m1 : (kd == 1) = false := by simpa using n1
  have m2 : (kd == 2) = false := by simpa using n2
  have m3 : (kd == 3) = false := by simpa using n3
  have m4 : (kd == 4) = false := by simpa using n4
  have m5 : (kd == 5) = false := by simpa using n5
  have m6 : (kd == 6) = false := by simpa using n6
  clear hB hb1
  go_enter Try.func8, Try.ntmps8
  go_wp2
  go_ret
  exact ⟨rfl, ⟨d, HB1.out, by omega⟩, HBL.out⟩
theorem law_does {B t m : Nat} {d : Dv} {x : World} (hB : Both B t m d x) (c : AcT) (hc : AcOk x c) (hlow : 0 < c.np → ∀ g off, c.po = some ⟨g, off, none⟩ → g < B) (hj : d.jobs.length < 1000) :
    Calls Try.prog 8 #[.pointer (some ⟨t + 3, 0, none⟩), .pointer (some ⟨m, 0, none⟩), .agg #[.int .i64 c.kd, .int .i64 c.b.1, .int .i64 c.b.2, .string c.s, .int .i64 c.n, .slice c.po c.np c.pc]] x fun e y => e = .returned (.bool true) ∧ (∃ d', Both B t m d' y ∧ d'.jobs.length ≤ d.jobs.length + 1) ∧ Below B x y := by
  by_cases g1 : c.kd = 1
  · exact does_write hB c hc hlow g1 hj
  by_cases g2 : c.kd = 2
  · exact does_read hB c hc hlow g2 hj
  by_cases g3 : c.kd = 3
  · exact does_do hB c hc hlow g3
  by_cases g4 : c.kd = 4
  · exact does_take hB c hc hlow g4
  by_cases g5 : c.kd = 5
  · exact does_crash hB c hc hlow g5
  by_cases g6 : c.kd = 6
  · exact does_start hB c hc hlow g6
  exact does_none hB c g1 g2 g3 g4 g5 g6
end Go.Proofs.Ytjhndhibojndfaa
