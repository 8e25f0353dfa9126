/- The law's does: Take, Start. -/
import Derived.Test.YtjhndhibojndfaaEk
namespace Go.Proofs.Ytjhndhibojndfaa
open Go.RowKit
set_option maxHeartbeats 8000000 in
set_option maxRecDepth 10000 in
theorem does_take {B t m : Nat} {d : Dv} {x : World} (hB : Both B t m d x) (c : AcT) (hc : AcOk x c) (hlow : 0 < c.np → ∀ g off, c.po = some ⟨g, off, none⟩ → g < B) (hk : c.kd = 4) :
    Calls Try.prog 8 #[.pointer (some ⟨t + 3, 0, none⟩), .pointer (some ⟨m, 0, none⟩), .agg #[.int .i64 c.kd, .int .i64 c.b.1, .int .i64 c.b.2, .string c.s, .int .i64 c.n, .slice c.po c.np c.pc]] x fun e y => e = .returned (.bool true) ∧ (∃ d', Both B t m d' y ∧ d'.jobs.length ≤ d.jobs.length + 1) ∧ Below B x y := by
  obtain ⟨kd, ⟨a, n⟩, s, nn, po, np, pc, pz⟩ := c
  simp only at hlow hk ⊢
  subst hk
  have hb1 := (Below.refl x.heap.size x).alloc (Nat.le_refl _) (.cells #[.int .i64 4, .int .i64 a, .int .i64 n, .string s, .int .i64 nn, .slice po np pc] 35)
  have hB1 := hB.below hb1
  have ht3 := hB.dv.lt
  have hlo := hB.low
  have htm := hB.tm
  have hBt := hB.Bt
  have HB1 := hide hB1
  have HBL := hide (hb1.mono hlo)
  have HC := hide hc
  have HC1 := hide (hc.below hb1)
  clear hB hB1 hb1 hc
  have hnn := HC.out.n
  simp only at hnn
  have hW := device_take HB1.out.dv nn hnn
  have hdl := takeD_len d nn
  go_enter Try.func8, Try.ntmps8
  go_wp2_with fail
  refine hW.mono ?_
  rintro e y ⟨rfl, hd1, k1⟩
  obtain ⟨hH, hb2⟩ := HB1.out.step hd1 k1
  obtain ⟨p1, p2, p3, p4, p5⟩ := box_at k1 ht3
  obtain ⟨vi, vj, hr⟩ := hH.rf
  have hA := ref_take hr nn hnn
  have HH := hide hH
  have HB2 := hide (HBL.out.trans hb2)
  clear hW hd1 k1 hH hb2 hr
  generalize takeS d nn = TT at *
  generalize takeE d nn = EE at *
  generalize takeD d nn = d1 at *
  go_wp2_with fail
  refine hA.mono ?_
  rintro e y2 ⟨rfl, hr2, hb3⟩
  obtain ⟨hF, hb4⟩ := HH.out.step ⟨vi, vj, hr2⟩ hb3
  have HF := hide hF
  have HB3 := hide (HB2.out.trans hb4)
  clear hA hr2 hb3 hF hb4 HH HB2
  go_wp2
  go_ret
  exact ⟨ret_bool (by simp), ⟨d1, HF.out, by omega⟩, HB3.out⟩
set_option maxHeartbeats 8000000 in
set_option maxRecDepth 10000 in
theorem does_start {B t m : Nat} {d : Dv} {x : World} (hB : Both B t m d x) (c : AcT) (hc : AcOk x c) (hlow : 0 < c.np → ∀ g off, c.po = some ⟨g, off, none⟩ → g < B) (hk : c.kd = 6) :
    Calls Try.prog 8 #[.pointer (some ⟨t + 3, 0, none⟩), .pointer (some ⟨m, 0, none⟩), .agg #[.int .i64 c.kd, .int .i64 c.b.1, .int .i64 c.b.2, .string c.s, .int .i64 c.n, .slice c.po c.np c.pc]] x fun e y => e = .returned (.bool true) ∧ (∃ d', Both B t m d' y ∧ d'.jobs.length ≤ d.jobs.length + 1) ∧ Below B x y := by
  obtain ⟨kd, ⟨a, n⟩, s, nn, po, np, pc, pz⟩ := c
  simp only at hlow hk ⊢
  subst hk
  have hb1 := (Below.refl x.heap.size x).alloc (Nat.le_refl _) (.cells #[.int .i64 6, .int .i64 a, .int .i64 n, .string s, .int .i64 nn, .slice po np pc] 35)
  have hB1 := hB.below hb1
  have ht3 := hB.dv.lt
  have hlo := hB.low
  have htm := hB.tm
  have hBt := hB.Bt
  have HB1 := hide hB1
  have HBL := hide (hb1.mono hlo)
  have HC := hide hc
  have HC1 := hide (hc.below hb1)
  clear hB hB1 hb1 hc
  have hW := device_start HB1.out.dv
  have hdl : (startD d).jobs.length = d.jobs.length := rfl
  go_enter Try.func8, Try.ntmps8
  go_wp2_with fail
  refine hW.mono ?_
  rintro e y ⟨rfl, hd1, k1⟩
  obtain ⟨hH, hb2⟩ := HB1.out.step hd1 k1
  obtain ⟨p1, p2, p3, p4, p5⟩ := box_at k1 ht3
  obtain ⟨vi, vj, hr⟩ := hH.rf
  have hA := ref_start hr
  have HH := hide hH
  have HB2 := hide (HBL.out.trans hb2)
  clear hW hd1 k1 hH hb2 hr
  generalize startE d = EE at *
  generalize startD d = d1 at *
  go_wp2_with fail
  refine hA.mono ?_
  rintro e y2 ⟨rfl, hr2, hb3⟩
  obtain ⟨hF, hb4⟩ := HH.out.step ⟨vi, vj, hr2⟩ hb3
  have HF := hide hF
  have HB3 := hide (HB2.out.trans hb4)
  clear hA hr2 hb3 hF hb4 HH HB2
  go_wp2
  go_ret
  exact ⟨ret_bool (by simp), ⟨d1, HF.out, by omega⟩, HB3.out⟩
end Go.Proofs.Ytjhndhibojndfaa
