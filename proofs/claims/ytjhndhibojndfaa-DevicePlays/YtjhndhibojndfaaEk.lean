/- The law's does. -/
import Derived.Test.YtjhndhibojndfaaEi
import Derived.Test.YtjhndhibojndfaaEj
namespace Go.Proofs.Ytjhndhibojndfaa
open Go.RowKit
theorem Both.low {B t m : Nat} {d : Dv} {x : World} (h : Both B t m d x) : B ≤ x.heap.size := by have := h.dv.lt; have := h.Bt; omega
theorem box_at {x y : World} {a b c d e f : Value} {T : TypeId} {t : Nat} (hk : Keeps (InD t) (x.alloc (.cells #[a, b, c, d, e, f] T)) y) (ht : t + 3 < x.heap.size) :
    y.cell? ⟨x.heap.size, 1, none⟩ = some b ∧ y.cell? ⟨x.heap.size, 2, none⟩ = some c ∧ y.cell? ⟨x.heap.size, 3, none⟩ = some d ∧ y.cell? ⟨x.heap.size, 4, none⟩ = some e ∧ y.cell? ⟨x.heap.size, 5, none⟩ = some f := (box6 hk ht).2
set_option maxHeartbeats 8000000 in
set_option maxRecDepth 10000 in
theorem does_write {B t m : Nat} {d : Dv} {x : World} (hB : Both B t m d x) (c : AcT) (hc : AcOk x c) (hlow : 0 < c.np → ∀ g off, c.po = some ⟨g, off, none⟩ → g < B) (hk : c.kd = 1) (hj : d.jobs.length < 1000) :
    Calls Try.prog 8 #[.pointer (some ⟨t + 3, 0, none⟩), .pointer (some ⟨m, 0, none⟩), .agg #[.int .i64 c.kd, .int .i64 c.b.1, .int .i64 c.b.2, .string c.s, .int .i64 c.n, .slice c.po c.np c.pc]] x fun e y => e = .returned (.bool true) ∧ (∃ d', Both B t m d' y ∧ d'.jobs.length ≤ d.jobs.length + 1) ∧ Below B x y := by
  obtain ⟨kd, ⟨a, n⟩, s, nn, po, np, pc, pz⟩ := c
  simp only at hlow hk ⊢
  subst hk
  have hb1 := (Below.refl x.heap.size x).alloc (Nat.le_refl _) (.cells #[.int .i64 1, .int .i64 a, .int .i64 n, .string s, .int .i64 nn, .slice po np pc] 35)
  have hB1 := hB.below hb1
  have ht3 := hB.dv.lt
  have hlo := hB.low
  have htm := hB.tm
  have hBt := hB.Bt
  have HB1 := hide hB1
  have HBL := hide (hb1.mono hlo)
  have HC := hide hc
  have HC1 := hide (hc.below hb1)
  clear hB hB1 hb1 hc
  have hW := device_write HB1.out.dv (a, n) s hj
  simp only [bkV] at hW
  have hdl := askD_len d (a, n) true s
  go_enter Try.func8, Try.ntmps8
  go_wp2_with fail
  refine hW.mono ?_
  rintro e y ⟨rfl, hd1, k1⟩
  obtain ⟨hH, hb2⟩ := HB1.out.step hd1 k1
  obtain ⟨p1, p2, p3, p4, p5⟩ := box_at k1 ht3
  obtain ⟨vi, vj, hr⟩ := hH.rf
  have hA := ref_ask hr (a, n) true s hj
  simp only [bkV] at hA
  have HH := hide hH
  have HB2 := hide (HBL.out.trans hb2)
  clear hW hd1 k1 hH hb2 hr
  generalize askT d (a, n) true s = TT at *
  generalize askE d (a, n) true s = EE at *
  generalize askD d (a, n) true s = d1 at *
  go_wp2_with fail
  refine hA.mono ?_
  rintro e y2 ⟨rfl, ⟨vj', hr2⟩, hb3⟩
  obtain ⟨hF, hb4⟩ := HH.out.step ⟨vi, vj', hr2⟩ hb3
  have HF := hide hF
  have HB3 := hide (HB2.out.trans hb4)
  clear hA hr2 hb3 hF hb4 HH HB2
  go_wp2
  go_ret
  exact ⟨ret_bool (by simp), ⟨d1, HF.out, hdl⟩, HB3.out⟩
set_option maxHeartbeats 8000000 in
set_option maxRecDepth 10000 in
theorem does_read {B t m : Nat} {d : Dv} {x : World} (hB : Both B t m d x) (c : AcT) (hc : AcOk x c) (hlow : 0 < c.np → ∀ g off, c.po = some ⟨g, off, none⟩ → g < B) (hk : c.kd = 2) (hj : d.jobs.length < 1000) :
    Calls Try.prog 8 #[.pointer (some ⟨t + 3, 0, none⟩), .pointer (some ⟨m, 0, none⟩), .agg #[.int .i64 c.kd, .int .i64 c.b.1, .int .i64 c.b.2, .string c.s, .int .i64 c.n, .slice c.po c.np c.pc]] x fun e y => e = .returned (.bool true) ∧ (∃ d', Both B t m d' y ∧ d'.jobs.length ≤ d.jobs.length + 1) ∧ Below B x y := by
  obtain ⟨kd, ⟨a, n⟩, s, nn, po, np, pc, pz⟩ := c
  simp only at hlow hk ⊢
  subst hk
  have hb1 := (Below.refl x.heap.size x).alloc (Nat.le_refl _) (.cells #[.int .i64 2, .int .i64 a, .int .i64 n, .string s, .int .i64 nn, .slice po np pc] 35)
  have hB1 := hB.below hb1
  have ht3 := hB.dv.lt
  have hlo := hB.low
  have htm := hB.tm
  have hBt := hB.Bt
  have HB1 := hide hB1
  have HBL := hide (hb1.mono hlo)
  have HC := hide hc
  have HC1 := hide (hc.below hb1)
  clear hB hB1 hb1 hc
  have hW := device_read HB1.out.dv (a, n) hj
  simp only [bkV] at hW
  have hdl := askD_len d (a, n) false ⟨#[]⟩
  go_enter Try.func8, Try.ntmps8
  go_wp2_with fail
  refine hW.mono ?_
  rintro e y ⟨rfl, hd1, k1⟩
  obtain ⟨hH, hb2⟩ := HB1.out.step hd1 k1
  obtain ⟨p1, p2, p3, p4, p5⟩ := box_at k1 ht3
  obtain ⟨vi, vj, hr⟩ := hH.rf
  have hA := ref_ask hr (a, n) false ⟨#[]⟩ hj
  simp only [bkV] at hA
  have HH := hide hH
  have HB2 := hide (HBL.out.trans hb2)
  clear hW hd1 k1 hH hb2 hr
  generalize askT d (a, n) false ⟨#[]⟩ = TT at *
  generalize askE d (a, n) false ⟨#[]⟩ = EE at *
  generalize askD d (a, n) false ⟨#[]⟩ = d1 at *
  go_wp2_with fail
  refine hA.mono ?_
  rintro e y2 ⟨rfl, ⟨vj', hr2⟩, hb3⟩
  obtain ⟨hF, hb4⟩ := HH.out.step ⟨vi, vj', hr2⟩ hb3
  have HF := hide hF
  have HB3 := hide (HB2.out.trans hb4)
  clear hA hr2 hb3 hF hb4 HH HB2
  go_wp2
  go_ret
  exact ⟨ret_bool (by simp), ⟨d1, HF.out, hdl⟩, HB3.out⟩
end Go.Proofs.Ytjhndhibojndfaa
