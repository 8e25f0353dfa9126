/- The law's does: Crash. -/
import Derived.Test.YtjhndhibojndfaaEk
namespace Go.Proofs.Ytjhndhibojndfaa
open Go.RowKit
set_option maxHeartbeats 8000000 in
set_option maxRecDepth 10000 in
theorem does_crash {B t m : Nat} {d : Dv} {x : World} (hB : Both B t m d x) (c : AcT) (hc : AcOk x c) (hlow : 0 < c.np → ∀ g off, c.po = some ⟨g, off, none⟩ → g < B) (hk : c.kd = 5) :
    Calls Try.prog 8 #[.pointer (some ⟨t + 3, 0, none⟩), .pointer (some ⟨m, 0, none⟩), .agg #[.int .i64 c.kd, .int .i64 c.b.1, .int .i64 c.b.2, .string c.s, .int .i64 c.n, .slice c.po c.np c.pc]] x fun e y => e = .returned (.bool true) ∧ (∃ d', Both B t m d' y ∧ d'.jobs.length ≤ d.jobs.length + 1) ∧ Below B x y := by
  obtain ⟨kd, ⟨a, n⟩, s, nn, po, np, pc, pz⟩ := c
  simp only at hlow hk ⊢
  subst hk
  have hb1 := (Below.refl x.heap.size x).alloc (Nat.le_refl _) (.cells #[.int .i64 5, .int .i64 a, .int .i64 n, .string s, .int .i64 nn, .slice po np pc] 35)
  have hB1 := hB.below hb1
  have ht3 := hB.dv.lt
  have hlo := hB.low
  have htm := hB.tm
  have hBt := hB.Bt
  have HB1 := hide hB1
  have HBL := hide (hb1.mono hlo)
  have HC := hide hc
  have HC1 := hide (hc.below hb1)
  obtain ⟨vi, vj, hrx⟩ := hB.rf
  have hgj : vj.ownBlock ≠ some x.heap.size := fun e => by have := (hrx.gj e).2; omega
  have hmx := hrx.lt
  have HRX := hide (hrx.below hb1)
  have HZY : Hid (∀ y, Below B x y → Sl .i64 y po np pz) := fun y hy j hj => by
    obtain ⟨b, off, h1, h2⟩ := hc.sl j hj
    exact ⟨b, off, h1, by rw [hy.cell (hlow (Nat.lt_of_le_of_lt (Nat.zero_le _) hj) b off h1)]; exact h2⟩
  clear hB hB1 hb1 hc hrx
  have hdl := crashD_len d (fun i => if i < np then pz i else 0)
  have hzw := HC.out.z
  have hnp := HC.out.np
  simp only at hzw hnp
  have hpo1 : 0 < np → ∀ g off, po = some ⟨g, off, none⟩ → ¬ InD t g := fun h0 g off e hi => by have := hlow h0 g off e; have := hi.1; omega
  have hpo2 : 0 < np → ∀ g off, po = some ⟨g, off, none⟩ → g < m := fun h0 g off e => by have := hlow h0 g off e; omega
  go_enter Try.func8, Try.ntmps8
  go_wp2
  have p4 : (x.alloc (.cells #[.int .i64 5, .int .i64 a, .int .i64 n, .string s, .int .i64 nn, .slice po np pc] 35)).cell? ⟨x.heap.size, 5, none⟩ = some (.slice po np pc) := by simp
  have hxs : x.heap.size < (x.alloc (.cells #[.int .i64 5, .int .i64 a, .int .i64 n, .string s, .int .i64 nn, .slice po np pc] 35)).heap.size := by simp
  generalize x.alloc (.cells #[.int .i64 5, .int .i64 a, .int .i64 n, .string s, .int .i64 nn, .slice po np pc] 35) = x1 at *
  generalize hbx : x.heap.size = Bx at *
  have HBd : Hid (Both B t m d (x1.drewN 1)) := HB1.out.below (below_drewN (Below.refl _ _) 1)
  have HBLd := hide (below_drewN HBL.out 1)
  have HRd := hide (HRX.out.drew 1)
  have nin : ¬ InD t Bx := fun hi => by have := hi.2; omega
  have nin2 : ¬ RS m vj Bx := fun hi => by
    rcases hi with e | e
    · omega
    · exact hgj e
  have hzx := HZY.out _ HBLd.out
  have HHZ := hide hzx
  clear HB1 HBL HC1 HRX hzx
  go_region_held3 (fun W => W.cell? ⟨Bx, 5, none⟩ = some (.slice po np pc)) (first | assumption | go_keep) (first | (go_at_call 18; refine (device_crash HBd.out.dv po np pc pz HHZ.out hzw hnp hpo1).mono ?_; rintro e y ⟨rfl, hd1, k1⟩; have hst := HBd.out.step hd1 k1; have q1 : y.cell? ⟨Bx, 5, none⟩ = some (.slice po np pc) := (k1.cell hxs nin).trans p4; have hr := HRd.out.keep k1 (fun k _ s => by have := s.2; omega); have hxy : Bx < y.heap.size := Nat.lt_of_lt_of_le hxs k1.size; have hzy := HZY.out y (HBLd.out.trans hst.2)) | (go_at_call 26; refine (ref_crash hr po np pc pz hzy hzw hnp hpo2).mono ?_; rintro e y2 ⟨rfl, ⟨vi2, hr2⟩, k2⟩; have q2 : y2.cell? ⟨Bx, 5, none⟩ = some (.slice po np pc) := (k2.cell hxy nin2).trans q1))
  all_goals
    have hF := hst.1.step ⟨vi2, vj, hr2⟩ (hr.rs k2)
    have HF := hide hF.1
    have HG := hide ((HBLd.out.trans hst.2).trans hF.2)
    clear hF hr hr2 k2 hst hd1 k1 HBd HBLd HRd
    go_wp2
    go_ret
    exact ⟨ret_bool (by simp), ⟨crashD d fun i => if i < np then pz i else 0, HF.out, by omega⟩, HG.out⟩
end Go.Proofs.Ytjhndhibojndfaa
