/- Parts of the proof: Be. -/
import Derived.Test.YtikpphbgjbfddaaJ48
namespace Go.Proofs.Ytikpphbgjbfddaa
set_option maxRecDepth 20000
open Go.RowKit
section
variable {w : World} {S : Nat → Prop} {p g t L V N st nx sn k j cap : Nat} {l a : Value} {c : Ce} {ml : List Nat}
set_option maxHeartbeats 1000000 in
theorem rb_busy (h : PwAt w p (pwV t 2 5 N st nx sn l a)) (hb : InBuf w S t k N c) (hc : c.ct < 4294967296) (hl : c.lk = true) :
    Calls Try.prog 45 #[.pointer (some ⟨p, 0, none⟩)] w fun e w' => e = .returned (.tuple #[.int .i64 3, .int .i64 0]) ∧ Below w.heap.size w w' := by
  have HL : Hid (∀ n, Calls Try.prog 16 #[.pointer (some ⟨t, 0, none⟩), .int .u64 2] (w.drewN n) fun e w' => e = .returned (.tuple #[.int .u64 (lwN c : Int), .int .i64 0]) ∧ Below (w.drewN n).heap.size (w.drewN n) w') := fun n => inb_lock (hb.below (below_drewN (Below.refl _ _) n))
  have HK : Hid (∀ y, Calls Try.prog 66 #[.int .u64 (lwN c : Int)] y fun e w' => e = .returned (.bool true) ∧ Below y.heap.size y w') := fun y => by
    have := locked_any (lwN c) y (lw_lt hc)
    rw [lw_writes hc, hl] at this
    exact this
  have c0 := h.c0
  have c1 : w.cell? ⟨p, 1, none⟩ = some (.int .u64 2) := h.c1
  have HS : Hid (∀ n z, Below (w.drewN n).heap.size (w.drewN n) z → z.cell? ⟨p, 0, none⟩ = some (.pointer (some ⟨t, 0, none⟩)) ∧ z.cell? ⟨p, 1, none⟩ = some (.int .u64 2)) := fun n z hz => ⟨((h.drewN n).below hz).c0, ((h.drewN n).below hz).c1⟩
  clear h hb hc hl
  generalize (lwN c : Int) = Q at *
  go_enter Try.func45, Try.ntmps45
  go_wp2_with fail
  go_region_held3 (fun W => W.cell? ⟨p, 0, none⟩ = some (.pointer (some ⟨t, 0, none⟩)) ∧ W.cell? ⟨p, 1, none⟩ = some (.int .u64 2)) (first | assumption | go_keep) (first | (go_at_call 16; refine (HL.out 1).mono ?_; rintro e y1 ⟨rfl, b1⟩; have q1 := HS.out 1 y1 b1))
  have B1 := (below_drewN (Below.refl w.heap.size w) 1).trans (b1.mono (by simp))
  clear q1 b1 HS HL
  go_wp2_with fail
  refine (HK.out _).mono ?_
  rintro e y2 ⟨rfl, b2⟩
  go_wp2
  go_ret2
  exact ⟨rfl, B1.trans (b2.mono B1.size)⟩
set_option maxHeartbeats 2000000 in
theorem rb_take (h : PwAt w p (pwV t 2 5 N st nx sn l a)) (hb : InBuf w S t k N c) (hc : c.ct < 4294967296) (hl : c.lk = false) :
    Calls Try.prog 45 #[.pointer (some ⟨p, 0, none⟩)] w fun e w' => e = .returned (.tuple #[.int .i64 1, .int .i64 0]) ∧ PwAt w' p (pwV t 2 5 N (onN 0 N) 0 c.ct l a) ∧ Keeps (fun i => i = p) w w' := by
  obtain ⟨e1, e2, e3⟩ := lw_free hc hl
  have HL : Hid (∀ n, Calls Try.prog 16 #[.pointer (some ⟨t, 0, none⟩), .int .u64 2] (w.drewN n) fun e w' => e = .returned (.tuple #[.int .u64 (c.ct : Int), .int .i64 0]) ∧ Below (w.drewN n).heap.size (w.drewN n) w') := fun n => by
    have := inb_lock (hb.below (below_drewN (Below.refl _ _) n))
    rw [show (((if c.lk = true then 9223372036854775808 else 0) + c.ct : Nat) : Int) = (lwN c : Int) from rfl, e1] at this
    exact this
  have HK : Hid (∀ y, Calls Try.prog 66 #[.int .u64 (c.ct : Int)] y fun e w' => e = .returned (.bool false) ∧ Below y.heap.size y w') := fun y => by
    have := locked_any c.ct y (by omega)
    rw [e3] at this
    exact this
  have c0 := h.c0
  have c1 : w.cell? ⟨p, 1, none⟩ = some (.int .u64 2) := h.c1
  have HS : Hid (∀ n z, Below (w.drewN n).heap.size (w.drewN n) z → z.cell? ⟨p, 0, none⟩ = some (.pointer (some ⟨t, 0, none⟩)) ∧ z.cell? ⟨p, 1, none⟩ = some (.int .u64 2)) := fun n z hz => ⟨((h.drewN n).below hz).c0, ((h.drewN n).below hz).c1⟩
  have HP := hide h
  clear h hb hc hl e1 e2 e3
  generalize c.ct = Q at *
  go_enter Try.func45, Try.ntmps45
  go_wp2_with fail
  go_region_held3 (fun W => W.cell? ⟨p, 0, none⟩ = some (.pointer (some ⟨t, 0, none⟩)) ∧ W.cell? ⟨p, 1, none⟩ = some (.int .u64 2)) (first | assumption | go_keep) (first | (go_at_call 16; refine (HL.out 1).mono ?_; rintro e y1 ⟨rfl, b1⟩; have q1 := HS.out 1 y1 b1))
  have B1 := (below_drewN (Below.refl w.heap.size w) 1).trans (b1.mono (by simp))
  clear q1 b1 HS HL
  go_wp2_with fail
  refine (HK.out _).mono ?_
  rintro e y2 ⟨rfl, b2⟩
  have B2 := B1.trans (b2.mono B1.size)
  have P2 := HP.out.below B2
  have f6 := P2.fs 6 (by omega)
  have c6 := P2.c6
  have f5 := P2.fs 5 (by omega)
  have c5 := P2.c5
  have c5' := (P2.setSn Q).c5
  have HON := hide (onward_any ((P2.setSn Q).setNx 0))
  have HK3 := hide (((Below.keeps (S := fun i => i = p) B2).setCell ⟨p, 6, none⟩ (fun _ => rfl) (.int .u64 (Q : Int))).setCell ⟨p, 5, none⟩ (fun _ => rfl) (.int .i64 0))
  rw [show ((0 : Nat) : Int) = 0 from rfl] at HON
  clear b2 B1 B2 P2 HK c0 c1
  go_wp2_with fail
  refine HON.out.mono ?_
  rintro e y5 ⟨rfl, P5, k5⟩
  have K5 := HK3.out.trans k5 (fun _ _ t => t)
  go_wp2
  go_ret2
  exact ⟨rfl, P5, K5⟩
set_option maxHeartbeats 2000000 in
theorem rr_any (h : PwAt w p (pwV t 2 5 N st j sn (.slice (some ⟨g, 0, none⟩) N cap) a)) (hb : InBuf w S t k N c) (hj : j < N) (ho : w.ownsRow 0 43 1 (.slice (some ⟨g, 0, none⟩) N cap) N (uintsN ml)) (hml : ml.length = N) (hgp : g ≠ p) :
    Calls Try.prog 46 #[.pointer (some ⟨p, 0, none⟩)] w fun e w' => e = .returned (.tuple #[.int .i64 1, .int .i64 0]) ∧ PwAt w' p (pwV t 2 5 N (onN (j + 1) N) (j + 1) sn (.slice (some ⟨g, 0, none⟩) N cap) a) ∧ w'.ownsRow 0 43 1 (.slice (some ⟨g, 0, none⟩) N cap) N (uintsN (ml.set j (c.l.getD j 0))) ∧ Keeps (fun i => i = p ∨ i = g) w w' := by
  have hN := hb.few
  have HL : Hid (∀ z, Below w.heap.size w z → Calls Try.prog 16 #[.pointer (some ⟨t, 0, none⟩), .int .u64 ((5 + j : Nat) : Int)] z fun e w' => e = .returned (.tuple #[.int .u64 (c.l.getD j 0 : Int), .int .i64 0]) ∧ Below z.heap.size z w') := fun z hz => inb_load (hb.below hz) j hj
  have HW : Hid (∀ n, Calls Try.prog 70 #[.pointer (some ⟨p, 0, none⟩)] (w.drewN n) fun e w' => e = .returned (.int .u64 ((5 + j : Nat) : Int)) ∧ ∃ m, w' = (w.drewN n).drewN m) := fun n => word_any' (h.drewN n) (by omega)
  have c0 := h.c0
  have HS : Hid (∀ z, Below w.heap.size w z → z.cell? ⟨p, 0, none⟩ = some (.pointer (some ⟨t, 0, none⟩))) := fun z hz => (h.below hz).c0
  have HP := hide h
  have HO := hide ho
  obtain ⟨y, HZ⟩ : ∃ y, Hid (c.l.getD j 0 = y) := ⟨_, rfl⟩
  have HCE : Hid (∀ z, Below w.heap.size w z → z.cell? ⟨g, j, none⟩ = some (.int .u64 ((ml[j]?.getD 0 : Nat) : Int)) ∧ z.frozen? ⟨g, j, none⟩ = false) := fun z hz => by
    have ho' := own_keep ho (Below.keeps (S := fun _ => False) hz) (fun _ _ => id)
    exact ⟨own_cellsU ho' hml j hj, ho'.frozenAt j⟩
  obtain ⟨s, HSS⟩ : ∃ s : Int, Hid (((5 + j : Nat) : Int) = s) := ⟨_, rfl⟩
  rw [HZ.out]
  rw [HZ.out, HSS.out] at HL
  rw [HSS.out] at HW
  have HGP := hide hgp
  clear h hb ho hml hgp
  have hjN : (j : Int) < (N : Int) := by omega
  generalize ml[j]?.getD 0 = x at *
  go_enter Try.func46, Try.ntmps46
  go_wp2_with fail
  go_region_held3 (fun W => W.cell? ⟨p, 0, none⟩ = some (.pointer (some ⟨t, 0, none⟩))) (first | assumption | go_keep) (first | (go_at_call 70; refine (HW.out 1).mono ?_; rintro e y1 ⟨rfl, m1, rfl⟩; have q1 := HS.out ((w.drewN 1).drewN m1) (below_drewN (below_drewN (Below.refl w.heap.size w) 1) m1)) | (go_at_call 16; refine (HL.out (w.drewN (1 + m1)) (below_drewN (Below.refl w.heap.size w) (1 + m1))).mono ?_; rintro e y2 ⟨rfl, b2⟩; have q2 := HS.out y2 ((below_drewN (Below.refl w.heap.size w) (1 + m1)).trans (b2.mono (by simp)))))
  have B2 := (below_drewN (Below.refl w.heap.size w) (1 + m1)).trans (b2.mono (by simp))
  have P2 := HP.out.below B2
  obtain ⟨ce, cf⟩ := HCE.out y2 B2
  have c7 := P2.c7
  have c5 := P2.c5
  have O2 := own_keep HO.out (Below.keeps (S := fun _ => False) B2) (fun _ _ => id)
  have HP2 := hide P2
  have HO2 := hide O2
  have HB2 := hide B2
  clear q1 q2 b2 B2 P2 O2 HL HW HS HCE c0
  go_wp2_with fail
  go_region
  have HK3 : Hid (Keeps (fun i => i = p ∨ i = g) w (y2.setCell ⟨g, j, none⟩ (.int .u64 (y : Int))).drew) := hide (((Below.keeps (S := fun i => i = p ∨ i = g) HB2.out).setCell ⟨g, j, none⟩ (fun _ => .inr rfl) (.int .u64 (y : Int))).drewN 1)
  have P3 : PwAt (y2.setCell ⟨g, j, none⟩ (.int .u64 (y : Int))).drew p (pwV t 2 5 N st j sn (.slice (some ⟨g, 0, none⟩) N cap) a) := (HP2.out.keep (one_keeps y2 ⟨g, j, none⟩ (.int .u64 (y : Int))) (fun e => HGP.out e.symm)).drewN 1
  have HO3 : Hid ((y2.setCell ⟨g, j, none⟩ (.int .u64 (y : Int))).drew.ownsRow 0 43 1 (.slice (some ⟨g, 0, none⟩) N cap) N (uintsN (ml.set j y))) := by
    have := own_set HO2.out rfl j (.int .u64 (y : Int))
    rw [uintsN_set] at this
    exact own_keep this (Below.keeps (S := fun _ => False) (below_drewN (Below.refl _ _) 1)) (fun _ _ => id)
  generalize (y2.setCell ⟨g, j, none⟩ (.int .u64 (y : Int))).drew = y3 at *
  have f5 := P3.fs 5 (by omega)
  have c5' := P3.c5
  have hj1 : (j : Int) + 1 = ((j + 1 : Nat) : Int) := by omega
  have HON := hide (onward_any (P3.setNx (j + 1)))
  have HO4 := hide (own_keep HO3.out (one_keeps _ ⟨p, 5, none⟩ (.int .i64 ((j + 1 : Nat) : Int))) (fun q hq e => HGP.out (by cases hq; exact e)))
  have HK4 := hide (HK3.out.setCell ⟨p, 5, none⟩ (fun _ => .inl rfl) (.int .i64 ((j + 1 : Nat) : Int)))
  rw [← hj1] at HON HO4 HK4
  clear ce cf c7 c5 hj1 P3 HK3 HO3
  go_wp2_with fail
  refine HON.out.mono ?_
  rintro e y5 ⟨rfl, P5, k5⟩
  have O5 := own_keep HO4.out k5 (fun q hq e => HGP.out (by cases hq; exact e))
  have K5 := HK4.out.trans k5 (fun _ _ t => .inl t)
  go_wp2
  go_ret2
  exact ⟨rfl, P5, O5, K5⟩
end
end Go.Proofs.Ytikpphbgjbfddaa
