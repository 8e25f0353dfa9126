/- Parts of the proof: Bc. -/
import Derived.Test.YtikpphbgjbfddaaJ48
namespace Go.Proofs.Ytikpphbgjbfddaa
set_option maxRecDepth 20000
open Go.RowKit
section
variable {w : World} {S : Nat → Prop} {p g t N st sn k cap j : Nat} {a : Value} {c : Ce} {ml : List Nat}
set_option maxHeartbeats 2000000 in
theorem wa_any (h : PwAt w p (pwV t 2 5 N st j sn (.slice (some ⟨g, 0, none⟩) N cap) a)) (hb : InBuf w S t k N c) (hj : j < N) (ho : w.ownsRow 0 43 1 (.slice (some ⟨g, 0, none⟩) N cap) N (uintsN ml)) (hml : ml.length = N) (hgp : g ≠ p) :
    Calls Try.prog 42 #[.pointer (some ⟨p, 0, none⟩)] w fun e w' => e = .returned (.tuple #[.int .i64 1, .int .i64 0]) ∧ PwAt w' p (pwV t 2 5 N (onN j N) j sn (.slice (some ⟨g, 0, none⟩) N cap) a) ∧ w'.ownsRow 0 43 1 (.slice (some ⟨g, 0, none⟩) N cap) N (uintsN (ml.set j (sumW (ml.getD j 0) (c.l.getD j 0)))) ∧ Keeps (fun i => i = p ∨ i = g) w w' := by
  have hN := hb.few
  have HL : Hid (∀ z, Below w.heap.size w z → Calls Try.prog 16 #[.pointer (some ⟨t, 0, none⟩), .int .u64 ((5 + j : Nat) : Int)] z fun e w' => e = .returned (.tuple #[.int .u64 (c.l.getD j 0 : Int), .int .i64 0]) ∧ Below z.heap.size z w') := fun z hz => inb_load (hb.below hz) j hj
  have HW : Hid (∀ n, Calls Try.prog 70 #[.pointer (some ⟨p, 0, none⟩)] (w.drewN n) fun e w' => e = .returned (.int .u64 ((5 + j : Nat) : Int)) ∧ ∃ m, w' = (w.drewN n).drewN m) := fun n => word_any' (h.drewN n) (by omega)
  have c0 := h.c0
  have HS : Hid (∀ z, Below w.heap.size w z → z.cell? ⟨p, 0, none⟩ = some (.pointer (some ⟨t, 0, none⟩))) := fun z hz => (h.below hz).c0
  have HP := hide h
  have HO := hide ho
  obtain ⟨y, HY⟩ : ∃ y, Hid (sumW (ml.getD j 0) (c.l.getD j 0) = y) := ⟨_, rfl⟩
  obtain ⟨x, HX⟩ : ∃ x, Hid (ml.getD j 0 = x) := ⟨_, rfl⟩
  obtain ⟨z0, HZ⟩ : ∃ z0, Hid (c.l.getD j 0 = z0) := ⟨_, rfl⟩
  have HSM : IntKind.u64.wrap ((x : Int) + (z0 : Int)) = (y : Int) := by rw [IntKind.wrap_u64, ← HY.out, HX.out, HZ.out, sumW]; omega
  have HCE : Hid (∀ z, Below w.heap.size w z → z.cell? ⟨g, j, none⟩ = some (.int .u64 (x : Int)) ∧ z.frozen? ⟨g, j, none⟩ = false) := fun z hz => by
    have ho' := own_keep ho (Below.keeps (S := fun _ => False) hz) (fun _ _ => id)
    have := own_cellsU ho' hml j hj
    refine ⟨?_, ho'.frozenAt j⟩
    rw [this, ← HX.out, List.getD_eq_getElem?_getD]
  obtain ⟨s, HSS⟩ : ∃ s : Int, Hid (((5 + j : Nat) : Int) = s) := ⟨_, rfl⟩
  rw [HY.out]
  rw [HZ.out, HSS.out] at HL
  rw [HSS.out] at HW
  have HD := hide hj
  have HGP := hide hgp
  have HML := hide hml
  clear h hb ho hml hgp
  have hjN : (j : Int) < (N : Int) := by omega
  have hcap : N ≤ 16 := hN
  go_enter Try.func42, Try.ntmps42
  go_wp2_with fail
  go_region_held3 (fun W => W.cell? ⟨p, 0, none⟩ = some (.pointer (some ⟨t, 0, none⟩))) (first | assumption | go_keep) (first | (go_at_call 70; refine (HW.out 1).mono ?_; rintro e y1 ⟨rfl, m1, rfl⟩; have q1 := HS.out ((w.drewN 1).drewN m1) (below_drewN (below_drewN (Below.refl w.heap.size w) 1) m1)) | (go_at_call 16; refine (HL.out (w.drewN (1 + m1)) (below_drewN (Below.refl w.heap.size w) (1 + m1))).mono ?_; rintro e y2 ⟨rfl, b2⟩; have q2 := HS.out y2 ((below_drewN (Below.refl w.heap.size w) (1 + m1)).trans (b2.mono (by simp)))))
  have B2 := (below_drewN (Below.refl w.heap.size w) (1 + m1)).trans (b2.mono (by simp))
  have P2 := HP.out.below B2
  obtain ⟨ce, cf⟩ := HCE.out y2 B2
  have c7 := P2.c7
  have c5 := P2.c5
  have O2 := own_keep HO.out (Below.keeps (S := fun _ => False) B2) (fun _ _ => id)
  have HP2 := hide P2
  have HO2 := hide O2
  have HB2 := hide B2
  clear q1 q2 b2 B2 P2 O2 HL HW HS HCE c0
  go_wp2_with fail
  go_region
  have HK3 := hide (((Below.keeps (S := fun i => i = p ∨ i = g) HB2.out).setCell ⟨g, j, none⟩ (fun _ => .inr rfl) (.int .u64 (y : Int))).drewN 1)
  have HP3 := hide ((HP2.out.keep (one_keeps y2 ⟨g, j, none⟩ (.int .u64 (y : Int))) (fun e => HGP.out e.symm)).drewN 1)
  have HO3 : Hid (((y2.setCell ⟨g, j, none⟩ (.int .u64 (y : Int))).drewN 1).ownsRow 0 43 1 (.slice (some ⟨g, 0, none⟩) N cap) N (uintsN (ml.set j y))) := by
    have := own_set HO2.out rfl j (.int .u64 (y : Int))
    rw [uintsN_set] at this
    exact own_keep this (Below.keeps (S := fun _ => False) (below_drewN (Below.refl _ _) 1)) (fun _ _ => id)
  have HON := hide (onward_any HP3.out)
  clear ce cf c7 c5
  go_wp2_with fail
  refine HON.out.mono ?_
  rintro e y5 ⟨rfl, P5, k5⟩
  have O5 := own_keep HO3.out k5 (fun q hq e => HGP.out (by cases hq; exact e))
  have K5 := HK3.out.trans k5 (fun _ _ t => .inl t)
  go_wp2
  go_ret2
  exact ⟨rfl, P5, O5, K5⟩
set_option maxHeartbeats 2000000 in
theorem ww_any (h : PwAt w p (pwV t 2 5 N st j sn (.slice (some ⟨g, 0, none⟩) N cap) a)) (hb : InBuf w S t k N c) (hj : j < N) (ho : w.ownsRow 0 43 1 (.slice (some ⟨g, 0, none⟩) N cap) N (uintsN ml)) (hml : ml.length = N) (hcl : c.l.length = N) (hS : ¬ S p) (hSg : ¬ S g) :
    Calls Try.prog 43 #[.pointer (some ⟨p, 0, none⟩)] w fun e w' => e = .returned (.tuple #[.int .i64 1, .int .i64 0]) ∧ PwAt w' p (pwV t 2 5 N (onN (j + 1) N) (j + 1) sn (.slice (some ⟨g, 0, none⟩) N cap) a) ∧ InBuf w' S t (k + 1) N { c with l := c.l.set j (ml.getD j 0) } ∧ Keeps (fun i => i = p ∨ S i) w w' := by
  have hN := hb.few
  obtain ⟨x, HX⟩ : ∃ x, Hid (ml.getD j 0 = x) := ⟨_, rfl⟩
  rw [HX.out]
  have HL : Hid (∀ z, Below w.heap.size w z → Calls Try.prog 71 #[.pointer (some ⟨t, 0, none⟩), .int .u64 ((5 + j : Nat) : Int), .int .u64 (x : Int)] z fun e w' => e = .returned (.int .i64 0) ∧ InBuf w' S t (k + 1) N { c with l := c.l.set j x } ∧ Keeps S z w') := fun z hz => inb_store (hb.below hz) (5 + j) (by omega) _ (by rw [if_neg (by omega)]; rfl) (fun i hi => by
    show _ = ((c.l.set j x).getD i 0 : Int)
    simp only [List.getD_eq_getElem?_getD, List.getElem?_set]
    by_cases e : i = j
    · subst e; rw [if_pos rfl, if_pos rfl, if_pos (by omega)]; rfl
    · rw [if_neg (by omega), if_neg (fun q => e q.symm)])
  have HW : Hid (∀ n, Calls Try.prog 70 #[.pointer (some ⟨p, 0, none⟩)] (w.drewN n) fun e w' => e = .returned (.int .u64 ((5 + j : Nat) : Int)) ∧ ∃ m, w' = (w.drewN n).drewN m) := fun n => word_any' (h.drewN n) (by omega)
  have HS : Hid (∀ z, Below w.heap.size w z → z.cell? ⟨p, 0, none⟩ = some (.pointer (some ⟨t, 0, none⟩)) ∧ z.cell? ⟨p, 7, none⟩ = some (.slice (some ⟨g, 0, none⟩) N cap) ∧ z.cell? ⟨p, 5, none⟩ = some (.int .i64 (j : Int)) ∧ z.cell? ⟨g, j, none⟩ = some (.int .u64 (x : Int))) := fun z hz => by
    have ho' := own_keep ho (Below.keeps (S := fun _ => False) hz) (fun _ _ => id)
    have := own_cellsU ho' hml j hj
    refine ⟨(h.below hz).c0, (h.below hz).c7, (h.below hz).c5, ?_⟩
    rw [this, ← HX.out, List.getD_eq_getElem?_getD]
  obtain ⟨c0, c7, c5, cg⟩ := HS.out w (Below.refl _ _)
  have HP := hide h
  obtain ⟨s, HSS⟩ : ∃ s : Int, Hid (((5 + j : Nat) : Int) = s) := ⟨_, rfl⟩
  rw [HSS.out] at HW HL
  have HNS := hide hS
  have HQ : Hid (∀ z, Keeps S w z → z.cell? ⟨p, 0, none⟩ = some (.pointer (some ⟨t, 0, none⟩)) ∧ z.cell? ⟨p, 7, none⟩ = some (.slice (some ⟨g, 0, none⟩) N cap) ∧ z.cell? ⟨p, 5, none⟩ = some (.int .i64 (j : Int)) ∧ z.cell? ⟨g, j, none⟩ = some (.int .u64 (x : Int))) := fun z hz => ⟨(HP.out.keep hz hS).c0, (HP.out.keep hz hS).c7, (HP.out.keep hz hS).c5, by rw [hz.cell (World.block_lt_of_cell? _ _ cg) hSg]; exact cg⟩
  clear hSg
  have hjN : (j : Int) < (N : Int) := by omega
  clear h hb ho hml hS hcl
  go_enter Try.func43, Try.ntmps43
  go_wp2_with fail
  go_region_held3 (fun W => W.cell? ⟨p, 0, none⟩ = some (.pointer (some ⟨t, 0, none⟩)) ∧ W.cell? ⟨p, 7, none⟩ = some (.slice (some ⟨g, 0, none⟩) N cap) ∧ W.cell? ⟨p, 5, none⟩ = some (.int .i64 (j : Int)) ∧ W.cell? ⟨g, j, none⟩ = some (.int .u64 (x : Int))) (first | assumption | go_keep) (first | (go_at_call 70; refine (HW.out 1).mono ?_; rintro e y1 ⟨rfl, m1, rfl⟩; have q1 := HS.out ((w.drewN 1).drewN m1) (below_drewN (below_drewN (Below.refl w.heap.size w) 1) m1)) | (go_at_call 71; refine (HL.out (w.drewN (1 + m1)) (below_drewN (Below.refl w.heap.size w) (1 + m1))).mono ?_; rintro e y2 ⟨rfl, hb2, k2⟩; have q2 := HQ.out y2 ((Below.keeps (S := S) (below_drewN (Below.refl w.heap.size w) (1 + m1))).trans k2 (fun _ _ t => t))))
  have K2 := (Below.keeps (S := S) (below_drewN (Below.refl w.heap.size w) (1 + m1))).trans k2 (fun _ _ t => t)
  have P2 := HP.out.keep K2 HNS.out
  have HB2 := hide hb2
  have f5 := P2.fs 5 (by omega)
  have c5' := P2.c5
  have hjj : IntKind.i64.wrap ((j : Int) + 1) = ((j + 1 : Nat) : Int) := by have := IntWalk.i64_in ((j : Int) + 1) (by omega); omega
  have hjw : wrap64 ((j : Int) + 1) = ((j + 1 : Nat) : Int) := by have := IntWalk.wrap64_in ((j : Int) + 1) (by omega); omega
  have hj1 : (j : Int) + 1 = ((j + 1 : Nat) : Int) := by omega
  have HON := hide (onward_any (P2.setNx (j + 1)))
  have HB3 := hide (HB2.out.keep (one_keeps y2 ⟨p, 5, none⟩ (.int .i64 ((j + 1 : Nat) : Int))) (fun i hi e => HNS.out (by cases e; exact hi)))
  have HK3 := hide ((K2.wider (T := fun i => i = p ∨ S i) (fun _ _ t => .inr t)).setCell ⟨p, 5, none⟩ (fun _ => .inl rfl) (.int .i64 ((j + 1 : Nat) : Int)))
  rw [← hj1] at HON HB3 HK3
  clear q1 q2 hb2 k2 K2 P2 HL HW HS HQ c0 c7 c5 cg hjj hjw hj1
  go_wp2_with fail
  refine HON.out.mono ?_
  rintro e y5 ⟨rfl, P5, k5⟩
  have B5 := HB3.out.keep k5 (fun i hi e => HNS.out (by cases e; exact hi))
  have K5 := HK3.out.trans k5 (fun _ _ t => .inl t)
  go_wp2
  go_ret2
  exact ⟨rfl, P5, B5, K5⟩
end
end Go.Proofs.Ytikpphbgjbfddaa
