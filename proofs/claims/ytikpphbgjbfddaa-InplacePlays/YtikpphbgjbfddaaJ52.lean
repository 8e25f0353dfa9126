/- Parts of the proof: Bb. -/
import Derived.Test.YtikpphbgjbfddaaJ44
namespace Go.Proofs.Ytikpphbgjbfddaa
set_option maxRecDepth 20000
open Go.RowKit
section
variable {w : World} {S : Nat → Prop} {p t N st nx sn k : Nat} {l a : Value} {c : Ce}
set_option maxHeartbeats 1000000 in
theorem wb_busy (h : PwAt w p (pwV t 2 5 N st nx sn l a)) (hb : InBuf w S t k N c) (hc : c.ct < 4294967296) (hl : c.lk = true) :
    Calls Try.prog 41 #[.pointer (some ⟨p, 0, none⟩)] w fun e w' => e = .returned (.tuple #[.int .i64 3, .int .i64 0]) ∧ Below w.heap.size w w' := by
  have HL : Hid (∀ n, Calls Try.prog 16 #[.pointer (some ⟨t, 0, none⟩), .int .u64 2] (w.drewN n) fun e w' => e = .returned (.tuple #[.int .u64 (lwN c : Int), .int .i64 0]) ∧ Below (w.drewN n).heap.size (w.drewN n) w') := fun n => inb_lock (hb.below (below_drewN (Below.refl _ _) n))
  have HK : Hid (∀ y, Calls Try.prog 66 #[.int .u64 (lwN c : Int)] y fun e w' => e = .returned (.bool true) ∧ Below y.heap.size y w') := fun y => by
    have := locked_any (lwN c) y (lw_lt hc)
    rw [lw_writes hc, hl] at this
    exact this
  have c0 := h.c0
  have c1 : w.cell? ⟨p, 1, none⟩ = some (.int .u64 2) := h.c1
  have HS : Hid (∀ n z, Below (w.drewN n).heap.size (w.drewN n) z → z.cell? ⟨p, 0, none⟩ = some (.pointer (some ⟨t, 0, none⟩)) ∧ z.cell? ⟨p, 1, none⟩ = some (.int .u64 2)) := fun n z hz => ⟨((h.drewN n).below hz).c0, ((h.drewN n).below hz).c1⟩
  clear h hb hc hl
  generalize (lwN c : Int) = Q at *
  go_enter Try.func41, Try.ntmps41
  go_wp2_with fail
  go_region_held3 (fun W => W.cell? ⟨p, 0, none⟩ = some (.pointer (some ⟨t, 0, none⟩)) ∧ W.cell? ⟨p, 1, none⟩ = some (.int .u64 2)) (first | assumption | go_keep) (first | (go_at_call 16; refine (HL.out 1).mono ?_; rintro e y1 ⟨rfl, b1⟩; have q1 := HS.out 1 y1 b1))
  have B1 := (below_drewN (Below.refl w.heap.size w) 1).trans (b1.mono (by simp))
  clear q1 b1 HS HL
  go_wp2_with fail
  refine (HK.out _).mono ?_
  rintro e y2 ⟨rfl, b2⟩
  go_wp2
  go_ret2
  exact ⟨rfl, B1.trans (b2.mono B1.size)⟩
set_option maxHeartbeats 2000000 in
theorem wb_take {ad : Bool} (h : PwAt w p (pwV t 2 5 N st nx sn l (.bool ad))) (hb : InBuf w S t k N c) (hS : ¬ S p) (hk : k ≤ 100000) (hc : c.ct < 4294967296) (hl : c.lk = false) :
    Calls Try.prog 41 #[.pointer (some ⟨p, 0, none⟩)] w fun e w' => e = .returned (.tuple #[.int .i64 1, .int .i64 0]) ∧ PwAt w' p (pwV t 2 5 N (if ad = true then 1 else onN nx N) nx (c.ct + 9223372036854775808) l (.bool ad)) ∧ InBuf w' S t (k + 1) N { c with lk := true } ∧ Keeps (fun i => i = p ∨ S i) w w' := by
  obtain ⟨e1, e2, e3⟩ := lw_free hc hl
  have HL : Hid (∀ n, Calls Try.prog 16 #[.pointer (some ⟨t, 0, none⟩), .int .u64 2] (w.drewN n) fun e w' => e = .returned (.tuple #[.int .u64 (lwN c : Int), .int .i64 0]) ∧ Below (w.drewN n).heap.size (w.drewN n) w') := fun n => inb_lock (hb.below (below_drewN (Below.refl _ _) n))
  have HK : Hid (∀ y, Calls Try.prog 66 #[.int .u64 (lwN c : Int)] y fun e w' => e = .returned (.bool false) ∧ Below y.heap.size y w') := fun y => by
    have := locked_any (lwN c) y (lw_lt hc)
    rw [lw_writes hc, hl] at this
    exact this
  have HT : Hid (∀ y, Calls Try.prog 67 #[.int .u64 (lwN c : Int)] y fun e w' => e = .returned (.tuple #[.int .u64 ((c.ct + 9223372036854775808 : Nat) : Int), .int .i64 0]) ∧ Below y.heap.size y w') := fun y => by
    rw [e1]; exact lock_yes c.ct y (by omega) e2 e3
  have HC : Hid (∀ y, Below w.heap.size w y → Calls Try.prog 68 #[.pointer (some ⟨t, 0, none⟩), .int .u64 2, .int .u64 (lwN c : Int), .int .u64 ((c.ct + 9223372036854775808 : Nat) : Int)] y fun e w' => e = .returned (.tuple #[.bool true, .int .i64 0]) ∧ InBuf w' S t (k + 1) N { c with lk := true } ∧ Keeps S y w') := fun y hy => inb_cas (hb.below hy) hk _ (lw_taken (c := { c with lk := true }) rfl).symm rfl
  have c0 := h.c0
  have c1 : w.cell? ⟨p, 1, none⟩ = some (.int .u64 2) := h.c1
  have HS : Hid (∀ z, Below w.heap.size w z → z.cell? ⟨p, 0, none⟩ = some (.pointer (some ⟨t, 0, none⟩)) ∧ z.cell? ⟨p, 1, none⟩ = some (.int .u64 2)) := fun z hz => ⟨(h.below hz).c0, (h.below hz).c1⟩
  have HP := hide h
  have HNS := hide hS
  obtain ⟨Q, HQ⟩ : ∃ Q : Int, Hid ((lwN c : Int) = Q) := ⟨_, rfl⟩
  obtain ⟨R, HR⟩ : ∃ R : Nat, Hid (c.ct + 9223372036854775808 = R) := ⟨_, rfl⟩
  rw [HQ.out] at HL HK HT HC
  rw [HR.out] at HT HC
  rw [HR.out]
  clear h hb hc hl hS e1 e2 e3 hk
  go_enter Try.func41, Try.ntmps41
  go_wp2_with fail
  go_region_held3 (fun W => W.cell? ⟨p, 0, none⟩ = some (.pointer (some ⟨t, 0, none⟩)) ∧ W.cell? ⟨p, 1, none⟩ = some (.int .u64 2)) (first | assumption | go_keep) (first | (go_at_call 16; refine (HL.out 1).mono ?_; rintro e y1 ⟨rfl, b1⟩; have q1 := HS.out y1 ((below_drewN (Below.refl w.heap.size w) 1).trans (b1.mono (by simp)))))
  have B1 := (below_drewN (Below.refl w.heap.size w) 1).trans (b1.mono (by simp))
  clear q1 b1 HL c0 c1
  go_wp2_with fail
  refine (HK.out _).mono ?_
  rintro e y2 ⟨rfl, b2⟩
  go_wp2_with fail
  refine (HT.out _).mono ?_
  rintro e y3 ⟨rfl, b3⟩
  have B3 := B1.trans ((b2.trans (b3.mono b2.size)).mono B1.size)
  obtain ⟨c0, c1⟩ := HS.out y3 B3
  clear b2 b3 HK HT
  go_wp2_with fail
  go_region_held3 (fun W => W.cell? ⟨p, 0, none⟩ = some (.pointer (some ⟨t, 0, none⟩)) ∧ W.cell? ⟨p, 1, none⟩ = some (.int .u64 2)) (first | assumption | go_keep) (first | (go_at_call 68; refine (HC.out (y3.drewN 1) (B3.trans ((below_drewN (Below.refl y3.heap.size y3) 1).mono B3.size))).mono ?_; rintro e y4 ⟨rfl, hb4, k4⟩; have q4 : y4.cell? ⟨p, 0, none⟩ = some (.pointer (some ⟨t, 0, none⟩)) ∧ y4.cell? ⟨p, 1, none⟩ = some (.int .u64 2) := ⟨((HP.out.below (B3.trans ((below_drewN (Below.refl y3.heap.size y3) 1).mono B3.size))).keep k4 HNS.out).c0, ((HP.out.below (B3.trans ((below_drewN (Below.refl y3.heap.size y3) 1).mono B3.size))).keep k4 HNS.out).c1⟩))
  have BD := B3.trans ((below_drewN (Below.refl y3.heap.size y3) 1).mono B3.size)
  have K4 := (Below.keeps (S := S) BD).trans k4 (fun _ _ t => t)
  have P4 := (HP.out.below BD).keep k4 HNS.out
  have HB4 := hide hb4
  have f6 := P4.fs 6 (by omega)
  have c6 := P4.c6
  have HO := hide (onward_any (P4.setSn R))
  have HKK := hide ((K4.wider (T := fun i => i = p ∨ S i) (fun _ _ t => .inr t)).setCell ⟨p, 6, none⟩ (fun _ => .inl rfl) (.int .u64 (R : Int)))
  have HB5 := hide (HB4.out.keep (one_keeps y4 ⟨p, 6, none⟩ (.int .u64 (R : Int))) (fun i hi e => HNS.out (by cases e; exact hi)))
  clear q4 hb4 k4 BD K4 P4 HB4 B3 B1 c0 c1 HS HC
  go_wp2_with fail
  refine HO.out.mono ?_
  rintro e y5 ⟨rfl, P5, k5⟩
  have HB6 := hide (HB5.out.keep k5 (fun i hi e => HNS.out (by cases e; exact hi)))
  have HK6 := hide (HKK.out.trans k5 (fun _ _ t => .inl t))
  have c8 := P5.c8
  have f4 := P5.fs 4 (by omega)
  have HP5 := hide P5
  have c4 := P5.c4
  clear HO HKK HB5 P5 k5 c6 f6
  cases ad with
  | true =>
    go_wp2
    go_ret2
    exact ⟨rfl, HP5.out.setSt 1, HB6.out.keep (one_keeps _ ⟨p, 4, none⟩ _) (fun i hi e => HNS.out (by cases e; exact hi)), HK6.out.setCell ⟨p, 4, none⟩ (fun _ => .inl rfl) _⟩
  | false =>
    go_wp2
    go_ret2
    exact ⟨rfl, HP5.out, HB6.out, HK6.out⟩
end
end Go.Proofs.Ytikpphbgjbfddaa
