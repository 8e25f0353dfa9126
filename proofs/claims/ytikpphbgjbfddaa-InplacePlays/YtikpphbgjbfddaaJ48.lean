/- Parts of the proof: Bd. -/
import Derived.Test.YtikpphbgjbfddaaJ44
namespace Go.Proofs.Ytikpphbgjbfddaa
set_option maxRecDepth 20000
open Go.RowKit
section
variable {w : World} {S : Nat → Prop} {p t L V N st nx sn k ct : Nat} {l a : Value} {c : Ce}
set_option maxHeartbeats 2000000 in
theorem we_any (h : PwAt w p (pwV t 2 5 N st nx (ct + 9223372036854775808) l a)) (hb : InBuf w S t k N c) (hct : ct = c.ct) (hc : c.ct < 4294967296) (hS : ¬ S p) :
    Calls Try.prog 44 #[.pointer (some ⟨p, 0, none⟩)] w fun e w' => e = .returned (.tuple #[.int .i64 2, .int .i64 0]) ∧ PwAt w' p (pwV t 2 5 N 4 nx (ct + 9223372036854775808) l a) ∧ InBuf w' S t (k + 1) N { c with lk := false, ct := (c.ct + 1) % 4294967296 } ∧ Keeps (fun i => i = p ∨ S i) w w' := by
  obtain ⟨e1, e2, e3⟩ := lw_held (n := c.ct) hc
  obtain ⟨F, HF⟩ : ∃ F : Nat, Hid ((c.ct + 1) % 4294967296 = F) := ⟨_, rfl⟩
  have HU : Hid (∀ y, Calls Try.prog 72 #[.int .u64 ((ct + 9223372036854775808 : Nat) : Int)] y fun e w' => e = .returned (.tuple #[.int .u64 (F : Int), .int .i64 0]) ∧ Below y.heap.size y w') := fun y => by
    have := unlock_yes (c.ct + 9223372036854775808) y (by omega) e1 e2
    rw [e3, HF.out] at this
    rw [hct]; exact this
  have HL : Hid (∀ z, Below w.heap.size w z → Calls Try.prog 71 #[.pointer (some ⟨t, 0, none⟩), .int .u64 2, .int .u64 (F : Int)] z fun e w' => e = .returned (.int .i64 0) ∧ InBuf w' S t (k + 1) N { c with lk := false, ct := (c.ct + 1) % 4294967296 } ∧ Keeps S z w') := fun z hz => inb_store (hb.below hz) 2 (by omega) _ (by rw [if_pos rfl, HF.out]; unfold lwN; simp) (fun i hi => by rw [if_neg (by omega)])
  have HS : Hid (∀ z, Keeps S w z → z.cell? ⟨p, 0, none⟩ = some (.pointer (some ⟨t, 0, none⟩)) ∧ z.cell? ⟨p, 1, none⟩ = some (.int .u64 2)) := fun z hz => ⟨(h.keep hz hS).c0, (h.keep hz hS).c1⟩
  have HP := hide h
  have HNS := hide hS
  have c6 := h.c6
  obtain ⟨R, HR⟩ : ∃ R : Nat, Hid (ct + 9223372036854775808 = R) := ⟨_, rfl⟩
  rw [HR.out] at c6 HU HP
  rw [HR.out]
  clear h hb hct hc hS e1 e2 e3
  go_enter Try.func44, Try.ntmps44
  go_wp2_with fail
  refine (HU.out _).mono ?_
  rintro e y1 ⟨rfl, b1⟩
  have K1 := Below.keeps (S := S) b1
  obtain ⟨c0, c1⟩ := HS.out y1 K1
  clear c6 HU
  go_wp2_with fail
  go_region_held3 (fun W => W.cell? ⟨p, 0, none⟩ = some (.pointer (some ⟨t, 0, none⟩)) ∧ W.cell? ⟨p, 1, none⟩ = some (.int .u64 2)) (first | assumption | go_keep) (first | (go_at_call 71; refine (HL.out (y1.drewN 1) (below_drewN b1 1)).mono ?_; rintro e y2 ⟨rfl, hb2, k2⟩; have q2 := HS.out y2 ((Below.keeps (S := S) (below_drewN b1 1)).trans k2 (fun _ _ t => t))))
  have K2 := (Below.keeps (S := S) (below_drewN b1 1)).trans k2 (fun _ _ t => t)
  have P2 := HP.out.keep K2 HNS.out
  have f4 := P2.fs 4 (by omega)
  have c4 := P2.c4
  have HP2 := hide (P2.setSt 4)
  have HB3 := hide (hb2.keep (one_keeps y2 ⟨p, 4, none⟩ (.int .i64 4)) (fun i hi e => HNS.out (by cases e; exact hi)))
  have HK3 := hide ((K2.wider (T := fun i => i = p ∨ S i) (fun _ _ t => .inr t)).setCell ⟨p, 4, none⟩ (fun _ => .inl rfl) (.int .i64 4))
  clear q2 hb2 k2 K2 P2 HL HS c0 c1 K1
  go_wp2
  go_ret2
  exact ⟨rfl, HP2.out, HB3.out, HK3.out⟩
set_option maxHeartbeats 400000 in
theorem wm_zero (h : PwAt w p (pwV t L V N 0 nx sn l a)) {r f : Int} {R : World → Prop} (hc : Calls Try.prog 41 #[.pointer (some ⟨p, 0, none⟩)] w fun e w' => e = .returned (.tuple #[.int .i64 r, .int .i64 f]) ∧ R w') :
    Calls Try.prog 23 #[.pointer (some ⟨p, 0, none⟩)] w fun e w' => e = .returned (.tuple #[.int .i64 r, .int .i64 f]) ∧ R w' := by
  have c4 : w.cell? ⟨p, 4, none⟩ = some (.int .i64 0) := h.c4
  clear h
  go_enter Try.func23, Try.ntmps23
  go_wp2_with fail
  refine hc.mono ?_
  rintro e y ⟨rfl, hR⟩
  go_wp2
  go_ret2
  exact ⟨rfl, hR⟩
set_option maxHeartbeats 400000 in
theorem wm_one (h : PwAt w p (pwV t L V N 1 nx sn l a)) {r f : Int} {R : World → Prop} (hc : Calls Try.prog 42 #[.pointer (some ⟨p, 0, none⟩)] w fun e w' => e = .returned (.tuple #[.int .i64 r, .int .i64 f]) ∧ R w') :
    Calls Try.prog 23 #[.pointer (some ⟨p, 0, none⟩)] w fun e w' => e = .returned (.tuple #[.int .i64 r, .int .i64 f]) ∧ R w' := by
  have c4 : w.cell? ⟨p, 4, none⟩ = some (.int .i64 1) := h.c4
  clear h
  go_enter Try.func23, Try.ntmps23
  go_wp2_with fail
  refine hc.mono ?_
  rintro e y ⟨rfl, hR⟩
  go_wp2
  go_ret2
  exact ⟨rfl, hR⟩
set_option maxHeartbeats 400000 in
theorem wm_two (h : PwAt w p (pwV t L V N 2 nx sn l a)) {r f : Int} {R : World → Prop} (hc : Calls Try.prog 43 #[.pointer (some ⟨p, 0, none⟩)] w fun e w' => e = .returned (.tuple #[.int .i64 r, .int .i64 f]) ∧ R w') :
    Calls Try.prog 23 #[.pointer (some ⟨p, 0, none⟩)] w fun e w' => e = .returned (.tuple #[.int .i64 r, .int .i64 f]) ∧ R w' := by
  have c4 : w.cell? ⟨p, 4, none⟩ = some (.int .i64 2) := h.c4
  clear h
  go_enter Try.func23, Try.ntmps23
  go_wp2_with fail
  refine hc.mono ?_
  rintro e y ⟨rfl, hR⟩
  go_wp2
  go_ret2
  exact ⟨rfl, hR⟩
set_option maxHeartbeats 400000 in
theorem wm_three (h : PwAt w p (pwV t L V N 3 nx sn l a)) {r f : Int} {R : World → Prop} (hc : Calls Try.prog 44 #[.pointer (some ⟨p, 0, none⟩)] w fun e w' => e = .returned (.tuple #[.int .i64 r, .int .i64 f]) ∧ R w') :
    Calls Try.prog 23 #[.pointer (some ⟨p, 0, none⟩)] w fun e w' => e = .returned (.tuple #[.int .i64 r, .int .i64 f]) ∧ R w' := by
  have c4 : w.cell? ⟨p, 4, none⟩ = some (.int .i64 3) := h.c4
  clear h
  go_enter Try.func23, Try.ntmps23
  go_wp2_with fail
  refine hc.mono ?_
  rintro e y ⟨rfl, hR⟩
  go_wp2
  go_ret2
  exact ⟨rfl, hR⟩
set_option maxHeartbeats 400000 in
theorem wm_four (h : PwAt w p (pwV t L V N 4 nx sn l a)) :
    Calls Try.prog 23 #[.pointer (some ⟨p, 0, none⟩)] w fun e w' => e = .returned (.tuple #[.int .i64 2, .int .i64 0]) ∧ w' = w := by
  have c4 : w.cell? ⟨p, 4, none⟩ = some (.int .i64 4) := h.c4
  clear h
  go_enter Try.func23, Try.ntmps23
  go_wp2
  go_ret2
  exact ⟨rfl, rfl⟩
set_option maxHeartbeats 400000 in
theorem wm_nil (w : World) :
    Calls Try.prog 23 #[.pointer none] w fun e w' => e = .returned (.tuple #[.int .i64 0, .int .i64 2]) ∧ Below w.heap.size w w' := by
  go_enter Try.func23, Try.ntmps23
  go_wp2
  go_ret2
  exact ⟨rfl, Below.refl _ _⟩
set_option maxHeartbeats 400000 in
theorem wh_any (h : PwAt w p (pwV t L V N st nx sn l a)) (b : Bool) (hb : b = (decide (st ≠ 0) && decide (st ≠ 4))) :
    Calls Try.prog 14 #[.pointer (some ⟨p, 0, none⟩)] w fun e w' => e = .returned (.bool b) ∧ Below w.heap.size w w' := by
  have c4 := h.c4
  clear h
  by_cases h0 : st = 0
  · subst h0
    have e : b = false := by rw [hb]; rfl
    subst e
    clear hb
    rw [show ((0 : Nat) : Int) = 0 from rfl] at c4
    go_enter Try.func14, Try.ntmps14
    go_wp2
    go_ret
    exact ⟨rfl, Below.refl _ _⟩
  · have n0 : ((st : Int) != 0) = true := by rw [bne_iff_ne]; omega
    by_cases h4 : st = 4
    · subst h4
      have e : b = false := by rw [hb]; rfl
      subst e
      clear hb h0
      rw [show ((4 : Nat) : Int) = 4 from rfl] at c4
      clear n0
      go_enter Try.func14, Try.ntmps14
      go_wp2
      go_ret
      exact ⟨rfl, Below.refl _ _⟩
    · have n4 : ((st : Int) != 4) = true := by rw [bne_iff_ne]; omega
      have e : b = true := by rw [hb]; simp [h0, h4]
      subst e
      clear hb
      go_enter Try.func14, Try.ntmps14
      go_wp2
      go_ret
      exact ⟨rfl, Below.refl _ _⟩
set_option maxHeartbeats 400000 in
theorem wh_nil (w : World) :
    Calls Try.prog 14 #[.pointer none] w fun e w' => e = .returned (.bool false) ∧ Below w.heap.size w w' := by
  go_enter Try.func14, Try.ntmps14
  go_wp2
  go_ret
  exact ⟨rfl, Below.refl _ _⟩
end
end Go.Proofs.Ytikpphbgjbfddaa
