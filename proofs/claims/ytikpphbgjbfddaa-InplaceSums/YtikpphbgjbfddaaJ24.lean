/- Parts of the proof: Ba Bd Be Bf Bb Bc. -/
import Derived.Test.YtikpphbgjbfddaaJ14
import Derived.Test.YtikpphbgjbfddaaJ23
import Derived.Deep.RegionHeld3
import Derived.Deep.RegionLaw
namespace Go.Proofs.Ytikpphbgjbfddaa
set_option maxRecDepth 20000
open Go.RowKit
/-- The cells: the buffer, the lock's and the value's addresses, words, state, next, seen, the row of words, whether it adds (or a length). -/
def pwV (t L V N st nx sn : Nat) (l a : Value) : Nat → Value
  | 0 => .pointer (some ⟨t, 0, none⟩)
  | 1 => .int .u64 (L : Int)
  | 2 => .int .u64 (V : Int)
  | 3 => .int .i64 (N : Int)
  | 4 => .int .i64 (st : Int)
  | 5 => .int .i64 (nx : Int)
  | 6 => .int .u64 (sn : Int)
  | 7 => l
  | _ => a
structure PwAt (w : World) (p : Nat) (f : Nat → Value) : Prop where
  cs : ∀ i, i < 9 → w.cell? ⟨p, i, none⟩ = some (f i)
  fs : ∀ i, i < 9 → w.frozen? ⟨p, i, none⟩ = false
section
variable {w w' : World} {p : Nat} {f f' : Nat → Value} {S : Nat → Prop}
theorem PwAt.lt (h : PwAt w p f) : p < w.heap.size := World.block_lt_of_cell? w _ (h.cs 0 (by omega))
theorem PwAt.keep (h : PwAt w p f) (hk : Keeps S w w') (hp : ¬ S p) : PwAt w' p f :=
  ⟨fun i hi => by rw [hk.cell h.lt hp]; exact h.cs i hi, fun i hi => by rw [hk.frozen h.lt hp]; exact h.fs i hi⟩
theorem PwAt.below (h : PwAt w p f) (hb : Below w.heap.size w w') : PwAt w' p f := h.keep (Below.keeps (S := fun _ => False) hb) id
theorem PwAt.drewN (h : PwAt w p f) (n : Nat) : PwAt (w.drewN n) p f := h.below (below_drewN (Below.refl _ _) n)
theorem PwAt.set (h : PwAt w p f) (i : Nat) (hi : i < 9) (u : Value) (he : ∀ j, j < 9 → f' j = if j = i then u else f j) : PwAt (w.setCell ⟨p, i, none⟩ u) p f' := by
  refine ⟨fun j hj => ?_, fun j hj => by rw [World.frozen?_setCell]; exact h.fs j hj⟩
  rw [he j hj]
  by_cases e : j = i
  · subst e; rw [if_pos rfl]; exact World.cell?_setCell_same _ _ _ (h.cs j hj)
  · rw [if_neg e, World.cell?_setCell_other _ _ _ _ (fun q => e (by cases q; rfl))]; exact h.cs j hj
end
section
variable {w w' : World} {p t L V N st nx sn : Nat} {l a : Value} {S : Nat → Prop}
theorem PwAt.setSt (h : PwAt w p (pwV t L V N st nx sn l a)) (n : Nat) : PwAt (w.setCell ⟨p, 4, none⟩ (.int .i64 (n : Int))) p (pwV t L V N n nx sn l a) :=
  h.set 4 (by omega) _ (fun j hj => by match j, hj with | 0, _ => rfl | 1, _ => rfl | 2, _ => rfl | 3, _ => rfl | 4, _ => rfl | 5, _ => rfl | 6, _ => rfl | 7, _ => rfl | 8, _ => rfl)
theorem PwAt.setNx (h : PwAt w p (pwV t L V N st nx sn l a)) (n : Nat) : PwAt (w.setCell ⟨p, 5, none⟩ (.int .i64 (n : Int))) p (pwV t L V N st n sn l a) :=
  h.set 5 (by omega) _ (fun j hj => by match j, hj with | 0, _ => rfl | 1, _ => rfl | 2, _ => rfl | 3, _ => rfl | 4, _ => rfl | 5, _ => rfl | 6, _ => rfl | 7, _ => rfl | 8, _ => rfl)
theorem PwAt.setSn (h : PwAt w p (pwV t L V N st nx sn l a)) (n : Nat) : PwAt (w.setCell ⟨p, 6, none⟩ (.int .u64 (n : Int))) p (pwV t L V N st nx n l a) :=
  h.set 6 (by omega) _ (fun j hj => by match j, hj with | 0, _ => rfl | 1, _ => rfl | 2, _ => rfl | 3, _ => rfl | 4, _ => rfl | 5, _ => rfl | 6, _ => rfl | 7, _ => rfl | 8, _ => rfl)
theorem PwAt.setAd (h : PwAt w p (pwV t L V N st nx sn l a)) (u : Value) : PwAt (w.setCell ⟨p, 8, none⟩ u) p (pwV t L V N st nx sn l u) :=
  h.set 8 (by omega) _ (fun j hj => by match j, hj with | 0, _ => rfl | 1, _ => rfl | 2, _ => rfl | 3, _ => rfl | 4, _ => rfl | 5, _ => rfl | 6, _ => rfl | 7, _ => rfl | 8, _ => rfl)
theorem PwAt.c0 (h : PwAt w p (pwV t L V N st nx sn l a)) : w.cell? ⟨p, 0, none⟩ = some (.pointer (some ⟨t, 0, none⟩)) := h.cs 0 (by omega)
theorem PwAt.c1 (h : PwAt w p (pwV t L V N st nx sn l a)) : w.cell? ⟨p, 1, none⟩ = some (.int .u64 (L : Int)) := h.cs 1 (by omega)
theorem PwAt.c2 (h : PwAt w p (pwV t L V N st nx sn l a)) : w.cell? ⟨p, 2, none⟩ = some (.int .u64 (V : Int)) := h.cs 2 (by omega)
theorem PwAt.c3 (h : PwAt w p (pwV t L V N st nx sn l a)) : w.cell? ⟨p, 3, none⟩ = some (.int .i64 (N : Int)) := h.cs 3 (by omega)
theorem PwAt.c4 (h : PwAt w p (pwV t L V N st nx sn l a)) : w.cell? ⟨p, 4, none⟩ = some (.int .i64 (st : Int)) := h.cs 4 (by omega)
theorem PwAt.c5 (h : PwAt w p (pwV t L V N st nx sn l a)) : w.cell? ⟨p, 5, none⟩ = some (.int .i64 (nx : Int)) := h.cs 5 (by omega)
theorem PwAt.c6 (h : PwAt w p (pwV t L V N st nx sn l a)) : w.cell? ⟨p, 6, none⟩ = some (.int .u64 (sn : Int)) := h.cs 6 (by omega)
theorem PwAt.c7 (h : PwAt w p (pwV t L V N st nx sn l a)) : w.cell? ⟨p, 7, none⟩ = some l := h.cs 7 (by omega)
theorem PwAt.c8 (h : PwAt w p (pwV t L V N st nx sn l a)) : w.cell? ⟨p, 8, none⟩ = some a := h.cs 8 (by omega)
set_option maxHeartbeats 400000 in
/-- The address of the next word. -/
theorem word_any' (h : PwAt w p (pwV t L V N st nx sn l a)) (hV : V + nx ≤ 9223372036854775807) :
    Calls Try.prog 70 #[.pointer (some ⟨p, 0, none⟩)] w fun e w' => e = .returned (.int .u64 ((V + nx : Nat) : Int)) ∧ ∃ m, w' = w.drewN m := by
  have c2 := h.c2
  have c5 := h.c5
  have e1 : IntKind.u64.wrap (nx : Int) = (nx : Int) := IntWalk.u64_in _ (by omega)
  have e2 : (V : Int) + (nx : Int) = ((V + nx : Nat) : Int) := by omega
  have e3 : IntKind.u64.wrap ((V + nx : Nat) : Int) = ((V + nx : Nat) : Int) := IntWalk.u64_in _ (by omega)
  clear h hV
  generalize V + nx = s at *
  go_enter Try.func70, Try.ntmps70
  go_wp2_with fail
  go_quiet (fail)
  go_wp2
  go_ret
  exact ⟨rfl, _, rfl⟩
/-- What comes next: a word, or the end. -/
def onN (nx N : Nat) : Nat := if nx < N then 2 else 3
set_option maxHeartbeats 400000 in
/-- Onward. -/
theorem onward_any (h : PwAt w p (pwV t L V N st nx sn l a)) :
    Calls Try.prog 69 #[.pointer (some ⟨p, 0, none⟩)] w fun e w' => e = .returned (.tuple #[]) ∧ PwAt w' p (pwV t L V N (onN nx N) nx sn l a) ∧ Keeps (fun i => i = p) w w' := by
  have H3 := h.setSt 3
  have K3 : Keeps (fun i => i = p) w (w.setCell ⟨p, 4, none⟩ (.int .i64 ((3 : Nat) : Int))) := one_keeps w ⟨p, 4, none⟩ _
  have c3 := h.c3
  have c4 := h.c4
  have c5 := h.c5
  have f4 := h.fs 4 (by omega)
  have d3 := H3.c3
  have d5 := H3.c5
  have d4 := H3.c4
  rw [show ((3 : Nat) : Int) = 3 from rfl] at d3 d4 d5 H3 K3
  have HH := hide H3
  have HK := hide K3
  clear h H3 K3
  by_cases hlt : nx < N
  · rw [show onN nx N = 2 from if_pos hlt]
    have q : (nx : Int) < (N : Int) := by omega
    have HF : Hid (∀ n, PwAt ((((w.setCell ⟨p, 4, none⟩ (.int .i64 3))).drewN n).setCell ⟨p, 4, none⟩ (.int .i64 2)) p (pwV t L V N 2 nx sn l a) ∧ Keeps (fun i => i = p) w ((((w.setCell ⟨p, 4, none⟩ (.int .i64 3))).drewN n).setCell ⟨p, 4, none⟩ (.int .i64 2))) := fun n => ⟨(HH.out.drewN n).setSt 2, (HK.out.drewN n).setCell ⟨p, 4, none⟩ (fun _ => rfl) _⟩
    clear hlt
    go_enter Try.func69, Try.ntmps69
    go_wp2_with fail
    go_quiet (fail)
    go_wp2
    go_end0
    exact ⟨rfl, HF.out _⟩
  · rw [show onN nx N = 3 from if_neg hlt]
    have q : ¬ (nx : Int) < (N : Int) := by omega
    clear hlt
    go_enter Try.func69, Try.ntmps69
    go_wp2_with fail
    go_quiet (fail)
    go_wp2
    go_end0
    exact ⟨rfl, HH.out.drewN _, HK.out.drewN _⟩
end
section
variable {w w' : World} {S : Nat → Prop} {t k N : Nat} {c : Ce}
/-- The lock's word. -/
def lwN (c : Ce) : Nat := (if c.lk = true then 9223372036854775808 else 0) + c.ct
theorem lw_free {c : Ce} (hc : c.ct < 4294967296) (hl : c.lk = false) : lwN c = c.ct ∧ isLockB c.ct = true ∧ writesB c.ct = false := by
  refine ⟨by unfold lwN; rw [hl]; simp, ?_, ?_⟩
  · unfold isLockB; rw [decide_eq_true_eq]; omega
  · unfold writesB; rw [decide_eq_false_iff_not]; omega
theorem lw_held {n : Nat} (hc : n < 4294967296) : isLockB (n + 9223372036854775808) = true ∧ writesB (n + 9223372036854775808) = true ∧ (n + 9223372036854775808) % 4294967296 = n := by
  refine ⟨?_, ?_, by omega⟩
  · unfold isLockB; rw [decide_eq_true_eq]; omega
  · unfold writesB; rw [decide_eq_true_eq]; omega
theorem lw_taken {c : Ce} (hl : c.lk = true) : lwN c = c.ct + 9223372036854775808 := by unfold lwN; rw [if_pos hl]; omega
theorem lw_lt {c : Ce} (hc : c.ct < 4294967296) : lwN c < 18446744073709551616 := by unfold lwN; split <;> omega
theorem lw_writes {c : Ce} (hc : c.ct < 4294967296) : writesB (lwN c) = c.lk := by
  unfold writesB lwN
  cases c.lk with
  | true => rw [decide_eq_true_eq, if_pos rfl]; omega
  | false => rw [decide_eq_false_iff_not, if_neg (by decide)]; omega
theorem InBuf.below (h : InBuf w S t k N c) (hb : Below w.heap.size w w') : InBuf w' S t k N c := h.keep (Below.keeps (S := fun _ => False) hb) (fun _ _ => id)
theorem InBuf.up (h : InBuf w S t k N c) {k' : Nat} (hk : k ≤ k') : InBuf w S t k' N c := by
  obtain ⟨⟨F, V, h1, h2⟩, h3⟩ := h
  exact ⟨⟨F, V, h1.more hk, h2⟩, h3⟩
/-- A word of page 0 is written: what is told behind it. -/
theorem inb_upd {F : Nat → Option Pg} {V : Nat → Int} {a : Nat} (ha : a < 64) (y : Int) : updF F (pageN 6 a % 2) (some (pageN 6 a, updV V (offN 6 a) y)) 0 = some (0, updV V a y) := by
  obtain ⟨p1, p2⟩ := page6 a ha
  rw [p1, p2]; rfl
theorem inb_store (h : InBuf w S t k N c) (a : Nat) (ha : a < 64) (y : Int) {c' : Ce} (hl : (if 2 = a then y else (lwN c : Int)) = (lwN c' : Int)) (hv : ∀ j, j < N → (if 5 + j = a then y else (c.l.getD j 0 : Int)) = (c'.l.getD j 0 : Int)) :
    Calls Try.prog 71 #[.pointer (some ⟨t, 0, none⟩), .int .u64 (a : Int), .int .u64 y] w fun e w' => e = .returned (.int .i64 0) ∧ InBuf w' S t (k + 1) N c' ∧ Keeps S w w' := by
  obtain ⟨⟨F, V, ⟨fb, g, o, hp⟩, hF, h2, hV⟩, hf⟩ := h
  obtain ⟨p1, p2⟩ := page6 a ha
  refine (pb_store_yes hp a (by omega) V (by rw [p1]; exact hF) y).mono ?_
  rintro e w' ⟨rfl, hp', hk⟩
  refine ⟨rfl, ⟨⟨_, updV V a y, ⟨fb, g, o, hp'⟩, inb_upd ha y, ?_, fun j hj => ?_⟩, hf⟩, hk⟩
  · rw [show ((((if c'.lk = true then 9223372036854775808 else 0) + c'.ct : Nat) : Int)) = (lwN c' : Int) from rfl, ← hl]
    unfold updV; rw [h2]; rfl
  · rw [← hv j hj]
    unfold updV; rw [hV j hj]
theorem inb_cas (h : InBuf w S t k N c) (hk : k ≤ 100000) (y : Nat) {c' : Ce} (hl : y = lwN c') (hv : c'.l = c.l) :
    Calls Try.prog 68 #[.pointer (some ⟨t, 0, none⟩), .int .u64 2, .int .u64 (lwN c : Int), .int .u64 (y : Int)] w fun e w' => e = .returned (.tuple #[.bool true, .int .i64 0]) ∧ InBuf w' S t (k + 1) N c' ∧ Keeps S w w' := by
  obtain ⟨⟨F, V, ⟨fb, g, o, hp⟩, hF, h2, hV⟩, hf⟩ := h
  obtain ⟨p1, p2⟩ := page6 2 (by omega)
  refine (pb_cas_hit hp (by omega) 2 (by omega) V (by rw [p1]; exact hF) (lwN c : Int) (y : Int) (by rw [p2]; exact h2)).mono ?_
  rintro e w' ⟨rfl, hp', hk⟩
  refine ⟨rfl, ⟨⟨_, updV V 2 (y : Int), ⟨fb, g, o, hp'⟩, inb_upd (by omega) _, ?_, fun j hj => ?_⟩, hf⟩, hk⟩
  · rw [show ((((if c'.lk = true then 9223372036854775808 else 0) + c'.ct : Nat) : Int)) = (lwN c' : Int) from rfl, ← hl]
    unfold updV; rfl
  · rw [hv, ← hV j hj]
    unfold updV; rw [if_neg (by omega)]
end
end Go.Proofs.Ytikpphbgjbfddaa
namespace Go.Proofs.Ytikpphbgjbfddaa
set_option maxRecDepth 20000
open Go.RowKit
section
variable {w : World} {S : Nat → Prop} {p t L V N st nx sn k ct : Nat} {l a : Value} {c : Ce}
set_option maxHeartbeats 2000000 in
theorem we_any (h : PwAt w p (pwV t 2 5 N st nx (ct + 9223372036854775808) l a)) (hb : InBuf w S t k N c) (hct : ct = c.ct) (hc : c.ct < 4294967296) (hS : ¬ S p) :
    Calls Try.prog 44 #[.pointer (some ⟨p, 0, none⟩)] w fun e w' => e = .returned (.tuple #[.int .i64 2, .int .i64 0]) ∧ PwAt w' p (pwV t 2 5 N 4 nx (ct + 9223372036854775808) l a) ∧ InBuf w' S t (k + 1) N { c with lk := false, ct := (c.ct + 1) % 4294967296 } ∧ Keeps (fun i => i = p ∨ S i) w w' := by
  obtain ⟨e1, e2, e3⟩ := lw_held (n := c.ct) hc
  obtain ⟨F, HF⟩ : ∃ F : Nat, Hid ((c.ct + 1) % 4294967296 = F) := ⟨_, rfl⟩
  have HU : Hid (∀ y, Calls Try.prog 72 #[.int .u64 ((ct + 9223372036854775808 : Nat) : Int)] y fun e w' => e = .returned (.tuple #[.int .u64 (F : Int), .int .i64 0]) ∧ Below y.heap.size y w') := fun y => by
    have := unlock_yes (c.ct + 9223372036854775808) y (by omega) e1 e2
    rw [e3, HF.out] at this
    rw [hct]; exact this
  have HL : Hid (∀ z, Below w.heap.size w z → Calls Try.prog 71 #[.pointer (some ⟨t, 0, none⟩), .int .u64 2, .int .u64 (F : Int)] z fun e w' => e = .returned (.int .i64 0) ∧ InBuf w' S t (k + 1) N { c with lk := false, ct := (c.ct + 1) % 4294967296 } ∧ Keeps S z w') := fun z hz => inb_store (hb.below hz) 2 (by omega) _ (by rw [if_pos rfl, HF.out]; unfold lwN; simp) (fun i hi => by rw [if_neg (by omega)])
  have HS : Hid (∀ z, Keeps S w z → z.cell? ⟨p, 0, none⟩ = some (.pointer (some ⟨t, 0, none⟩)) ∧ z.cell? ⟨p, 1, none⟩ = some (.int .u64 2)) := fun z hz => ⟨(h.keep hz hS).c0, (h.keep hz hS).c1⟩
  have HP := hide h
  have HNS := hide hS
  have c6 := h.c6
  obtain ⟨R, HR⟩ : ∃ R : Nat, Hid (ct + 9223372036854775808 = R) := ⟨_, rfl⟩
  rw [HR.out] at c6 HU HP
  rw [HR.out]
  clear h hb hct hc hS e1 e2 e3
  go_enter Try.func44, Try.ntmps44
  go_wp2_with fail
  refine (HU.out _).mono ?_
  rintro e y1 ⟨rfl, b1⟩
  have K1 := Below.keeps (S := S) b1
  obtain ⟨c0, c1⟩ := HS.out y1 K1
  clear c6 HU
  go_wp2_with fail
  go_region_held3 (fun W => W.cell? ⟨p, 0, none⟩ = some (.pointer (some ⟨t, 0, none⟩)) ∧ W.cell? ⟨p, 1, none⟩ = some (.int .u64 2)) (first | assumption | go_keep) (first | (go_at_call 71; refine (HL.out (y1.drewN 1) (below_drewN b1 1)).mono ?_; rintro e y2 ⟨rfl, hb2, k2⟩; have q2 := HS.out y2 ((Below.keeps (S := S) (below_drewN b1 1)).trans k2 (fun _ _ t => t))))
  have K2 := (Below.keeps (S := S) (below_drewN b1 1)).trans k2 (fun _ _ t => t)
  have P2 := HP.out.keep K2 HNS.out
  have f4 := P2.fs 4 (by omega)
  have c4 := P2.c4
  have HP2 := hide (P2.setSt 4)
  have HB3 := hide (hb2.keep (one_keeps y2 ⟨p, 4, none⟩ (.int .i64 4)) (fun i hi e => HNS.out (by cases e; exact hi)))
  have HK3 := hide ((K2.wider (T := fun i => i = p ∨ S i) (fun _ _ t => .inr t)).setCell ⟨p, 4, none⟩ (fun _ => .inl rfl) (.int .i64 4))
  clear q2 hb2 k2 K2 P2 HL HS c0 c1 K1
  go_wp2
  go_ret2
  exact ⟨rfl, HP2.out, HB3.out, HK3.out⟩
set_option maxHeartbeats 400000 in
theorem wm_zero (h : PwAt w p (pwV t L V N 0 nx sn l a)) {r f : Int} {R : World → Prop} (hc : Calls Try.prog 41 #[.pointer (some ⟨p, 0, none⟩)] w fun e w' => e = .returned (.tuple #[.int .i64 r, .int .i64 f]) ∧ R w') :
    Calls Try.prog 23 #[.pointer (some ⟨p, 0, none⟩)] w fun e w' => e = .returned (.tuple #[.int .i64 r, .int .i64 f]) ∧ R w' := by
  have c4 : w.cell? ⟨p, 4, none⟩ = some (.int .i64 0) := h.c4
  clear h
  go_enter Try.func23, Try.ntmps23
  go_wp2_with fail
  refine hc.mono ?_
  rintro e y ⟨rfl, hR⟩
  go_wp2
  go_ret2
  exact ⟨rfl, hR⟩
set_option maxHeartbeats 400000 in
theorem wm_one (h : PwAt w p (pwV t L V N 1 nx sn l a)) {r f : Int} {R : World → Prop} (hc : Calls Try.prog 42 #[.pointer (some ⟨p, 0, none⟩)] w fun e w' => e = .returned (.tuple #[.int .i64 r, .int .i64 f]) ∧ R w') :
    Calls Try.prog 23 #[.pointer (some ⟨p, 0, none⟩)] w fun e w' => e = .returned (.tuple #[.int .i64 r, .int .i64 f]) ∧ R w' := by
  have c4 : w.cell? ⟨p, 4, none⟩ = some (.int .i64 1) := h.c4
  clear h
  go_enter Try.func23, Try.ntmps23
  go_wp2_with fail
  refine hc.mono ?_
  rintro e y ⟨rfl, hR⟩
  go_wp2
  go_ret2
  exact ⟨rfl, hR⟩
set_option maxHeartbeats 400000 in
theorem wm_two (h : PwAt w p (pwV t L V N 2 nx sn l a)) {r f : Int} {R : World → Prop} (hc : Calls Try.prog 43 #[.pointer (some ⟨p, 0, none⟩)] w fun e w' => e = .returned (.tuple #[.int .i64 r, .int .i64 f]) ∧ R w') :
    Calls Try.prog 23 #[.pointer (some ⟨p, 0, none⟩)] w fun e w' => e = .returned (.tuple #[.int .i64 r, .int .i64 f]) ∧ R w' := by
  have c4 : w.cell? ⟨p, 4, none⟩ = some (.int .i64 2) := h.c4
  clear h
  go_enter Try.func23, Try.ntmps23
  go_wp2_with fail
  refine hc.mono ?_
  rintro e y ⟨rfl, hR⟩
  go_wp2
  go_ret2
  exact ⟨rfl, hR⟩
set_option maxHeartbeats 400000 in
theorem wm_three (h : PwAt w p (pwV t L V N 3 nx sn l a)) {r f : Int} {R : World → Prop} (hc : Calls Try.prog 44 #[.pointer (some ⟨p, 0, none⟩)] w fun e w' => e = .returned (.tuple #[.int .i64 r, .int .i64 f]) ∧ R w') :
    Calls Try.prog 23 #[.pointer (some ⟨p, 0, none⟩)] w fun e w' => e = .returned (.tuple #[.int .i64 r, .int .i64 f]) ∧ R w' := by
  have c4 : w.cell? ⟨p, 4, none⟩ = some (.int .i64 3) := h.c4
  clear h
  go_enter Try.func23, Try.ntmps23
  go_wp2_with fail
  refine hc.mono ?_
  rintro e y ⟨rfl, hR⟩
  go_wp2
  go_ret2
  exact ⟨rfl, hR⟩
set_option maxHeartbeats 400000 in
theorem wm_four (h : PwAt w p (pwV t L V N 4 nx sn l a)) :
    Calls Try.prog 23 #[.pointer (some ⟨p, 0, none⟩)] w fun e w' => e = .returned (.tuple #[.int .i64 2, .int .i64 0]) ∧ w' = w := by
  have c4 : w.cell? ⟨p, 4, none⟩ = some (.int .i64 4) := h.c4
  clear h
  go_enter Try.func23, Try.ntmps23
  go_wp2
  go_ret2
  exact ⟨rfl, rfl⟩
set_option maxHeartbeats 400000 in
theorem wm_nil (w : World) :
    Calls Try.prog 23 #[.pointer none] w fun e w' => e = .returned (.tuple #[.int .i64 0, .int .i64 2]) ∧ Below w.heap.size w w' := by
  go_enter Try.func23, Try.ntmps23
  go_wp2
  go_ret2
  exact ⟨rfl, Below.refl _ _⟩
set_option maxHeartbeats 400000 in
theorem wh_any (h : PwAt w p (pwV t L V N st nx sn l a)) (b : Bool) (hb : b = (decide (st ≠ 0) && decide (st ≠ 4))) :
    Calls Try.prog 14 #[.pointer (some ⟨p, 0, none⟩)] w fun e w' => e = .returned (.bool b) ∧ Below w.heap.size w w' := by
  have c4 := h.c4
  clear h
  by_cases h0 : st = 0
  · subst h0
    have e : b = false := by rw [hb]; rfl
    subst e
    clear hb
    rw [show ((0 : Nat) : Int) = 0 from rfl] at c4
    go_enter Try.func14, Try.ntmps14
    go_wp2
    go_ret
    exact ⟨rfl, Below.refl _ _⟩
  · have n0 : ((st : Int) != 0) = true := by rw [bne_iff_ne]; omega
    by_cases h4 : st = 4
    · subst h4
      have e : b = false := by rw [hb]; rfl
      subst e
      clear hb h0
      rw [show ((4 : Nat) : Int) = 4 from rfl] at c4
      clear n0
      go_enter Try.func14, Try.ntmps14
      go_wp2
      go_ret
      exact ⟨rfl, Below.refl _ _⟩
    · have n4 : ((st : Int) != 4) = true := by rw [bne_iff_ne]; omega
      have e : b = true := by rw [hb]; simp [h0, h4]
      subst e
      clear hb
      go_enter Try.func14, Try.ntmps14
      go_wp2
      go_ret
      exact ⟨rfl, Below.refl _ _⟩
set_option maxHeartbeats 400000 in
theorem wh_nil (w : World) :
    Calls Try.prog 14 #[.pointer none] w fun e w' => e = .returned (.bool false) ∧ Below w.heap.size w w' := by
  go_enter Try.func14, Try.ntmps14
  go_wp2
  go_ret
  exact ⟨rfl, Below.refl _ _⟩
end
end Go.Proofs.Ytikpphbgjbfddaa
namespace Go.Proofs.Ytikpphbgjbfddaa
set_option maxRecDepth 20000
open Go.RowKit
section
variable {w : World} {S : Nat → Prop} {p g t L V N st nx sn k j cap : Nat} {l a : Value} {c : Ce} {ml : List Nat}
set_option maxHeartbeats 1000000 in
theorem rb_busy (h : PwAt w p (pwV t 2 5 N st nx sn l a)) (hb : InBuf w S t k N c) (hc : c.ct < 4294967296) (hl : c.lk = true) :
    Calls Try.prog 45 #[.pointer (some ⟨p, 0, none⟩)] w fun e w' => e = .returned (.tuple #[.int .i64 3, .int .i64 0]) ∧ Below w.heap.size w w' := by
  have HL : Hid (∀ n, Calls Try.prog 16 #[.pointer (some ⟨t, 0, none⟩), .int .u64 2] (w.drewN n) fun e w' => e = .returned (.tuple #[.int .u64 (lwN c : Int), .int .i64 0]) ∧ Below (w.drewN n).heap.size (w.drewN n) w') := fun n => inb_lock (hb.below (below_drewN (Below.refl _ _) n))
  have HK : Hid (∀ y, Calls Try.prog 66 #[.int .u64 (lwN c : Int)] y fun e w' => e = .returned (.bool true) ∧ Below y.heap.size y w') := fun y => by
    have := locked_any (lwN c) y (lw_lt hc)
    rw [lw_writes hc, hl] at this
    exact this
  have c0 := h.c0
  have c1 : w.cell? ⟨p, 1, none⟩ = some (.int .u64 2) := h.c1
  have HS : Hid (∀ n z, Below (w.drewN n).heap.size (w.drewN n) z → z.cell? ⟨p, 0, none⟩ = some (.pointer (some ⟨t, 0, none⟩)) ∧ z.cell? ⟨p, 1, none⟩ = some (.int .u64 2)) := fun n z hz => ⟨((h.drewN n).below hz).c0, ((h.drewN n).below hz).c1⟩
  clear h hb hc hl
  generalize (lwN c : Int) = Q at *
  go_enter Try.func45, Try.ntmps45
  go_wp2_with fail
  go_region_held3 (fun W => W.cell? ⟨p, 0, none⟩ = some (.pointer (some ⟨t, 0, none⟩)) ∧ W.cell? ⟨p, 1, none⟩ = some (.int .u64 2)) (first | assumption | go_keep) (first | (go_at_call 16; refine (HL.out 1).mono ?_; rintro e y1 ⟨rfl, b1⟩; have q1 := HS.out 1 y1 b1))
  have B1 := (below_drewN (Below.refl w.heap.size w) 1).trans (b1.mono (by simp))
  clear q1 b1 HS HL
  go_wp2_with fail
  refine (HK.out _).mono ?_
  rintro e y2 ⟨rfl, b2⟩
  go_wp2
  go_ret2
  exact ⟨rfl, B1.trans (b2.mono B1.size)⟩
set_option maxHeartbeats 2000000 in
theorem rb_take (h : PwAt w p (pwV t 2 5 N st nx sn l a)) (hb : InBuf w S t k N c) (hc : c.ct < 4294967296) (hl : c.lk = false) :
    Calls Try.prog 45 #[.pointer (some ⟨p, 0, none⟩)] w fun e w' => e = .returned (.tuple #[.int .i64 1, .int .i64 0]) ∧ PwAt w' p (pwV t 2 5 N (onN 0 N) 0 c.ct l a) ∧ Keeps (fun i => i = p) w w' := by
  obtain ⟨e1, e2, e3⟩ := lw_free hc hl
  have HL : Hid (∀ n, Calls Try.prog 16 #[.pointer (some ⟨t, 0, none⟩), .int .u64 2] (w.drewN n) fun e w' => e = .returned (.tuple #[.int .u64 (c.ct : Int), .int .i64 0]) ∧ Below (w.drewN n).heap.size (w.drewN n) w') := fun n => by
    have := inb_lock (hb.below (below_drewN (Below.refl _ _) n))
    rw [show (((if c.lk = true then 9223372036854775808 else 0) + c.ct : Nat) : Int) = (lwN c : Int) from rfl, e1] at this
    exact this
  have HK : Hid (∀ y, Calls Try.prog 66 #[.int .u64 (c.ct : Int)] y fun e w' => e = .returned (.bool false) ∧ Below y.heap.size y w') := fun y => by
    have := locked_any c.ct y (by omega)
    rw [e3] at this
    exact this
  have c0 := h.c0
  have c1 : w.cell? ⟨p, 1, none⟩ = some (.int .u64 2) := h.c1
  have HS : Hid (∀ n z, Below (w.drewN n).heap.size (w.drewN n) z → z.cell? ⟨p, 0, none⟩ = some (.pointer (some ⟨t, 0, none⟩)) ∧ z.cell? ⟨p, 1, none⟩ = some (.int .u64 2)) := fun n z hz => ⟨((h.drewN n).below hz).c0, ((h.drewN n).below hz).c1⟩
  have HP := hide h
  clear h hb hc hl e1 e2 e3
  generalize c.ct = Q at *
  go_enter Try.func45, Try.ntmps45
  go_wp2_with fail
  go_region_held3 (fun W => W.cell? ⟨p, 0, none⟩ = some (.pointer (some ⟨t, 0, none⟩)) ∧ W.cell? ⟨p, 1, none⟩ = some (.int .u64 2)) (first | assumption | go_keep) (first | (go_at_call 16; refine (HL.out 1).mono ?_; rintro e y1 ⟨rfl, b1⟩; have q1 := HS.out 1 y1 b1))
  have B1 := (below_drewN (Below.refl w.heap.size w) 1).trans (b1.mono (by simp))
  clear q1 b1 HS HL
  go_wp2_with fail
  refine (HK.out _).mono ?_
  rintro e y2 ⟨rfl, b2⟩
  have B2 := B1.trans (b2.mono B1.size)
  have P2 := HP.out.below B2
  have f6 := P2.fs 6 (by omega)
  have c6 := P2.c6
  have f5 := P2.fs 5 (by omega)
  have c5 := P2.c5
  have c5' := (P2.setSn Q).c5
  have HON := hide (onward_any ((P2.setSn Q).setNx 0))
  have HK3 := hide (((Below.keeps (S := fun i => i = p) B2).setCell ⟨p, 6, none⟩ (fun _ => rfl) (.int .u64 (Q : Int))).setCell ⟨p, 5, none⟩ (fun _ => rfl) (.int .i64 0))
  rw [show ((0 : Nat) : Int) = 0 from rfl] at HON
  clear b2 B1 B2 P2 HK c0 c1
  go_wp2_with fail
  refine HON.out.mono ?_
  rintro e y5 ⟨rfl, P5, k5⟩
  have K5 := HK3.out.trans k5 (fun _ _ t => t)
  go_wp2
  go_ret2
  exact ⟨rfl, P5, K5⟩
set_option maxHeartbeats 2000000 in
theorem rr_any (h : PwAt w p (pwV t 2 5 N st j sn (.slice (some ⟨g, 0, none⟩) N cap) a)) (hb : InBuf w S t k N c) (hj : j < N) (ho : w.ownsRow 0 43 1 (.slice (some ⟨g, 0, none⟩) N cap) N (uintsN ml)) (hml : ml.length = N) (hgp : g ≠ p) :
    Calls Try.prog 46 #[.pointer (some ⟨p, 0, none⟩)] w fun e w' => e = .returned (.tuple #[.int .i64 1, .int .i64 0]) ∧ PwAt w' p (pwV t 2 5 N (onN (j + 1) N) (j + 1) sn (.slice (some ⟨g, 0, none⟩) N cap) a) ∧ w'.ownsRow 0 43 1 (.slice (some ⟨g, 0, none⟩) N cap) N (uintsN (ml.set j (c.l.getD j 0))) ∧ Keeps (fun i => i = p ∨ i = g) w w' := by
  have hN := hb.few
  have HL : Hid (∀ z, Below w.heap.size w z → Calls Try.prog 16 #[.pointer (some ⟨t, 0, none⟩), .int .u64 ((5 + j : Nat) : Int)] z fun e w' => e = .returned (.tuple #[.int .u64 (c.l.getD j 0 : Int), .int .i64 0]) ∧ Below z.heap.size z w') := fun z hz => inb_load (hb.below hz) j hj
  have HW : Hid (∀ n, Calls Try.prog 70 #[.pointer (some ⟨p, 0, none⟩)] (w.drewN n) fun e w' => e = .returned (.int .u64 ((5 + j : Nat) : Int)) ∧ ∃ m, w' = (w.drewN n).drewN m) := fun n => word_any' (h.drewN n) (by omega)
  have c0 := h.c0
  have HS : Hid (∀ z, Below w.heap.size w z → z.cell? ⟨p, 0, none⟩ = some (.pointer (some ⟨t, 0, none⟩))) := fun z hz => (h.below hz).c0
  have HP := hide h
  have HO := hide ho
  obtain ⟨y, HZ⟩ : ∃ y, Hid (c.l.getD j 0 = y) := ⟨_, rfl⟩
  have HCE : Hid (∀ z, Below w.heap.size w z → z.cell? ⟨g, j, none⟩ = some (.int .u64 ((ml[j]?.getD 0 : Nat) : Int)) ∧ z.frozen? ⟨g, j, none⟩ = false) := fun z hz => by
    have ho' := own_keep ho (Below.keeps (S := fun _ => False) hz) (fun _ _ => id)
    exact ⟨own_cellsU ho' hml j hj, ho'.frozenAt j⟩
  obtain ⟨s, HSS⟩ : ∃ s : Int, Hid (((5 + j : Nat) : Int) = s) := ⟨_, rfl⟩
  rw [HZ.out]
  rw [HZ.out, HSS.out] at HL
  rw [HSS.out] at HW
  have HGP := hide hgp
  clear h hb ho hml hgp
  have hjN : (j : Int) < (N : Int) := by omega
  generalize ml[j]?.getD 0 = x at *
  go_enter Try.func46, Try.ntmps46
  go_wp2_with fail
  go_region_held3 (fun W => W.cell? ⟨p, 0, none⟩ = some (.pointer (some ⟨t, 0, none⟩))) (first | assumption | go_keep) (first | (go_at_call 70; refine (HW.out 1).mono ?_; rintro e y1 ⟨rfl, m1, rfl⟩; have q1 := HS.out ((w.drewN 1).drewN m1) (below_drewN (below_drewN (Below.refl w.heap.size w) 1) m1)) | (go_at_call 16; refine (HL.out (w.drewN (1 + m1)) (below_drewN (Below.refl w.heap.size w) (1 + m1))).mono ?_; rintro e y2 ⟨rfl, b2⟩; have q2 := HS.out y2 ((below_drewN (Below.refl w.heap.size w) (1 + m1)).trans (b2.mono (by simp)))))
  have B2 := (below_drewN (Below.refl w.heap.size w) (1 + m1)).trans (b2.mono (by simp))
  have P2 := HP.out.below B2
  obtain ⟨ce, cf⟩ := HCE.out y2 B2
  have c7 := P2.c7
  have c5 := P2.c5
  have O2 := own_keep HO.out (Below.keeps (S := fun _ => False) B2) (fun _ _ => id)
  have HP2 := hide P2
  have HO2 := hide O2
  have HB2 := hide B2
  clear q1 q2 b2 B2 P2 O2 HL HW HS HCE c0
  go_wp2_with fail
  go_region
  have HK3 : Hid (Keeps (fun i => i = p ∨ i = g) w (y2.setCell ⟨g, j, none⟩ (.int .u64 (y : Int))).drew) := hide (((Below.keeps (S := fun i => i = p ∨ i = g) HB2.out).setCell ⟨g, j, none⟩ (fun _ => .inr rfl) (.int .u64 (y : Int))).drewN 1)
  have P3 : PwAt (y2.setCell ⟨g, j, none⟩ (.int .u64 (y : Int))).drew p (pwV t 2 5 N st j sn (.slice (some ⟨g, 0, none⟩) N cap) a) := (HP2.out.keep (one_keeps y2 ⟨g, j, none⟩ (.int .u64 (y : Int))) (fun e => HGP.out e.symm)).drewN 1
  have HO3 : Hid ((y2.setCell ⟨g, j, none⟩ (.int .u64 (y : Int))).drew.ownsRow 0 43 1 (.slice (some ⟨g, 0, none⟩) N cap) N (uintsN (ml.set j y))) := by
    have := own_set HO2.out rfl j (.int .u64 (y : Int))
    rw [uintsN_set] at this
    exact own_keep this (Below.keeps (S := fun _ => False) (below_drewN (Below.refl _ _) 1)) (fun _ _ => id)
  generalize (y2.setCell ⟨g, j, none⟩ (.int .u64 (y : Int))).drew = y3 at *
  have f5 := P3.fs 5 (by omega)
  have c5' := P3.c5
  have hj1 : (j : Int) + 1 = ((j + 1 : Nat) : Int) := by omega
  have HON := hide (onward_any (P3.setNx (j + 1)))
  have HO4 := hide (own_keep HO3.out (one_keeps _ ⟨p, 5, none⟩ (.int .i64 ((j + 1 : Nat) : Int))) (fun q hq e => HGP.out (by cases hq; exact e)))
  have HK4 := hide (HK3.out.setCell ⟨p, 5, none⟩ (fun _ => .inl rfl) (.int .i64 ((j + 1 : Nat) : Int)))
  rw [← hj1] at HON HO4 HK4
  clear ce cf c7 c5 hj1 P3 HK3 HO3
  go_wp2_with fail
  refine HON.out.mono ?_
  rintro e y5 ⟨rfl, P5, k5⟩
  have O5 := own_keep HO4.out k5 (fun q hq e => HGP.out (by cases hq; exact e))
  have K5 := HK4.out.trans k5 (fun _ _ t => .inl t)
  go_wp2
  go_ret2
  exact ⟨rfl, P5, O5, K5⟩
end
end Go.Proofs.Ytikpphbgjbfddaa
namespace Go.Proofs.Ytikpphbgjbfddaa
set_option maxRecDepth 20000
open Go.RowKit
section
variable {w : World} {S : Nat → Prop} {p t L V N st nx sn k cap n : Nat} {l a : Value} {c : Ce} {ml : List Nat}
set_option maxHeartbeats 2000000 in
theorem re_busy (h : PwAt w p (pwV t 2 5 N st nx sn l a)) (hb : InBuf w S t k N c) (hne : lwN c ≠ sn) :
    Calls Try.prog 47 #[.pointer (some ⟨p, 0, none⟩)] w fun e w' => e = .returned (.tuple #[.int .i64 3, .int .i64 0]) ∧ PwAt w' p (pwV t 2 5 N 0 nx sn l a) ∧ Keeps (fun i => i = p) w w' := by
  have HL : Hid (∀ n, Calls Try.prog 16 #[.pointer (some ⟨t, 0, none⟩), .int .u64 2] (w.drewN n) fun e w' => e = .returned (.tuple #[.int .u64 (lwN c : Int), .int .i64 0]) ∧ Below (w.drewN n).heap.size (w.drewN n) w') := fun n => inb_lock (hb.below (below_drewN (Below.refl _ _) n))
  have c0 := h.c0
  have c1 : w.cell? ⟨p, 1, none⟩ = some (.int .u64 2) := h.c1
  have HS : Hid (∀ n z, Below (w.drewN n).heap.size (w.drewN n) z → z.cell? ⟨p, 0, none⟩ = some (.pointer (some ⟨t, 0, none⟩)) ∧ z.cell? ⟨p, 1, none⟩ = some (.int .u64 2)) := fun n z hz => ⟨((h.drewN n).below hz).c0, ((h.drewN n).below hz).c1⟩
  have hne' : ((lwN c : Int) != (sn : Int)) = true := by rw [bne_iff_ne]; omega
  have HP := hide h
  clear h hb hne
  generalize (lwN c : Int) = Q at *
  go_enter Try.func47, Try.ntmps47
  go_wp2_with fail
  go_region_held3 (fun W => W.cell? ⟨p, 0, none⟩ = some (.pointer (some ⟨t, 0, none⟩)) ∧ W.cell? ⟨p, 1, none⟩ = some (.int .u64 2)) (first | assumption | go_keep) (first | (go_at_call 16; refine (HL.out 1).mono ?_; rintro e y1 ⟨rfl, b1⟩; have q1 := HS.out 1 y1 b1))
  have B1 := (below_drewN (Below.refl w.heap.size w) 1).trans (b1.mono (by simp))
  have P1 := HP.out.below B1
  have c6 := P1.c6
  have c4 := P1.c4
  have f4 := P1.fs 4 (by omega)
  have HP2 := hide (P1.setSt 0)
  have HK := hide ((Below.keeps (S := fun i => i = p) B1).setCell ⟨p, 4, none⟩ (fun _ => rfl) (.int .i64 0))
  clear q1 b1 HS HL B1 P1 c0 c1
  go_wp2
  go_ret2
  exact ⟨rfl, HP2.out, HK.out⟩
set_option maxHeartbeats 2000000 in
theorem re_done (h : PwAt w p (pwV t 2 5 N st nx sn l a)) (hb : InBuf w S t k N c) (hne : lwN c = sn) :
    Calls Try.prog 47 #[.pointer (some ⟨p, 0, none⟩)] w fun e w' => e = .returned (.tuple #[.int .i64 2, .int .i64 0]) ∧ PwAt w' p (pwV t 2 5 N 4 nx sn l a) ∧ Keeps (fun i => i = p) w w' := by
  have HL : Hid (∀ n, Calls Try.prog 16 #[.pointer (some ⟨t, 0, none⟩), .int .u64 2] (w.drewN n) fun e w' => e = .returned (.tuple #[.int .u64 (sn : Int), .int .i64 0]) ∧ Below (w.drewN n).heap.size (w.drewN n) w') := fun n => by
    rw [← hne]; exact inb_lock (hb.below (below_drewN (Below.refl _ _) n))
  have c0 := h.c0
  have c1 : w.cell? ⟨p, 1, none⟩ = some (.int .u64 2) := h.c1
  have HS : Hid (∀ n z, Below (w.drewN n).heap.size (w.drewN n) z → z.cell? ⟨p, 0, none⟩ = some (.pointer (some ⟨t, 0, none⟩)) ∧ z.cell? ⟨p, 1, none⟩ = some (.int .u64 2)) := fun n z hz => ⟨((h.drewN n).below hz).c0, ((h.drewN n).below hz).c1⟩
  have hne' : ((sn : Int) != (sn : Int)) = false := by simp
  have HP := hide h
  clear h hb hne
  go_enter Try.func47, Try.ntmps47
  go_wp2_with fail
  go_region_held3 (fun W => W.cell? ⟨p, 0, none⟩ = some (.pointer (some ⟨t, 0, none⟩)) ∧ W.cell? ⟨p, 1, none⟩ = some (.int .u64 2)) (first | assumption | go_keep) (first | (go_at_call 16; refine (HL.out 1).mono ?_; rintro e y1 ⟨rfl, b1⟩; have q1 := HS.out 1 y1 b1))
  have B1 := (below_drewN (Below.refl w.heap.size w) 1).trans (b1.mono (by simp))
  have P1 := HP.out.below B1
  have c6 := P1.c6
  have c4 := P1.c4
  have f4 := P1.fs 4 (by omega)
  have HP2 := hide (P1.setSt 4)
  have HK := hide ((Below.keeps (S := fun i => i = p) B1).setCell ⟨p, 4, none⟩ (fun _ => rfl) (.int .i64 4))
  clear q1 b1 HS HL B1 P1 c0 c1
  go_wp2
  go_ret2
  exact ⟨rfl, HP2.out, HK.out⟩
set_option maxHeartbeats 400000 in
theorem rm_zero (h : PwAt w p (pwV t L V N 0 nx sn l a)) {r f : Int} {R : World → Prop} (hc : Calls Try.prog 45 #[.pointer (some ⟨p, 0, none⟩)] w fun e w' => e = .returned (.tuple #[.int .i64 r, .int .i64 f]) ∧ R w') :
    Calls Try.prog 24 #[.pointer (some ⟨p, 0, none⟩)] w fun e w' => e = .returned (.tuple #[.int .i64 r, .int .i64 f]) ∧ R w' := by
  have c4 : w.cell? ⟨p, 4, none⟩ = some (.int .i64 0) := h.c4
  clear h
  go_enter Try.func24, Try.ntmps24
  go_wp2_with fail
  refine hc.mono ?_
  rintro e y ⟨rfl, hR⟩
  go_wp2
  go_ret2
  exact ⟨rfl, hR⟩
set_option maxHeartbeats 400000 in
theorem rm_two (h : PwAt w p (pwV t L V N 2 nx sn l a)) {r f : Int} {R : World → Prop} (hc : Calls Try.prog 46 #[.pointer (some ⟨p, 0, none⟩)] w fun e w' => e = .returned (.tuple #[.int .i64 r, .int .i64 f]) ∧ R w') :
    Calls Try.prog 24 #[.pointer (some ⟨p, 0, none⟩)] w fun e w' => e = .returned (.tuple #[.int .i64 r, .int .i64 f]) ∧ R w' := by
  have c4 : w.cell? ⟨p, 4, none⟩ = some (.int .i64 2) := h.c4
  clear h
  go_enter Try.func24, Try.ntmps24
  go_wp2_with fail
  refine hc.mono ?_
  rintro e y ⟨rfl, hR⟩
  go_wp2
  go_ret2
  exact ⟨rfl, hR⟩
set_option maxHeartbeats 400000 in
theorem rm_three (h : PwAt w p (pwV t L V N 3 nx sn l a)) {r f : Int} {R : World → Prop} (hc : Calls Try.prog 47 #[.pointer (some ⟨p, 0, none⟩)] w fun e w' => e = .returned (.tuple #[.int .i64 r, .int .i64 f]) ∧ R w') :
    Calls Try.prog 24 #[.pointer (some ⟨p, 0, none⟩)] w fun e w' => e = .returned (.tuple #[.int .i64 r, .int .i64 f]) ∧ R w' := by
  have c4 : w.cell? ⟨p, 4, none⟩ = some (.int .i64 3) := h.c4
  clear h
  go_enter Try.func24, Try.ntmps24
  go_wp2_with fail
  refine hc.mono ?_
  rintro e y ⟨rfl, hR⟩
  go_wp2
  go_ret2
  exact ⟨rfl, hR⟩
set_option maxHeartbeats 400000 in
theorem rm_four (h : PwAt w p (pwV t L V N 4 nx sn l a)) :
    Calls Try.prog 24 #[.pointer (some ⟨p, 0, none⟩)] w fun e w' => e = .returned (.tuple #[.int .i64 2, .int .i64 0]) ∧ w' = w := by
  have c4 : w.cell? ⟨p, 4, none⟩ = some (.int .i64 4) := h.c4
  clear h
  go_enter Try.func24, Try.ntmps24
  go_wp2
  go_ret2
  exact ⟨rfl, rfl⟩
set_option maxHeartbeats 400000 in
theorem rm_nil (w : World) :
    Calls Try.prog 24 #[.pointer none] w fun e w' => e = .returned (.tuple #[.int .i64 0, .int .i64 2]) ∧ Below w.heap.size w w' := by
  go_enter Try.func24, Try.ntmps24
  go_wp2
  go_ret2
  exact ⟨rfl, Below.refl _ _⟩
set_option maxHeartbeats 400000 in
theorem rv_nil (w : World) :
    Calls Try.prog 13 #[.pointer none] w fun e w' => e = .returned (.string ⟨#[]⟩) ∧ Below w.heap.size w w' := by
  go_enter Try.func13, Try.ntmps13
  go_wp2
  go_ret
  exact ⟨rfl, Below.refl _ _⟩
set_option maxHeartbeats 400000 in
theorem rv_none (h : PwAt w p (pwV t L V N st nx sn l a)) (hst : st ≠ 4) :
    Calls Try.prog 13 #[.pointer (some ⟨p, 0, none⟩)] w fun e w' => e = .returned (.string ⟨#[]⟩) ∧ Below w.heap.size w w' := by
  have c4 := h.c4
  have n4 : ((st : Int) != 4) = true := by rw [bne_iff_ne]; omega
  clear h hst
  go_enter Try.func13, Try.ntmps13
  go_wp2
  go_ret
  exact ⟨rfl, Below.refl _ _⟩
theorem extract_take (l : List UInt8) (n : Nat) : (⟨l.toArray⟩ : ByteArray).extract 0 n = ⟨(l.take n).toArray⟩ := by
  apply ByteArray.ext
  rw [ByteArray.data_extract]
  simp
set_option maxHeartbeats 2000000 in
theorem rv_some {ao : Option Addr} (h : PwAt w p (pwV t L V N 4 nx sn (.slice ao N cap) (.int .i64 (n : Int)))) (hs : Sl .u64 w ao N (fun j => (ml.getD j 0 : Int))) (hN : N ≤ 16) (hn : n ≤ 8 * N) :
    Calls Try.prog 13 #[.pointer (some ⟨p, 0, none⟩)] w fun e w' => e = .returned (.string ⟨(bytesL (fun j => ml.getD j 0) n).toArray⟩) ∧ Below w.heap.size w w' := by
  have c4 : w.cell? ⟨p, 4, none⟩ = some (.int .i64 4) := h.c4
  have c7 := h.c7
  have hwf : wordsFor (8 * N) = N := by unfold wordsFor; omega
  have hB := hide (fun m => bytes_ok ao N cap (8 * N) (fun j => ml.getD j 0) (w.drewN m) (by omega) (hs.drew m) hwf (fun i h1 h2 => by omega))
  have HZ : Hid ((⟨(bytesL (fun j => ml.getD j 0) (8 * N)).toArray⟩ : ByteArray).extract 0 n = ⟨(bytesL (fun j => ml.getD j 0) n).toArray⟩) := by rw [Hid, extract_take, bytesL_take _ _ _ hn]
  have hsz : (⟨(bytesL (fun j => ml.getD j 0) (8 * N)).toArray⟩ : ByteArray).size = 8 * N := by
    show (bytesL (fun j => ml.getD j 0) (8 * N)).toArray.size = 8 * N
    rw [List.size_toArray, bytesL_length]
  obtain ⟨T, HT⟩ : ∃ T : ByteArray, Hid ((⟨(bytesL (fun j => ml.getD j 0) (8 * N)).toArray⟩ : ByteArray) = T) := ⟨_, rfl⟩
  have HB : Hid (∀ m, Calls Try.prog 32 #[.slice ao N cap, .int .i64 (IntKind.i64.wrap (8 * (N : Int)))] (w.drewN m) fun e w' => e = .returned (.tuple #[.string T, .int .i64 0]) ∧ Below (w.drewN m).heap.size (w.drewN m) w') := fun m => by
    have := hB.out m
    rw [HT.out] at this
    have e : ((8 * N : Nat) : Int) = IntKind.i64.wrap (8 * (N : Int)) := by rw [IntWalk.i64_in _ (by omega)]; omega
    rw [e] at this
    exact this
  rw [HT.out] at HZ hsz
  rw [← HZ.out]
  have HS : Hid (∀ z, Below w.heap.size w z → z.cell? ⟨p, 8, none⟩ = some (.int .i64 (n : Int))) := fun z hz => (h.below hz).c8
  have hnT : (n : Int) ≤ (T.size : Int) := by omega
  clear h hs hB hwf hn
  go_enter Try.func13, Try.ntmps13
  go_wp2_with fail
  go_region_held3 (fun W => W.cell? ⟨p, 7, none⟩ = some (.slice ao N cap)) (first | assumption | go_keep) (first | (go_at_call 32; refine (HB.out 1).mono ?_; rintro e y1 ⟨rfl, b1⟩; have q1 : y1.cell? ⟨p, 7, none⟩ = some (.slice ao N cap) := (b1.cell (p := ⟨p, 7, none⟩) (World.block_lt_of_cell? w _ c7)).trans c7))
  have B1 := (below_drewN (Below.refl w.heap.size w) 1).trans (b1.mono (by simp))
  have c8 := HS.out y1 B1
  clear q1 b1 HB HS
  go_wp2
  all_goals
    go_ret
    exact ⟨rfl, B1⟩
end
end Go.Proofs.Ytikpphbgjbfddaa
namespace Go.Proofs.Ytikpphbgjbfddaa
set_option maxRecDepth 20000
open Go.RowKit
section
variable {w : World} {S : Nat → Prop} {p t N st nx sn k : Nat} {l a : Value} {c : Ce}
set_option maxHeartbeats 1000000 in
theorem wb_busy (h : PwAt w p (pwV t 2 5 N st nx sn l a)) (hb : InBuf w S t k N c) (hc : c.ct < 4294967296) (hl : c.lk = true) :
    Calls Try.prog 41 #[.pointer (some ⟨p, 0, none⟩)] w fun e w' => e = .returned (.tuple #[.int .i64 3, .int .i64 0]) ∧ Below w.heap.size w w' := by
  have HL : Hid (∀ n, Calls Try.prog 16 #[.pointer (some ⟨t, 0, none⟩), .int .u64 2] (w.drewN n) fun e w' => e = .returned (.tuple #[.int .u64 (lwN c : Int), .int .i64 0]) ∧ Below (w.drewN n).heap.size (w.drewN n) w') := fun n => inb_lock (hb.below (below_drewN (Below.refl _ _) n))
  have HK : Hid (∀ y, Calls Try.prog 66 #[.int .u64 (lwN c : Int)] y fun e w' => e = .returned (.bool true) ∧ Below y.heap.size y w') := fun y => by
    have := locked_any (lwN c) y (lw_lt hc)
    rw [lw_writes hc, hl] at this
    exact this
  have c0 := h.c0
  have c1 : w.cell? ⟨p, 1, none⟩ = some (.int .u64 2) := h.c1
  have HS : Hid (∀ n z, Below (w.drewN n).heap.size (w.drewN n) z → z.cell? ⟨p, 0, none⟩ = some (.pointer (some ⟨t, 0, none⟩)) ∧ z.cell? ⟨p, 1, none⟩ = some (.int .u64 2)) := fun n z hz => ⟨((h.drewN n).below hz).c0, ((h.drewN n).below hz).c1⟩
  clear h hb hc hl
  generalize (lwN c : Int) = Q at *
  go_enter Try.func41, Try.ntmps41
  go_wp2_with fail
  go_region_held3 (fun W => W.cell? ⟨p, 0, none⟩ = some (.pointer (some ⟨t, 0, none⟩)) ∧ W.cell? ⟨p, 1, none⟩ = some (.int .u64 2)) (first | assumption | go_keep) (first | (go_at_call 16; refine (HL.out 1).mono ?_; rintro e y1 ⟨rfl, b1⟩; have q1 := HS.out 1 y1 b1))
  have B1 := (below_drewN (Below.refl w.heap.size w) 1).trans (b1.mono (by simp))
  clear q1 b1 HS HL
  go_wp2_with fail
  refine (HK.out _).mono ?_
  rintro e y2 ⟨rfl, b2⟩
  go_wp2
  go_ret2
  exact ⟨rfl, B1.trans (b2.mono B1.size)⟩
set_option maxHeartbeats 2000000 in
theorem wb_take {ad : Bool} (h : PwAt w p (pwV t 2 5 N st nx sn l (.bool ad))) (hb : InBuf w S t k N c) (hS : ¬ S p) (hk : k ≤ 100000) (hc : c.ct < 4294967296) (hl : c.lk = false) :
    Calls Try.prog 41 #[.pointer (some ⟨p, 0, none⟩)] w fun e w' => e = .returned (.tuple #[.int .i64 1, .int .i64 0]) ∧ PwAt w' p (pwV t 2 5 N (if ad = true then 1 else onN nx N) nx (c.ct + 9223372036854775808) l (.bool ad)) ∧ InBuf w' S t (k + 1) N { c with lk := true } ∧ Keeps (fun i => i = p ∨ S i) w w' := by
  obtain ⟨e1, e2, e3⟩ := lw_free hc hl
  have HL : Hid (∀ n, Calls Try.prog 16 #[.pointer (some ⟨t, 0, none⟩), .int .u64 2] (w.drewN n) fun e w' => e = .returned (.tuple #[.int .u64 (lwN c : Int), .int .i64 0]) ∧ Below (w.drewN n).heap.size (w.drewN n) w') := fun n => inb_lock (hb.below (below_drewN (Below.refl _ _) n))
  have HK : Hid (∀ y, Calls Try.prog 66 #[.int .u64 (lwN c : Int)] y fun e w' => e = .returned (.bool false) ∧ Below y.heap.size y w') := fun y => by
    have := locked_any (lwN c) y (lw_lt hc)
    rw [lw_writes hc, hl] at this
    exact this
  have HT : Hid (∀ y, Calls Try.prog 67 #[.int .u64 (lwN c : Int)] y fun e w' => e = .returned (.tuple #[.int .u64 ((c.ct + 9223372036854775808 : Nat) : Int), .int .i64 0]) ∧ Below y.heap.size y w') := fun y => by
    rw [e1]; exact lock_yes c.ct y (by omega) e2 e3
  have HC : Hid (∀ y, Below w.heap.size w y → Calls Try.prog 68 #[.pointer (some ⟨t, 0, none⟩), .int .u64 2, .int .u64 (lwN c : Int), .int .u64 ((c.ct + 9223372036854775808 : Nat) : Int)] y fun e w' => e = .returned (.tuple #[.bool true, .int .i64 0]) ∧ InBuf w' S t (k + 1) N { c with lk := true } ∧ Keeps S y w') := fun y hy => inb_cas (hb.below hy) hk _ (lw_taken (c := { c with lk := true }) rfl).symm rfl
  have c0 := h.c0
  have c1 : w.cell? ⟨p, 1, none⟩ = some (.int .u64 2) := h.c1
  have HS : Hid (∀ z, Below w.heap.size w z → z.cell? ⟨p, 0, none⟩ = some (.pointer (some ⟨t, 0, none⟩)) ∧ z.cell? ⟨p, 1, none⟩ = some (.int .u64 2)) := fun z hz => ⟨(h.below hz).c0, (h.below hz).c1⟩
  have HP := hide h
  have HNS := hide hS
  obtain ⟨Q, HQ⟩ : ∃ Q : Int, Hid ((lwN c : Int) = Q) := ⟨_, rfl⟩
  obtain ⟨R, HR⟩ : ∃ R : Nat, Hid (c.ct + 9223372036854775808 = R) := ⟨_, rfl⟩
  rw [HQ.out] at HL HK HT HC
  rw [HR.out] at HT HC
  rw [HR.out]
  clear h hb hc hl hS e1 e2 e3 hk
  go_enter Try.func41, Try.ntmps41
  go_wp2_with fail
  go_region_held3 (fun W => W.cell? ⟨p, 0, none⟩ = some (.pointer (some ⟨t, 0, none⟩)) ∧ W.cell? ⟨p, 1, none⟩ = some (.int .u64 2)) (first | assumption | go_keep) (first | (go_at_call 16; refine (HL.out 1).mono ?_; rintro e y1 ⟨rfl, b1⟩; have q1 := HS.out y1 ((below_drewN (Below.refl w.heap.size w) 1).trans (b1.mono (by simp)))))
  have B1 := (below_drewN (Below.refl w.heap.size w) 1).trans (b1.mono (by simp))
  clear q1 b1 HL c0 c1
  go_wp2_with fail
  refine (HK.out _).mono ?_
  rintro e y2 ⟨rfl, b2⟩
  go_wp2_with fail
  refine (HT.out _).mono ?_
  rintro e y3 ⟨rfl, b3⟩
  have B3 := B1.trans ((b2.trans (b3.mono b2.size)).mono B1.size)
  obtain ⟨c0, c1⟩ := HS.out y3 B3
  clear b2 b3 HK HT
  go_wp2_with fail
  go_region_held3 (fun W => W.cell? ⟨p, 0, none⟩ = some (.pointer (some ⟨t, 0, none⟩)) ∧ W.cell? ⟨p, 1, none⟩ = some (.int .u64 2)) (first | assumption | go_keep) (first | (go_at_call 68; refine (HC.out (y3.drewN 1) (B3.trans ((below_drewN (Below.refl y3.heap.size y3) 1).mono B3.size))).mono ?_; rintro e y4 ⟨rfl, hb4, k4⟩; have q4 : y4.cell? ⟨p, 0, none⟩ = some (.pointer (some ⟨t, 0, none⟩)) ∧ y4.cell? ⟨p, 1, none⟩ = some (.int .u64 2) := ⟨((HP.out.below (B3.trans ((below_drewN (Below.refl y3.heap.size y3) 1).mono B3.size))).keep k4 HNS.out).c0, ((HP.out.below (B3.trans ((below_drewN (Below.refl y3.heap.size y3) 1).mono B3.size))).keep k4 HNS.out).c1⟩))
  have BD := B3.trans ((below_drewN (Below.refl y3.heap.size y3) 1).mono B3.size)
  have K4 := (Below.keeps (S := S) BD).trans k4 (fun _ _ t => t)
  have P4 := (HP.out.below BD).keep k4 HNS.out
  have HB4 := hide hb4
  have f6 := P4.fs 6 (by omega)
  have c6 := P4.c6
  have HO := hide (onward_any (P4.setSn R))
  have HKK := hide ((K4.wider (T := fun i => i = p ∨ S i) (fun _ _ t => .inr t)).setCell ⟨p, 6, none⟩ (fun _ => .inl rfl) (.int .u64 (R : Int)))
  have HB5 := hide (HB4.out.keep (one_keeps y4 ⟨p, 6, none⟩ (.int .u64 (R : Int))) (fun i hi e => HNS.out (by cases e; exact hi)))
  clear q4 hb4 k4 BD K4 P4 HB4 B3 B1 c0 c1 HS HC
  go_wp2_with fail
  refine HO.out.mono ?_
  rintro e y5 ⟨rfl, P5, k5⟩
  have HB6 := hide (HB5.out.keep k5 (fun i hi e => HNS.out (by cases e; exact hi)))
  have HK6 := hide (HKK.out.trans k5 (fun _ _ t => .inl t))
  have c8 := P5.c8
  have f4 := P5.fs 4 (by omega)
  have HP5 := hide P5
  have c4 := P5.c4
  clear HO HKK HB5 P5 k5 c6 f6
  cases ad with
  | true =>
    go_wp2
    go_ret2
    exact ⟨rfl, HP5.out.setSt 1, HB6.out.keep (one_keeps _ ⟨p, 4, none⟩ _) (fun i hi e => HNS.out (by cases e; exact hi)), HK6.out.setCell ⟨p, 4, none⟩ (fun _ => .inl rfl) _⟩
  | false =>
    go_wp2
    go_ret2
    exact ⟨rfl, HP5.out, HB6.out, HK6.out⟩
end
end Go.Proofs.Ytikpphbgjbfddaa
namespace Go.Proofs.Ytikpphbgjbfddaa
set_option maxRecDepth 20000
open Go.RowKit
section
variable {w : World} {S : Nat → Prop} {p g t N st sn k cap j : Nat} {a : Value} {c : Ce} {ml : List Nat}
set_option maxHeartbeats 2000000 in
theorem wa_any (h : PwAt w p (pwV t 2 5 N st j sn (.slice (some ⟨g, 0, none⟩) N cap) a)) (hb : InBuf w S t k N c) (hj : j < N) (ho : w.ownsRow 0 43 1 (.slice (some ⟨g, 0, none⟩) N cap) N (uintsN ml)) (hml : ml.length = N) (hgp : g ≠ p) :
    Calls Try.prog 42 #[.pointer (some ⟨p, 0, none⟩)] w fun e w' => e = .returned (.tuple #[.int .i64 1, .int .i64 0]) ∧ PwAt w' p (pwV t 2 5 N (onN j N) j sn (.slice (some ⟨g, 0, none⟩) N cap) a) ∧ w'.ownsRow 0 43 1 (.slice (some ⟨g, 0, none⟩) N cap) N (uintsN (ml.set j (sumW (ml.getD j 0) (c.l.getD j 0)))) ∧ Keeps (fun i => i = p ∨ i = g) w w' := by
  have hN := hb.few
  have HL : Hid (∀ z, Below w.heap.size w z → Calls Try.prog 16 #[.pointer (some ⟨t, 0, none⟩), .int .u64 ((5 + j : Nat) : Int)] z fun e w' => e = .returned (.tuple #[.int .u64 (c.l.getD j 0 : Int), .int .i64 0]) ∧ Below z.heap.size z w') := fun z hz => inb_load (hb.below hz) j hj
  have HW : Hid (∀ n, Calls Try.prog 70 #[.pointer (some ⟨p, 0, none⟩)] (w.drewN n) fun e w' => e = .returned (.int .u64 ((5 + j : Nat) : Int)) ∧ ∃ m, w' = (w.drewN n).drewN m) := fun n => word_any' (h.drewN n) (by omega)
  have c0 := h.c0
  have HS : Hid (∀ z, Below w.heap.size w z → z.cell? ⟨p, 0, none⟩ = some (.pointer (some ⟨t, 0, none⟩))) := fun z hz => (h.below hz).c0
  have HP := hide h
  have HO := hide ho
  obtain ⟨y, HY⟩ : ∃ y, Hid (sumW (ml.getD j 0) (c.l.getD j 0) = y) := ⟨_, rfl⟩
  obtain ⟨x, HX⟩ : ∃ x, Hid (ml.getD j 0 = x) := ⟨_, rfl⟩
  obtain ⟨z0, HZ⟩ : ∃ z0, Hid (c.l.getD j 0 = z0) := ⟨_, rfl⟩
  have HSM : IntKind.u64.wrap ((x : Int) + (z0 : Int)) = (y : Int) := by rw [IntKind.wrap_u64, ← HY.out, HX.out, HZ.out, sumW]; omega
  have HCE : Hid (∀ z, Below w.heap.size w z → z.cell? ⟨g, j, none⟩ = some (.int .u64 (x : Int)) ∧ z.frozen? ⟨g, j, none⟩ = false) := fun z hz => by
    have ho' := own_keep ho (Below.keeps (S := fun _ => False) hz) (fun _ _ => id)
    have := own_cellsU ho' hml j hj
    refine ⟨?_, ho'.frozenAt j⟩
    rw [this, ← HX.out, List.getD_eq_getElem?_getD]
  obtain ⟨s, HSS⟩ : ∃ s : Int, Hid (((5 + j : Nat) : Int) = s) := ⟨_, rfl⟩
  rw [HY.out]
  rw [HZ.out, HSS.out] at HL
  rw [HSS.out] at HW
  have HD := hide hj
  have HGP := hide hgp
  have HML := hide hml
  clear h hb ho hml hgp
  have hjN : (j : Int) < (N : Int) := by omega
  have hcap : N ≤ 16 := hN
  go_enter Try.func42, Try.ntmps42
  go_wp2_with fail
  go_region_held3 (fun W => W.cell? ⟨p, 0, none⟩ = some (.pointer (some ⟨t, 0, none⟩))) (first | assumption | go_keep) (first | (go_at_call 70; refine (HW.out 1).mono ?_; rintro e y1 ⟨rfl, m1, rfl⟩; have q1 := HS.out ((w.drewN 1).drewN m1) (below_drewN (below_drewN (Below.refl w.heap.size w) 1) m1)) | (go_at_call 16; refine (HL.out (w.drewN (1 + m1)) (below_drewN (Below.refl w.heap.size w) (1 + m1))).mono ?_; rintro e y2 ⟨rfl, b2⟩; have q2 := HS.out y2 ((below_drewN (Below.refl w.heap.size w) (1 + m1)).trans (b2.mono (by simp)))))
  have B2 := (below_drewN (Below.refl w.heap.size w) (1 + m1)).trans (b2.mono (by simp))
  have P2 := HP.out.below B2
  obtain ⟨ce, cf⟩ := HCE.out y2 B2
  have c7 := P2.c7
  have c5 := P2.c5
  have O2 := own_keep HO.out (Below.keeps (S := fun _ => False) B2) (fun _ _ => id)
  have HP2 := hide P2
  have HO2 := hide O2
  have HB2 := hide B2
  clear q1 q2 b2 B2 P2 O2 HL HW HS HCE c0
  go_wp2_with fail
  go_region
  have HK3 := hide (((Below.keeps (S := fun i => i = p ∨ i = g) HB2.out).setCell ⟨g, j, none⟩ (fun _ => .inr rfl) (.int .u64 (y : Int))).drewN 1)
  have HP3 := hide ((HP2.out.keep (one_keeps y2 ⟨g, j, none⟩ (.int .u64 (y : Int))) (fun e => HGP.out e.symm)).drewN 1)
  have HO3 : Hid (((y2.setCell ⟨g, j, none⟩ (.int .u64 (y : Int))).drewN 1).ownsRow 0 43 1 (.slice (some ⟨g, 0, none⟩) N cap) N (uintsN (ml.set j y))) := by
    have := own_set HO2.out rfl j (.int .u64 (y : Int))
    rw [uintsN_set] at this
    exact own_keep this (Below.keeps (S := fun _ => False) (below_drewN (Below.refl _ _) 1)) (fun _ _ => id)
  have HON := hide (onward_any HP3.out)
  clear ce cf c7 c5
  go_wp2_with fail
  refine HON.out.mono ?_
  rintro e y5 ⟨rfl, P5, k5⟩
  have O5 := own_keep HO3.out k5 (fun q hq e => HGP.out (by cases hq; exact e))
  have K5 := HK3.out.trans k5 (fun _ _ t => .inl t)
  go_wp2
  go_ret2
  exact ⟨rfl, P5, O5, K5⟩
set_option maxHeartbeats 2000000 in
theorem ww_any (h : PwAt w p (pwV t 2 5 N st j sn (.slice (some ⟨g, 0, none⟩) N cap) a)) (hb : InBuf w S t k N c) (hj : j < N) (ho : w.ownsRow 0 43 1 (.slice (some ⟨g, 0, none⟩) N cap) N (uintsN ml)) (hml : ml.length = N) (hcl : c.l.length = N) (hS : ¬ S p) (hSg : ¬ S g) :
    Calls Try.prog 43 #[.pointer (some ⟨p, 0, none⟩)] w fun e w' => e = .returned (.tuple #[.int .i64 1, .int .i64 0]) ∧ PwAt w' p (pwV t 2 5 N (onN (j + 1) N) (j + 1) sn (.slice (some ⟨g, 0, none⟩) N cap) a) ∧ InBuf w' S t (k + 1) N { c with l := c.l.set j (ml.getD j 0) } ∧ Keeps (fun i => i = p ∨ S i) w w' := by
  have hN := hb.few
  obtain ⟨x, HX⟩ : ∃ x, Hid (ml.getD j 0 = x) := ⟨_, rfl⟩
  rw [HX.out]
  have HL : Hid (∀ z, Below w.heap.size w z → Calls Try.prog 71 #[.pointer (some ⟨t, 0, none⟩), .int .u64 ((5 + j : Nat) : Int), .int .u64 (x : Int)] z fun e w' => e = .returned (.int .i64 0) ∧ InBuf w' S t (k + 1) N { c with l := c.l.set j x } ∧ Keeps S z w') := fun z hz => inb_store (hb.below hz) (5 + j) (by omega) _ (by rw [if_neg (by omega)]; rfl) (fun i hi => by
    show _ = ((c.l.set j x).getD i 0 : Int)
    simp only [List.getD_eq_getElem?_getD, List.getElem?_set]
    by_cases e : i = j
    · subst e; rw [if_pos rfl, if_pos rfl, if_pos (by omega)]; rfl
    · rw [if_neg (by omega), if_neg (fun q => e q.symm)])
  have HW : Hid (∀ n, Calls Try.prog 70 #[.pointer (some ⟨p, 0, none⟩)] (w.drewN n) fun e w' => e = .returned (.int .u64 ((5 + j : Nat) : Int)) ∧ ∃ m, w' = (w.drewN n).drewN m) := fun n => word_any' (h.drewN n) (by omega)
  have HS : Hid (∀ z, Below w.heap.size w z → z.cell? ⟨p, 0, none⟩ = some (.pointer (some ⟨t, 0, none⟩)) ∧ z.cell? ⟨p, 7, none⟩ = some (.slice (some ⟨g, 0, none⟩) N cap) ∧ z.cell? ⟨p, 5, none⟩ = some (.int .i64 (j : Int)) ∧ z.cell? ⟨g, j, none⟩ = some (.int .u64 (x : Int))) := fun z hz => by
    have ho' := own_keep ho (Below.keeps (S := fun _ => False) hz) (fun _ _ => id)
    have := own_cellsU ho' hml j hj
    refine ⟨(h.below hz).c0, (h.below hz).c7, (h.below hz).c5, ?_⟩
    rw [this, ← HX.out, List.getD_eq_getElem?_getD]
  obtain ⟨c0, c7, c5, cg⟩ := HS.out w (Below.refl _ _)
  have HP := hide h
  obtain ⟨s, HSS⟩ : ∃ s : Int, Hid (((5 + j : Nat) : Int) = s) := ⟨_, rfl⟩
  rw [HSS.out] at HW HL
  have HNS := hide hS
  have HQ : Hid (∀ z, Keeps S w z → z.cell? ⟨p, 0, none⟩ = some (.pointer (some ⟨t, 0, none⟩)) ∧ z.cell? ⟨p, 7, none⟩ = some (.slice (some ⟨g, 0, none⟩) N cap) ∧ z.cell? ⟨p, 5, none⟩ = some (.int .i64 (j : Int)) ∧ z.cell? ⟨g, j, none⟩ = some (.int .u64 (x : Int))) := fun z hz => ⟨(HP.out.keep hz hS).c0, (HP.out.keep hz hS).c7, (HP.out.keep hz hS).c5, by rw [hz.cell (World.block_lt_of_cell? _ _ cg) hSg]; exact cg⟩
  clear hSg
  have hjN : (j : Int) < (N : Int) := by omega
  clear h hb ho hml hS hcl
  go_enter Try.func43, Try.ntmps43
  go_wp2_with fail
  go_region_held3 (fun W => W.cell? ⟨p, 0, none⟩ = some (.pointer (some ⟨t, 0, none⟩)) ∧ W.cell? ⟨p, 7, none⟩ = some (.slice (some ⟨g, 0, none⟩) N cap) ∧ W.cell? ⟨p, 5, none⟩ = some (.int .i64 (j : Int)) ∧ W.cell? ⟨g, j, none⟩ = some (.int .u64 (x : Int))) (first | assumption | go_keep) (first | (go_at_call 70; refine (HW.out 1).mono ?_; rintro e y1 ⟨rfl, m1, rfl⟩; have q1 := HS.out ((w.drewN 1).drewN m1) (below_drewN (below_drewN (Below.refl w.heap.size w) 1) m1)) | (go_at_call 71; refine (HL.out (w.drewN (1 + m1)) (below_drewN (Below.refl w.heap.size w) (1 + m1))).mono ?_; rintro e y2 ⟨rfl, hb2, k2⟩; have q2 := HQ.out y2 ((Below.keeps (S := S) (below_drewN (Below.refl w.heap.size w) (1 + m1))).trans k2 (fun _ _ t => t))))
  have K2 := (Below.keeps (S := S) (below_drewN (Below.refl w.heap.size w) (1 + m1))).trans k2 (fun _ _ t => t)
  have P2 := HP.out.keep K2 HNS.out
  have HB2 := hide hb2
  have f5 := P2.fs 5 (by omega)
  have c5' := P2.c5
  have hjj : IntKind.i64.wrap ((j : Int) + 1) = ((j + 1 : Nat) : Int) := by have := IntWalk.i64_in ((j : Int) + 1) (by omega); omega
  have hjw : wrap64 ((j : Int) + 1) = ((j + 1 : Nat) : Int) := by have := IntWalk.wrap64_in ((j : Int) + 1) (by omega); omega
  have hj1 : (j : Int) + 1 = ((j + 1 : Nat) : Int) := by omega
  have HON := hide (onward_any (P2.setNx (j + 1)))
  have HB3 := hide (HB2.out.keep (one_keeps y2 ⟨p, 5, none⟩ (.int .i64 ((j + 1 : Nat) : Int))) (fun i hi e => HNS.out (by cases e; exact hi)))
  have HK3 := hide ((K2.wider (T := fun i => i = p ∨ S i) (fun _ _ t => .inr t)).setCell ⟨p, 5, none⟩ (fun _ => .inl rfl) (.int .i64 ((j + 1 : Nat) : Int)))
  rw [← hj1] at HON HB3 HK3
  clear q1 q2 hb2 k2 K2 P2 HL HW HS HQ c0 c7 c5 cg hjj hjw hj1
  go_wp2_with fail
  refine HON.out.mono ?_
  rintro e y5 ⟨rfl, P5, k5⟩
  have B5 := HB3.out.keep k5 (fun i hi e => HNS.out (by cases e; exact hi))
  have K5 := HK3.out.trans k5 (fun _ _ t => .inl t)
  go_wp2
  go_ret2
  exact ⟨rfl, P5, B5, K5⟩
end
end Go.Proofs.Ytikpphbgjbfddaa
