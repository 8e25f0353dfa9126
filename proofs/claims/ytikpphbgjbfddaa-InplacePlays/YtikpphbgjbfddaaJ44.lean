/- Parts of the proof: Ba. -/
import Derived.Test.YtikpphbgjbfddaaJ32
import Derived.Test.YtikpphbgjbfddaaJ43
import Derived.Deep.RegionHeld3
import Derived.Deep.RegionLaw
namespace Go.Proofs.Ytikpphbgjbfddaa
set_option maxRecDepth 20000
open Go.RowKit
/-- The cells: the buffer, the lock's and the value's addresses, words, state, next, seen, the row of words, whether it adds (or a length). -/
def pwV (t L V N st nx sn : Nat) (l a : Value) : Nat → Value
  | 0 => .pointer (some ⟨t, 0, none⟩)
  | 1 => .int .u64 (L : Int)
  | 2 => .int .u64 (V : Int)
  | 3 => .int .i64 (N : Int)
  | 4 => .int .i64 (st : Int)
  | 5 => .int .i64 (nx : Int)
  | 6 => .int .u64 (sn : Int)
  | 7 => l
  | _ => a
structure PwAt (w : World) (p : Nat) (f : Nat → Value) : Prop where
  cs : ∀ i, i < 9 → w.cell? ⟨p, i, none⟩ = some (f i)
  fs : ∀ i, i < 9 → w.frozen? ⟨p, i, none⟩ = false
section
variable {w w' : World} {p : Nat} {f f' : Nat → Value} {S : Nat → Prop}
theorem PwAt.lt (h : PwAt w p f) : p < w.heap.size := World.block_lt_of_cell? w _ (h.cs 0 (by omega))
theorem PwAt.keep (h : PwAt w p f) (hk : Keeps S w w') (hp : ¬ S p) : PwAt w' p f :=
  ⟨fun i hi => by rw [hk.cell h.lt hp]; exact h.cs i hi, fun i hi => by rw [hk.frozen h.lt hp]; exact h.fs i hi⟩
theorem PwAt.below (h : PwAt w p f) (hb : Below w.heap.size w w') : PwAt w' p f := h.keep (Below.keeps (S := fun _ => False) hb) id
theorem PwAt.drewN (h : PwAt w p f) (n : Nat) : PwAt (w.drewN n) p f := h.below (below_drewN (Below.refl _ _) n)
theorem PwAt.set (h : PwAt w p f) (i : Nat) (hi : i < 9) (u : Value) (he : ∀ j, j < 9 → f' j = if j = i then u else f j) : PwAt (w.setCell ⟨p, i, none⟩ u) p f' := by
  refine ⟨fun j hj => ?_, fun j hj => by rw [World.frozen?_setCell]; exact h.fs j hj⟩
  rw [he j hj]
  by_cases e : j = i
  · subst e; rw [if_pos rfl]; exact World.cell?_setCell_same _ _ _ (h.cs j hj)
  · rw [if_neg e, World.cell?_setCell_other _ _ _ _ (fun q => e (by cases q; rfl))]; exact h.cs j hj
end
section
variable {w w' : World} {p t L V N st nx sn : Nat} {l a : Value} {S : Nat → Prop}
theorem PwAt.setSt (h : PwAt w p (pwV t L V N st nx sn l a)) (n : Nat) : PwAt (w.setCell ⟨p, 4, none⟩ (.int .i64 (n : Int))) p (pwV t L V N n nx sn l a) :=
  h.set 4 (by omega) _ (fun j hj => by match j, hj with | 0, _ => rfl | 1, _ => rfl | 2, _ => rfl | 3, _ => rfl | 4, _ => rfl | 5, _ => rfl | 6, _ => rfl | 7, _ => rfl | 8, _ => rfl)
theorem PwAt.setNx (h : PwAt w p (pwV t L V N st nx sn l a)) (n : Nat) : PwAt (w.setCell ⟨p, 5, none⟩ (.int .i64 (n : Int))) p (pwV t L V N st n sn l a) :=
  h.set 5 (by omega) _ (fun j hj => by match j, hj with | 0, _ => rfl | 1, _ => rfl | 2, _ => rfl | 3, _ => rfl | 4, _ => rfl | 5, _ => rfl | 6, _ => rfl | 7, _ => rfl | 8, _ => rfl)
theorem PwAt.setSn (h : PwAt w p (pwV t L V N st nx sn l a)) (n : Nat) : PwAt (w.setCell ⟨p, 6, none⟩ (.int .u64 (n : Int))) p (pwV t L V N st nx n l a) :=
  h.set 6 (by omega) _ (fun j hj => by match j, hj with | 0, _ => rfl | 1, _ => rfl | 2, _ => rfl | 3, _ => rfl | 4, _ => rfl | 5, _ => rfl | 6, _ => rfl | 7, _ => rfl | 8, _ => rfl)
theorem PwAt.setAd (h : PwAt w p (pwV t L V N st nx sn l a)) (u : Value) : PwAt (w.setCell ⟨p, 8, none⟩ u) p (pwV t L V N st nx sn l u) :=
  h.set 8 (by omega) _ (fun j hj => by match j, hj with | 0, _ => rfl | 1, _ => rfl | 2, _ => rfl | 3, _ => rfl | 4, _ => rfl | 5, _ => rfl | 6, _ => rfl | 7, _ => rfl | 8, _ => rfl)
theorem PwAt.c0 (h : PwAt w p (pwV t L V N st nx sn l a)) : w.cell? ⟨p, 0, none⟩ = some (.pointer (some ⟨t, 0, none⟩)) := h.cs 0 (by omega)
theorem PwAt.c1 (h : PwAt w p (pwV t L V N st nx sn l a)) : w.cell? ⟨p, 1, none⟩ = some (.int .u64 (L : Int)) := h.cs 1 (by omega)
theorem PwAt.c2 (h : PwAt w p (pwV t L V N st nx sn l a)) : w.cell? ⟨p, 2, none⟩ = some (.int .u64 (V : Int)) := h.cs 2 (by omega)
theorem PwAt.c3 (h : PwAt w p (pwV t L V N st nx sn l a)) : w.cell? ⟨p, 3, none⟩ = some (.int .i64 (N : Int)) := h.cs 3 (by omega)
theorem PwAt.c4 (h : PwAt w p (pwV t L V N st nx sn l a)) : w.cell? ⟨p, 4, none⟩ = some (.int .i64 (st : Int)) := h.cs 4 (by omega)
theorem PwAt.c5 (h : PwAt w p (pwV t L V N st nx sn l a)) : w.cell? ⟨p, 5, none⟩ = some (.int .i64 (nx : Int)) := h.cs 5 (by omega)
theorem PwAt.c6 (h : PwAt w p (pwV t L V N st nx sn l a)) : w.cell? ⟨p, 6, none⟩ = some (.int .u64 (sn : Int)) := h.cs 6 (by omega)
theorem PwAt.c7 (h : PwAt w p (pwV t L V N st nx sn l a)) : w.cell? ⟨p, 7, none⟩ = some l := h.cs 7 (by omega)
theorem PwAt.c8 (h : PwAt w p (pwV t L V N st nx sn l a)) : w.cell? ⟨p, 8, none⟩ = some a := h.cs 8 (by omega)
set_option maxHeartbeats 400000 in
/-- The address of the next word. -/
theorem word_any' (h : PwAt w p (pwV t L V N st nx sn l a)) (hV : V + nx ≤ 9223372036854775807) :
    Calls Try.prog 70 #[.pointer (some ⟨p, 0, none⟩)] w fun e w' => e = .returned (.int .u64 ((V + nx : Nat) : Int)) ∧ ∃ m, w' = w.drewN m := by
  have c2 := h.c2
  have c5 := h.c5
  have e1 : IntKind.u64.wrap (nx : Int) = (nx : Int) := IntWalk.u64_in _ (by omega)
  have e2 : (V : Int) + (nx : Int) = ((V + nx : Nat) : Int) := by omega
  have e3 : IntKind.u64.wrap ((V + nx : Nat) : Int) = ((V + nx : Nat) : Int) := IntWalk.u64_in _ (by omega)
  clear h hV
  generalize V + nx = s at *
  go_enter Try.func70, Try.ntmps70
  go_wp2_with fail
  go_quiet (fail)
  go_wp2
  go_ret
  exact ⟨rfl, _, rfl⟩
/-- What comes next: a word, or the end. -/
def onN (nx N : Nat) : Nat := if nx < N then 2 else 3
set_option maxHeartbeats 400000 in
/-- Onward. -/
theorem onward_any (h : PwAt w p (pwV t L V N st nx sn l a)) :
    Calls Try.prog 69 #[.pointer (some ⟨p, 0, none⟩)] w fun e w' => e = .returned (.tuple #[]) ∧ PwAt w' p (pwV t L V N (onN nx N) nx sn l a) ∧ Keeps (fun i => i = p) w w' := by
  have H3 := h.setSt 3
  have K3 : Keeps (fun i => i = p) w (w.setCell ⟨p, 4, none⟩ (.int .i64 ((3 : Nat) : Int))) := one_keeps w ⟨p, 4, none⟩ _
  have c3 := h.c3
  have c4 := h.c4
  have c5 := h.c5
  have f4 := h.fs 4 (by omega)
  have d3 := H3.c3
  have d5 := H3.c5
  have d4 := H3.c4
  rw [show ((3 : Nat) : Int) = 3 from rfl] at d3 d4 d5 H3 K3
  have HH := hide H3
  have HK := hide K3
  clear h H3 K3
  by_cases hlt : nx < N
  · rw [show onN nx N = 2 from if_pos hlt]
    have q : (nx : Int) < (N : Int) := by omega
    have HF : Hid (∀ n, PwAt ((((w.setCell ⟨p, 4, none⟩ (.int .i64 3))).drewN n).setCell ⟨p, 4, none⟩ (.int .i64 2)) p (pwV t L V N 2 nx sn l a) ∧ Keeps (fun i => i = p) w ((((w.setCell ⟨p, 4, none⟩ (.int .i64 3))).drewN n).setCell ⟨p, 4, none⟩ (.int .i64 2))) := fun n => ⟨(HH.out.drewN n).setSt 2, (HK.out.drewN n).setCell ⟨p, 4, none⟩ (fun _ => rfl) _⟩
    clear hlt
    go_enter Try.func69, Try.ntmps69
    go_wp2_with fail
    go_quiet (fail)
    go_wp2
    go_end0
    exact ⟨rfl, HF.out _⟩
  · rw [show onN nx N = 3 from if_neg hlt]
    have q : ¬ (nx : Int) < (N : Int) := by omega
    clear hlt
    go_enter Try.func69, Try.ntmps69
    go_wp2_with fail
    go_quiet (fail)
    go_wp2
    go_end0
    exact ⟨rfl, HH.out.drewN _, HK.out.drewN _⟩
end
section
variable {w w' : World} {S : Nat → Prop} {t k N : Nat} {c : Ce}
/-- The lock's word. -/
def lwN (c : Ce) : Nat := (if c.lk = true then 9223372036854775808 else 0) + c.ct
theorem lw_free {c : Ce} (hc : c.ct < 4294967296) (hl : c.lk = false) : lwN c = c.ct ∧ isLockB c.ct = true ∧ writesB c.ct = false := by
  refine ⟨by unfold lwN; rw [hl]; simp, ?_, ?_⟩
  · unfold isLockB; rw [decide_eq_true_eq]; omega
  · unfold writesB; rw [decide_eq_false_iff_not]; omega
theorem lw_held {n : Nat} (hc : n < 4294967296) : isLockB (n + 9223372036854775808) = true ∧ writesB (n + 9223372036854775808) = true ∧ (n + 9223372036854775808) % 4294967296 = n := by
  refine ⟨?_, ?_, by omega⟩
  · unfold isLockB; rw [decide_eq_true_eq]; omega
  · unfold writesB; rw [decide_eq_true_eq]; omega
theorem lw_taken {c : Ce} (hl : c.lk = true) : lwN c = c.ct + 9223372036854775808 := by unfold lwN; rw [if_pos hl]; omega
theorem lw_lt {c : Ce} (hc : c.ct < 4294967296) : lwN c < 18446744073709551616 := by unfold lwN; split <;> omega
theorem lw_writes {c : Ce} (hc : c.ct < 4294967296) : writesB (lwN c) = c.lk := by
  unfold writesB lwN
  cases c.lk with
  | true => rw [decide_eq_true_eq, if_pos rfl]; omega
  | false => rw [decide_eq_false_iff_not, if_neg (by decide)]; omega
theorem InBuf.below (h : InBuf w S t k N c) (hb : Below w.heap.size w w') : InBuf w' S t k N c := h.keep (Below.keeps (S := fun _ => False) hb) (fun _ _ => id)
theorem InBuf.up (h : InBuf w S t k N c) {k' : Nat} (hk : k ≤ k') : InBuf w S t k' N c := by
  obtain ⟨⟨F, V, h1, h2⟩, h3⟩ := h
  exact ⟨⟨F, V, h1.more hk, h2⟩, h3⟩
/-- A word of page 0 is written: what is told behind it. -/
theorem inb_upd {F : Nat → Option Pg} {V : Nat → Int} {a : Nat} (ha : a < 64) (y : Int) : updF F (pageN 6 a % 2) (some (pageN 6 a, updV V (offN 6 a) y)) 0 = some (0, updV V a y) := by
  obtain ⟨p1, p2⟩ := page6 a ha
  rw [p1, p2]; rfl
theorem inb_store (h : InBuf w S t k N c) (a : Nat) (ha : a < 64) (y : Int) {c' : Ce} (hl : (if 2 = a then y else (lwN c : Int)) = (lwN c' : Int)) (hv : ∀ j, j < N → (if 5 + j = a then y else (c.l.getD j 0 : Int)) = (c'.l.getD j 0 : Int)) :
    Calls Try.prog 71 #[.pointer (some ⟨t, 0, none⟩), .int .u64 (a : Int), .int .u64 y] w fun e w' => e = .returned (.int .i64 0) ∧ InBuf w' S t (k + 1) N c' ∧ Keeps S w w' := by
  obtain ⟨⟨F, V, ⟨fb, g, o, hp⟩, hF, h2, hV⟩, hf⟩ := h
  obtain ⟨p1, p2⟩ := page6 a ha
  refine (pb_store_yes hp a (by omega) V (by rw [p1]; exact hF) y).mono ?_
  rintro e w' ⟨rfl, hp', hk⟩
  refine ⟨rfl, ⟨⟨_, updV V a y, ⟨fb, g, o, hp'⟩, inb_upd ha y, ?_, fun j hj => ?_⟩, hf⟩, hk⟩
  · rw [show ((((if c'.lk = true then 9223372036854775808 else 0) + c'.ct : Nat) : Int)) = (lwN c' : Int) from rfl, ← hl]
    unfold updV; rw [h2]; rfl
  · rw [← hv j hj]
    unfold updV; rw [hV j hj]
theorem inb_cas (h : InBuf w S t k N c) (hk : k ≤ 100000) (y : Nat) {c' : Ce} (hl : y = lwN c') (hv : c'.l = c.l) :
    Calls Try.prog 68 #[.pointer (some ⟨t, 0, none⟩), .int .u64 2, .int .u64 (lwN c : Int), .int .u64 (y : Int)] w fun e w' => e = .returned (.tuple #[.bool true, .int .i64 0]) ∧ InBuf w' S t (k + 1) N c' ∧ Keeps S w w' := by
  obtain ⟨⟨F, V, ⟨fb, g, o, hp⟩, hF, h2, hV⟩, hf⟩ := h
  obtain ⟨p1, p2⟩ := page6 2 (by omega)
  refine (pb_cas_hit hp (by omega) 2 (by omega) V (by rw [p1]; exact hF) (lwN c : Int) (y : Int) (by rw [p2]; exact h2)).mono ?_
  rintro e w' ⟨rfl, hp', hk⟩
  refine ⟨rfl, ⟨⟨_, updV V 2 (y : Int), ⟨fb, g, o, hp'⟩, inb_upd (by omega) _, ?_, fun j hj => ?_⟩, hf⟩, hk⟩
  · rw [show ((((if c'.lk = true then 9223372036854775808 else 0) + c'.ct : Nat) : Int)) = (lwN c' : Int) from rfl, ← hl]
    unfold updV; rfl
  · rw [hv, ← hV j hj]
    unfold updV; rw [if_neg (by omega)]
end
end Go.Proofs.Ytikpphbgjbfddaa
