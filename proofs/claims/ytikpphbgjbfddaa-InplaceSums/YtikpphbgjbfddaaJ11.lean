/- Parts of the proof: Jc. -/
import Derived.Test.YtikpphbgjbfddaaJ10
namespace Go.Proofs.Ytikpphbgjbfddaa
set_option maxRecDepth 20000
open Go.RowKit
section
variable {w : World} {B m p : Nat} {v vl vg : Value}
/-- What a move leaves. -/
def RmIs (w w' : World) (B m : Nat) (v : Value) (c : Ce) (p : Nat) (vl vg : Value) (x : Wk) : Prop :=
  ∃ vl' vg', RcW w' B m v c p vl' vg' x ∧ Keeps (RcO m v p vg) w w' ∧ (∀ g, vl'.ownBlock = some g → vl.ownBlock = some g ∨ w.heap.size ≤ g) ∧ ∀ g, vg'.ownBlock = some g → vg.ownBlock = some g ∨ w.heap.size ≤ g
theorem rm_same {c : Ce} {x : Wk} (h : RcW w B m v c p vl vg x) : RmIs w w B m v c p vl vg x := ⟨vl, vg, h, Keeps.refl _ _, fun _ => .inl, fun _ => .inl⟩
theorem rm_in {w' : World} {c : Ce} {x : Wk} (h : RcW w' B m v c p vl vg x) (hk : Keeps (RcO m v p vg) w w') : RmIs w w' B m v c p vl vg x := ⟨vl, vg, h, hk, fun _ => .inl, fun _ => .inl⟩
theorem RmIs.drewN {w' : World} {c : Ce} {x : Wk} (h : RmIs w w' B m v c p vl vg x) (k : Nat) : RmIs w (w'.drewN k) B m v c p vl vg x := by
  obtain ⟨vl', vg', h1, h2, h3, h4⟩ := h
  exact ⟨vl', vg', h1.below (below_drewN (Below.refl _ _) k), h2.drewN k, h3, h4⟩
set_option maxHeartbeats 1000000 in
theorem rw_done {c : Ce} {x : Wk} (h : RcW w B m v c p vl vg x) (hd : x.dn = true) :
    Calls Try.prog 9 #[.pointer (some ⟨p, 0, none⟩), .pointer (some ⟨m, 0, none⟩)] w fun e w' => e = .returned (.int .i64 2) ∧ RmIs w w' B m v c p vl vg x := by
  have H := hide (rm_same h)
  have c5 : w.cell? ⟨p, 5, none⟩ = some (.bool x.dn) := h.r.cs 5 (by omega)
  rw [hd] at c5
  clear h hd
  go_enter Try.func9, Try.ntmps9
  go_wp2
  go_ret
  exact ⟨rfl, H.out⟩
set_option maxHeartbeats 1000000 in
theorem rw_busy {c : Ce} {x : Wk} (h : RcW w B m v c p vl vg x) (hd : x.dn = false) (hr : x.rd = false) (h0 : x.mv = 0) (hl : c.lk = true) :
    Calls Try.prog 9 #[.pointer (some ⟨p, 0, none⟩), .pointer (some ⟨m, 0, none⟩)] w fun e w' => e = .returned (.int .i64 3) ∧ RmIs w w' B m v c p vl vg x := by
  have H := hide (rm_same h)
  have c5 : w.cell? ⟨p, 5, none⟩ = some (.bool x.dn) := h.r.cs 5 (by omega)
  have c0 : w.cell? ⟨p, 0, none⟩ = some (.bool x.rd) := h.r.cs 0 (by omega)
  have c4 : w.cell? ⟨p, 4, none⟩ = some (.int .i64 (x.mv : Int)) := h.r.cs 4 (by omega)
  have d0 := h.q.c0
  rw [hd] at c5
  rw [hr] at c0
  rw [h0] at c4
  rw [hl] at d0
  clear h hd hr h0 hl
  go_enter Try.func9, Try.ntmps9
  go_wp2
  go_ret
  exact ⟨rfl, H.out⟩
set_option maxHeartbeats 1000000 in
theorem rw_take {c : Ce} {x : Wk} (h : RcW w B m v c p vl vg x) (hd : x.dn = false) (hr : x.rd = false) (h0 : x.mv = 0) (hl : c.lk = false) :
    Calls Try.prog 9 #[.pointer (some ⟨p, 0, none⟩), .pointer (some ⟨m, 0, none⟩)] w fun e w' => e = .returned (.int .i64 1) ∧ RmIs w w' B m v { c with lk := true } p vl vg { x with mv := 1, tk := c.ct } := by
  have H := hide (rm_in (w := w) (((h.lock true).setMv 1).setTk c.ct) ((((Keeps.refl (RcO m v p vg) w).setCell _ (fun _ => .inl rfl) _).setCell _ (fun _ => .inr (.inr (.inl rfl))) _)))
  have c5 : w.cell? ⟨p, 5, none⟩ = some (.bool x.dn) := h.r.cs 5 (by omega)
  have c0 : w.cell? ⟨p, 0, none⟩ = some (.bool x.rd) := h.r.cs 0 (by omega)
  have c4 : w.cell? ⟨p, 4, none⟩ = some (.int .i64 (x.mv : Int)) := h.r.cs 4 (by omega)
  have f4 := h.r.fs 4 (by omega)
  have d0 := h.q.c0
  have e0 := h.q.f0
  have a1 := h.a1
  have c4' : (w.setCell ⟨m, 0, none⟩ (.bool true)).cell? ⟨p, 4, none⟩ = some (.int .i64 (x.mv : Int)) := (h.lock true).r.cs 4 (by omega)
  rw [hd] at c5
  rw [hr] at c0
  rw [h0] at c4 c4'
  rw [hl] at d0
  clear h hd hr h0 hl
  go_enter Try.func9, Try.ntmps9
  go_wp2
  go_ret
  exact ⟨rfl, H.out⟩
set_option maxHeartbeats 1000000 in
theorem rw_put {c : Ce} {x : Wk} (h : RcW w B m v c p vl vg x) (hd : x.dn = false) (hr : x.rd = false) (ha : x.ad = false) (i : Nat) (h0 : x.mv = i + 1) (hl : i < x.l.length) (hc : i < c.l.length) (hb : x.l.length ≤ 1000000) :
    Calls Try.prog 9 #[.pointer (some ⟨p, 0, none⟩), .pointer (some ⟨m, 0, none⟩)] w fun e w' => e = .returned (.int .i64 1) ∧ RmIs w w' B m v { c with l := c.l.set i (x.l.getD i 0) } p vl vg { x with mv := x.mv + 1 } := by
  obtain ⟨ao, cap, rfl, s1, s2, s3⟩ := own_slice h.q.own
  obtain ⟨g, rfl, hg, e1, e2⟩ := s3 i _ (uintsN_get _ i hc)
  obtain ⟨ao', cap', rfl, t1, t2, t3⟩ := own_slice h.r.ol
  obtain ⟨g', rfl, hg', e1', -⟩ := t3 i _ (uintsN_get _ i hl)
  have H := hide (rm_in (w := w) ((h.word hg i (x.l.getD i 0)).setMv (x.mv + 1)) ((((Keeps.refl (RcO m _ p vg) w).setCell ⟨g, i, none⟩ (fun _ => .inr (.inl hg)) (.int .u64 (x.l.getD i 0 : Int))).setCell ⟨p, 4, none⟩ (fun _ => .inr (.inr (.inl rfl))) (.int .i64 ((x.mv + 1 : Nat) : Int)))))
  have c5 : w.cell? ⟨p, 5, none⟩ = some (.bool x.dn) := h.r.cs 5 (by omega)
  have c0 : w.cell? ⟨p, 0, none⟩ = some (.bool x.rd) := h.r.cs 0 (by omega)
  have c1 : w.cell? ⟨p, 1, none⟩ = some (.bool x.ad) := h.r.cs 1 (by omega)
  have c3 : w.cell? ⟨p, 3, none⟩ = some (.slice (some ⟨g', 0, none⟩) x.l.length cap') := h.r.cs 3 (by omega)
  have c4 : w.cell? ⟨p, 4, none⟩ = some (.int .i64 (x.mv : Int)) := h.r.cs 4 (by omega)
  have f4 := h.r.fs 4 (by omega)
  have d2 := h.q.c2
  have c4' : (w.setCell ⟨g, i, none⟩ (.int .u64 (x.l.getD i 0 : Int))).cell? ⟨p, 4, none⟩ = some (.int .i64 (x.mv : Int)) := (h.word hg i (x.l.getD i 0)).r.cs 4 (by omega)
  have D : x.l[i]?.getD 0 = x.l.getD i 0 := by simp
  rw [D] at e1'
  rw [hd] at c5
  rw [hr] at c0
  rw [ha] at c1
  have hm1 : (x.mv : Int) - 1 = (i : Int) := by omega
  have hm0 : ((x.mv : Int) == 0) = false := by rw [beq_eq_false_iff_ne]; omega
  have hm2 : ¬ x.mv = 0 := by omega
  have hml : x.mv ≤ 1000000 := by omega
  have hmm : ((x.mv + 1 : Nat) : Int) = (x.mv : Int) + 1 := by omega
  rw [hmm] at H
  clear h hd hr h0 ha s3 t3 D hmm
  generalize x.mv = mv at *
  generalize hy : x.l.getD i 0 = y at *
  clear hy
  generalize x.l.length = L at *
  generalize c.l.length = N at *
  go_enter Try.func9, Try.ntmps9
  go_wp2_with fail
  go_region_law ((fail))
  all_goals
    go_wp2
    go_ret
    first | exact ⟨rfl, H.out.drewN 0⟩ | exact ⟨rfl, H.out.drewN 1⟩ | exact ⟨rfl, H.out.drewN 2⟩
end
end Go.Proofs.Ytikpphbgjbfddaa
