/- Parts of the proof: Jd. -/
import Derived.Test.YtikpphbgjbfddaaJ11
namespace Go.Proofs.Ytikpphbgjbfddaa
set_option maxRecDepth 20000
open Go.RowKit
section
variable {w : World} {B m p : Nat} {v vl vg : Value}
set_option maxHeartbeats 1000000 in
theorem rw_put2 {c : Ce} {x : Wk} (h : RcW w B m v c p vl vg x) (hd : x.dn = false) (hr : x.rd = false) (ha : x.ad = true) (h0 : x.mv = 2) (hl : x.l.length = 1) (hc : c.l.length = 1) :
    Calls Try.prog 9 #[.pointer (some ⟨p, 0, none⟩), .pointer (some ⟨m, 0, none⟩)] w fun e w' => e = .returned (.int .i64 1) ∧ RmIs w w' B m v { c with l := c.l.set 0 (x.l.getD 0 0) } p vl vg { x with mv := 3 } := by
  obtain ⟨ao, cap, rfl, s1, s2, s3⟩ := own_slice h.q.own
  obtain ⟨g, rfl, hg, e1, e2⟩ := s3 0 _ (uintsN_get _ 0 (by omega))
  obtain ⟨ao', cap', rfl, t1, t2, t3⟩ := own_slice h.r.ol
  obtain ⟨g', rfl, hg', e1', -⟩ := t3 0 _ (uintsN_get _ 0 (by omega))
  have H := hide (rm_in (w := w) ((h.word hg 0 (x.l.getD 0 0)).setMv 3) ((((Keeps.refl (RcO m _ p vg) w).setCell ⟨g, 0, none⟩ (fun _ => .inr (.inl hg)) (.int .u64 (x.l.getD 0 0 : Int))).setCell ⟨p, 4, none⟩ (fun _ => .inr (.inr (.inl rfl))) (.int .i64 ((3 : Nat) : Int)))))
  have c5 : w.cell? ⟨p, 5, none⟩ = some (.bool x.dn) := h.r.cs 5 (by omega)
  have c0 : w.cell? ⟨p, 0, none⟩ = some (.bool x.rd) := h.r.cs 0 (by omega)
  have c1 : w.cell? ⟨p, 1, none⟩ = some (.bool x.ad) := h.r.cs 1 (by omega)
  have c3 : w.cell? ⟨p, 3, none⟩ = some (.slice (some ⟨g', 0, none⟩) x.l.length cap') := h.r.cs 3 (by omega)
  have c4 : w.cell? ⟨p, 4, none⟩ = some (.int .i64 (x.mv : Int)) := h.r.cs 4 (by omega)
  have f4 := h.r.fs 4 (by omega)
  have d2 := h.q.c2
  have c4' : (w.setCell ⟨g, 0, none⟩ (.int .u64 (x.l.getD 0 0 : Int))).cell? ⟨p, 4, none⟩ = some (.int .i64 (x.mv : Int)) := (h.word hg 0 (x.l.getD 0 0)).r.cs 4 (by omega)
  have D : x.l[0]?.getD 0 = x.l.getD 0 0 := by simp
  rw [D] at e1'
  rw [hd] at c5
  rw [hr] at c0
  rw [ha] at c1
  rw [h0] at c4 c4'
  rw [hl] at c3
  rw [hc] at d2
  clear h hd hr h0 ha s3 t3 D
  generalize hy : x.l.getD 0 0 = y at *
  clear hy
  go_enter Try.func9, Try.ntmps9
  go_wp2_with fail
  go_region_law ((fail))
  all_goals
    go_wp2
    go_ret
    first | exact ⟨rfl, H.out.drewN 0⟩ | exact ⟨rfl, H.out.drewN 1⟩ | exact ⟨rfl, H.out.drewN 2⟩
/-- The last move's world. -/
theorem rm_free {c : Ce} {x : Wk} (h : RcW w B m v c p vl vg x) : RmIs w (((w.setCell ⟨m, 0, none⟩ (.bool false)).setCell ⟨m, 1, none⟩ (.int .u64 (((c.ct : Int) + 1) % 4294967296))).setCell ⟨p, 5, none⟩ (.bool true)) B m v { c with lk := false, ct := (c.ct + 1) % 4294967296 } p vl vg { x with dn := true } := by
  have e : ((c.ct : Int) + 1) % 4294967296 = (((c.ct + 1) % 4294967296 : Nat) : Int) := by omega
  rw [e]
  exact rm_in (((h.lock false).count _).setDn true) (((((Keeps.refl (RcO m v p vg) w).setCell _ (fun _ => .inl rfl) _).setCell _ (fun _ => .inl rfl) _).setCell _ (fun _ => .inr (.inr (.inl rfl))) _))
set_option maxHeartbeats 1000000 in
theorem rw_free {c : Ce} {x : Wk} (h : RcW w B m v c p vl vg x) (hd : x.dn = false) (hr : x.rd = false) (ha : x.ad = false) (h0 : x.mv = x.l.length + 1) (hb : x.l.length ≤ 1000000) (hct : c.ct < 4294967296) :
    Calls Try.prog 9 #[.pointer (some ⟨p, 0, none⟩), .pointer (some ⟨m, 0, none⟩)] w fun e w' => e = .returned (.int .i64 2) ∧ RmIs w w' B m v { c with lk := false, ct := (c.ct + 1) % 4294967296 } p vl vg { x with dn := true } := by
  obtain ⟨ao', cap', rfl, t1, t2, -⟩ := own_slice h.r.ol
  have H := hide (rm_free h)
  have c5 : w.cell? ⟨p, 5, none⟩ = some (.bool x.dn) := h.r.cs 5 (by omega)
  have c0 : w.cell? ⟨p, 0, none⟩ = some (.bool x.rd) := h.r.cs 0 (by omega)
  have c1 : w.cell? ⟨p, 1, none⟩ = some (.bool x.ad) := h.r.cs 1 (by omega)
  have c3 : w.cell? ⟨p, 3, none⟩ = some (.slice ao' x.l.length cap') := h.r.cs 3 (by omega)
  have c4 : w.cell? ⟨p, 4, none⟩ = some (.int .i64 (x.mv : Int)) := h.r.cs 4 (by omega)
  have f5 := h.r.fs 5 (by omega)
  have d0 := h.q.c0
  have e0 := h.q.f0
  have d1 := h.q.c1
  have e1 := h.q.f1
  have d1' : (w.setCell ⟨m, 0, none⟩ (.bool false)).cell? ⟨m, 1, none⟩ = some (.int .u64 (c.ct : Int)) := (h.lock false).q.c1
  have c5' : ((w.setCell ⟨m, 0, none⟩ (.bool false)).setCell ⟨m, 1, none⟩ (.int .u64 (((c.ct : Int) + 1) % 4294967296))).cell? ⟨p, 5, none⟩ = some (.bool x.dn) := by
    have e : ((c.ct : Int) + 1) % 4294967296 = (((c.ct + 1) % 4294967296 : Nat) : Int) := by omega
    rw [e]; exact ((h.lock false).count _).r.cs 5 (by omega)
  rw [hd] at c5 c5'
  rw [hr] at c0
  rw [ha] at c1
  have hm1 : (x.mv : Int) - 1 = (x.l.length : Int) := by omega
  have hm0 : ((x.mv : Int) == 0) = false := by rw [beq_eq_false_iff_ne]; omega
  have hm2 : ¬ x.mv = 0 := by omega
  have hml : x.mv ≤ 1000001 := by omega
  clear h hd hr h0 ha
  generalize x.mv = mv at *
  generalize x.l.length = L at *
  generalize c.ct = ct at *
  go_enter Try.func9, Try.ntmps9
  go_wp2
  go_ret
  exact ⟨rfl, H.out⟩
set_option maxHeartbeats 1000000 in
theorem rw_free2 {c : Ce} {x : Wk} (h : RcW w B m v c p vl vg x) (hd : x.dn = false) (hr : x.rd = false) (ha : x.ad = true) (h0 : x.mv = 3) (hl : x.l.length = 1) (hct : c.ct < 4294967296) :
    Calls Try.prog 9 #[.pointer (some ⟨p, 0, none⟩), .pointer (some ⟨m, 0, none⟩)] w fun e w' => e = .returned (.int .i64 2) ∧ RmIs w w' B m v { c with lk := false, ct := (c.ct + 1) % 4294967296 } p vl vg { x with dn := true } := by
  obtain ⟨ao', cap', rfl, t1, t2, -⟩ := own_slice h.r.ol
  have H := hide (rm_free h)
  have c5 : w.cell? ⟨p, 5, none⟩ = some (.bool x.dn) := h.r.cs 5 (by omega)
  have c0 : w.cell? ⟨p, 0, none⟩ = some (.bool x.rd) := h.r.cs 0 (by omega)
  have c1 : w.cell? ⟨p, 1, none⟩ = some (.bool x.ad) := h.r.cs 1 (by omega)
  have c3 : w.cell? ⟨p, 3, none⟩ = some (.slice ao' x.l.length cap') := h.r.cs 3 (by omega)
  have c4 : w.cell? ⟨p, 4, none⟩ = some (.int .i64 (x.mv : Int)) := h.r.cs 4 (by omega)
  have f5 := h.r.fs 5 (by omega)
  have d0 := h.q.c0
  have e0 := h.q.f0
  have d1 := h.q.c1
  have e1 := h.q.f1
  have d1' : (w.setCell ⟨m, 0, none⟩ (.bool false)).cell? ⟨m, 1, none⟩ = some (.int .u64 (c.ct : Int)) := (h.lock false).q.c1
  have c5' : ((w.setCell ⟨m, 0, none⟩ (.bool false)).setCell ⟨m, 1, none⟩ (.int .u64 (((c.ct : Int) + 1) % 4294967296))).cell? ⟨p, 5, none⟩ = some (.bool x.dn) := by
    have e : ((c.ct : Int) + 1) % 4294967296 = (((c.ct + 1) % 4294967296 : Nat) : Int) := by omega
    rw [e]; exact ((h.lock false).count _).r.cs 5 (by omega)
  rw [hd] at c5 c5'
  rw [hr] at c0
  rw [ha] at c1
  rw [h0] at c4
  rw [hl] at c3
  clear h hd hr h0 ha
  generalize c.ct = ct at *
  go_enter Try.func9, Try.ntmps9
  go_wp2
  go_ret
  exact ⟨rfl, H.out⟩
end
end Go.Proofs.Ytikpphbgjbfddaa
