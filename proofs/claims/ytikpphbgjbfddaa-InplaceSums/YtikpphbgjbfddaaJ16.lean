/- Parts of the proof: Jg. -/
import Derived.Test.YtikpphbgjbfddaaJ15
namespace Go.Proofs.Ytikpphbgjbfddaa
set_option maxRecDepth 20000
open Go.RowKit
section
variable {w : World} {B m p : Nat} {v vl vg : Value}
theorem own_litU (w : World) (a : Nat) : (w.alloc (.cells #[.int .u64 (a : Int)] 43)).ownsRow w.heap.size 43 1 (.slice (some ⟨w.heap.size, 0, none⟩) 1 1) [a].length (uintsN [a]) :=
  World.ownsRow_lit w _ 1 (Nat.le_refl _) (by decide) rfl
theorem rm_load0 {c : Ce} {x : Wk} (h : RcW w B m v c p vl vg x) (hB : B ≤ w.heap.size) (y : Nat) : RmIs w (((w.alloc (.cells #[.int .u64 (y : Int)] 43)).setCell ⟨p, 3, none⟩ (.slice (some ⟨w.heap.size, 0, none⟩) 1 1)).setCell ⟨p, 4, none⟩ (.int .i64 2)) B m v c p vl vg { x with l := [y], mv := 2 } := by
  have hm := h.q.lt
  have hp := h.r.lt
  have ho := own_base (base' := B) (own_litU w y) hB
  have h2 := h.below ((Below.refl w.heap.size w).alloc (Nat.le_refl _) (.cells #[.int .u64 (y : Int)] 43))
  have hn : ∀ g, (Value.slice (some ⟨w.heap.size, 0, none⟩) 1 1).ownBlock = some g → g = w.heap.size := fun g e => by simp [Value.ownBlock] at e; exact e.symm
  have h3 : RcW ((w.alloc (.cells #[.int .u64 (y : Int)] 43)).setCell ⟨p, 3, none⟩ (.slice (some ⟨w.heap.size, 0, none⟩) 1 1)) B m v c p (.slice (some ⟨w.heap.size, 0, none⟩) 1 1) vg { x with l := [y] } :=
    ⟨h2.own 3 _, h2.r.setL (l' := [y]) ho (fun e => by have := hn _ e; omega), h.a1, h.a2, ⟨fun e => by have := hn _ e; omega, h.a3.2⟩, fun g e => ⟨fun e' => by have := hn _ e'; have := (h.q.own.lt g e).2; omega, (h.a4 g e).2⟩, fun g e e' => by have := hn _ e; have := (h.r.og.lt g e').2; omega⟩
  exact ⟨_, vg, h3.setMv 2, ((((Keeps.refl (RcO m v p vg) w).alloc _).setCell _ (fun _ => .inr (.inr (.inl rfl))) _).setCell _ (fun _ => .inr (.inr (.inl rfl))) _), fun g e => .inr (by have := hn _ e; omega), fun _ => .inl⟩
theorem rm_load {c : Ce} {x : Wk} (h : RcW w B m v c p vl vg x) (hB : B ≤ w.heap.size) (y : Nat) : RmIs w (((w.setCell ⟨p, 3, none⟩ (.slice (some ⟨w.heap.size, 0, none⟩) 1 1)).setCell ⟨p, 4, none⟩ (.int .i64 2)).alloc (.cells #[.int .u64 (y : Int)] 43)) B m v c p vl vg { x with l := [y], mv := 2 } := by
  have H := rm_load0 h hB y
  have hp := h.r.lt
  rwa [World.setCell_alloc_past _ p 3 _ (by simpa [World.setCell] using hp), World.setCell_alloc_past _ p 4 _ (by simpa [World.setCell] using hp)] at H
set_option maxHeartbeats 2000000 in
theorem rw_load {c : Ce} {x : Wk} (h : RcW w B m v c p vl vg x) (hB : B ≤ w.heap.size) (hd : x.dn = false) (hr : x.rd = false) (ha : x.ad = true) (h0 : x.mv = 1) (hc : c.l.length = 1) :
    Calls Try.prog 9 #[.pointer (some ⟨p, 0, none⟩), .pointer (some ⟨m, 0, none⟩)] w fun e w' => e = .returned (.int .i64 1) ∧ RmIs w w' B m v c p vl vg { x with l := [sumW (c.l.getD 0 0) x.n], mv := 2 } := by
  have HS : IntKind.u64.wrap ((c.l.getD 0 0 : Nat) + (x.n : Int)) = (sumW (c.l.getD 0 0) x.n : Int) := by rw [IntKind.wrap_u64, sumW]; omega
  obtain ⟨ao, cap, rfl, s1, s2, s3⟩ := own_slice h.q.own
  obtain ⟨g, rfl, hg, e1, e2⟩ := s3 0 _ (uintsN_get _ 0 (by omega))
  have H := hide (rm_load h hB (sumW (c.l.getD 0 0) x.n))
  have c5 : w.cell? ⟨p, 5, none⟩ = some (.bool x.dn) := h.r.cs 5 (by omega)
  have c0 : w.cell? ⟨p, 0, none⟩ = some (.bool x.rd) := h.r.cs 0 (by omega)
  have c1 : w.cell? ⟨p, 1, none⟩ = some (.bool x.ad) := h.r.cs 1 (by omega)
  have c2 : w.cell? ⟨p, 2, none⟩ = some (.int .u64 (x.n : Int)) := h.r.cs 2 (by omega)
  have c3 : w.cell? ⟨p, 3, none⟩ = some vl := h.r.cs 3 (by omega)
  have c4 : w.cell? ⟨p, 4, none⟩ = some (.int .i64 (x.mv : Int)) := h.r.cs 4 (by omega)
  have f3 := h.r.fs 3 (by omega)
  have f4 := h.r.fs 4 (by omega)
  have d2 := h.q.c2
  have D : c.l[0]?.getD 0 = c.l.getD 0 0 := by simp
  have hps := h.r.lt
  have hms := h.q.lt
  have hgs := (h.q.own.lt g hg).2
  rw [D] at e1
  rw [hd] at c5
  rw [hr] at c0
  rw [ha] at c1
  rw [h0] at c4
  rw [hc] at d2
  clear h hd hr h0 ha s3 D hB
  generalize sumW (c.l.getD 0 0) x.n = y at *
  generalize c.l.getD 0 0 = z at *
  generalize x.n = n at *
  go_enter Try.func9, Try.ntmps9
  go_wp2_with fail
  go_region_law ((fail))
  all_goals
    go_wp2
    go_ret
    first | exact ⟨rfl, H.out.drewN 0⟩ | exact ⟨rfl, H.out.drewN 1⟩ | exact ⟨rfl, H.out.drewN 2⟩
end
end Go.Proofs.Ytikpphbgjbfddaa
