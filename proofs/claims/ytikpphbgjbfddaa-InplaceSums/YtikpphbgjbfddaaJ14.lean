/- Parts of the proof: Je. -/
import Derived.Test.YtikpphbgjbfddaaJ12
import Derived.Test.YtikpphbgjbfddaaJ13
namespace Go.Proofs.Ytikpphbgjbfddaa
set_option maxRecDepth 20000
open Go.RowKit
section
variable {w : World} {B m p : Nat} {v vl vg : Value}
set_option maxHeartbeats 1000000 in
theorem rr_move {c : Ce} {x : Wk} (h : RcW w B m v c p vl vg x) (hd : x.dn = false) (hr : x.rd = true) {r : Int} {R : World → Prop}
    (hc : Calls Try.prog 29 #[.pointer (some ⟨p, 0, none⟩), .pointer (some ⟨m, 0, none⟩)] w fun e w' => e = .returned (.int .i64 r) ∧ R w') :
    Calls Try.prog 9 #[.pointer (some ⟨p, 0, none⟩), .pointer (some ⟨m, 0, none⟩)] w fun e w' => e = .returned (.int .i64 r) ∧ R w' := by
  have c5 : w.cell? ⟨p, 5, none⟩ = some (.bool x.dn) := h.r.cs 5 (by omega)
  have c0 : w.cell? ⟨p, 0, none⟩ = some (.bool x.rd) := h.r.cs 0 (by omega)
  rw [hd] at c5
  rw [hr] at c0
  clear h hd hr
  go_enter Try.func9, Try.ntmps9
  go_wp2_with fail
  refine hc.mono ?_
  rintro e y ⟨rfl, hR⟩
  go_wp2
  go_ret
  exact ⟨rfl, hR⟩
set_option maxHeartbeats 1000000 in
theorem rd_busy {c : Ce} {x : Wk} (h : RcW w B m v c p vl vg x) (h0 : x.mv = 0) (hl : c.lk = true) :
    Calls Try.prog 29 #[.pointer (some ⟨p, 0, none⟩), .pointer (some ⟨m, 0, none⟩)] w fun e w' => e = .returned (.int .i64 3) ∧ RmIs w w' B m v c p vl vg x := by
  have H := hide (rm_same h)
  have c4 : w.cell? ⟨p, 4, none⟩ = some (.int .i64 (x.mv : Int)) := h.r.cs 4 (by omega)
  have d0 := h.q.c0
  rw [h0] at c4
  rw [hl] at d0
  clear h h0 hl
  go_enter Try.func29, Try.ntmps29
  go_wp2
  go_ret
  exact ⟨rfl, H.out⟩
/-- A read that begins. -/
theorem rm_begin0 {c : Ce} {x : Wk} (h : RcW w B m v c p vl vg x) (hB : B ≤ w.heap.size) : RmIs w ((((w.setCell ⟨p, 6, none⟩ (.int .u64 (c.ct : Int))).alloc (.cells #[] 43)).setCell ⟨p, 7, none⟩ (.slice (some ⟨w.heap.size, 0, none⟩) 0 0)).setCell ⟨p, 4, none⟩ (.int .i64 1)) B m v c p vl vg { x with sn := c.ct, gt := [], mv := 1 } := by
  have hm := h.q.lt
  have hp := h.r.lt
  have h1 := h.setSn c.ct
  have hs : (w.setCell ⟨p, 6, none⟩ (.int .u64 (c.ct : Int))).heap.size = w.heap.size := by simp [World.setCell]
  have ho := World.ownsRow_made (base := w.heap.size) (e := 43) (size := 1) (w.setCell ⟨p, 6, none⟩ (.int .u64 (c.ct : Int))) #[] 0 (by rw [hs]; exact Nat.le_refl _) (by decide) (by simp)
  rw [hs] at ho
  have ho' := own_base (base' := B) ho hB
  have h2 := h1.below ((Below.refl (w.setCell ⟨p, 6, none⟩ (.int .u64 (c.ct : Int))).heap.size (w.setCell ⟨p, 6, none⟩ (.int .u64 (c.ct : Int)))).alloc (Nat.le_refl _) (.cells #[] 43))
  have hn : ∀ g, (Value.slice (some ⟨w.heap.size, 0, none⟩) 0 0).ownBlock = some g → g = w.heap.size := fun g e => by simp [Value.ownBlock] at e; exact e.symm
  have h3 : RcW (((w.setCell ⟨p, 6, none⟩ (.int .u64 (c.ct : Int))).alloc (.cells #[] 43)).setCell ⟨p, 7, none⟩ (.slice (some ⟨w.heap.size, 0, none⟩) 0 0)) B m v c p vl (.slice (some ⟨w.heap.size, 0, none⟩) 0 0) { x with sn := c.ct, gt := [] } :=
    ⟨h2.own 7 _, h2.r.setG (l' := []) (by simpa [uintsN] using ho') (fun e => by have := hn _ e; omega) h2.r.ol, h.a1, h.a2, ⟨h.a3.1, fun e => by have := hn _ e; omega⟩, fun g e => ⟨(h.a4 g e).1, fun e' => by have := hn _ e'; have := (h.q.own.lt g e).2; omega⟩, fun g e e' => by have := hn _ e'; have := (h.r.ol.lt g e).2; omega⟩
  exact ⟨vl, _, h3.setMv 1, (((((Keeps.refl (RcO m v p vg) w).setCell _ (fun _ => .inr (.inr (.inl rfl))) _).alloc _).setCell _ (fun _ => .inr (.inr (.inl rfl))) _).setCell _ (fun _ => .inr (.inr (.inl rfl))) _), fun _ => .inl, fun g e => .inr (by have := hn _ e; omega)⟩
theorem rm_begin {c : Ce} {x : Wk} (h : RcW w B m v c p vl vg x) (hB : B ≤ w.heap.size) : RmIs w ((((w.setCell ⟨p, 6, none⟩ (.int .u64 (c.ct : Int))).setCell ⟨p, 7, none⟩ (.slice (some ⟨w.heap.size, 0, none⟩) 0 0)).setCell ⟨p, 4, none⟩ (.int .i64 1)).alloc (.cells #[] 43)) B m v c p vl vg { x with sn := c.ct, gt := [], mv := 1 } := by
  have H := rm_begin0 h hB
  have hp := h.r.lt
  rwa [World.setCell_alloc_past _ p 7 _ (by simpa [World.setCell] using hp), World.setCell_alloc_past _ p 4 _ (by simpa [World.setCell] using hp)] at H
set_option maxHeartbeats 1000000 in
theorem rd_begin {c : Ce} {x : Wk} (h : RcW w B m v c p vl vg x) (hB : B ≤ w.heap.size) (h0 : x.mv = 0) (hl : c.lk = false) :
    Calls Try.prog 29 #[.pointer (some ⟨p, 0, none⟩), .pointer (some ⟨m, 0, none⟩)] w fun e w' => e = .returned (.int .i64 1) ∧ RmIs w w' B m v c p vl vg { x with sn := c.ct, gt := [], mv := 1 } := by
  have H := hide (rm_begin h hB)
  have c4 : w.cell? ⟨p, 4, none⟩ = some (.int .i64 (x.mv : Int)) := h.r.cs 4 (by omega)
  have c6 : w.cell? ⟨p, 6, none⟩ = some (.int .u64 (x.sn : Int)) := h.r.cs 6 (by omega)
  have c7 : w.cell? ⟨p, 7, none⟩ = some vg := h.r.cs 7 (by omega)
  have f4 := h.r.fs 4 (by omega)
  have f6 := h.r.fs 6 (by omega)
  have f7 := h.r.fs 7 (by omega)
  have d0 := h.q.c0
  have d1 := h.q.c1
  have hp := h.r.lt
  have hm := h.q.lt
  rw [h0] at c4
  rw [hl] at d0
  clear h h0 hl hB
  go_enter Try.func29, Try.ntmps29
  go_wp2
  go_ret
  exact ⟨rfl, H.out⟩
set_option maxHeartbeats 1000000 in
theorem rd_again {c : Ce} {x : Wk} (h : RcW w B m v c p vl vg x) (h0 : x.mv = c.l.length + 1) (hb : c.l.length ≤ 1000000) (hl : c.lk = true ∨ c.ct ≠ x.sn) :
    Calls Try.prog 29 #[.pointer (some ⟨p, 0, none⟩), .pointer (some ⟨m, 0, none⟩)] w fun e w' => e = .returned (.int .i64 3) ∧ RmIs w w' B m v c p vl vg { x with mv := 0 } := by
  obtain ⟨ao, cap, rfl, s1, s2, s3⟩ := own_slice h.q.own
  have H := hide (rm_in (w := w) (h.setMv 0) ((Keeps.refl (RcO m _ p vg) w).setCell _ (fun _ => .inr (.inr (.inl rfl))) _))
  have c4 : w.cell? ⟨p, 4, none⟩ = some (.int .i64 (x.mv : Int)) := h.r.cs 4 (by omega)
  have c6 : w.cell? ⟨p, 6, none⟩ = some (.int .u64 (x.sn : Int)) := h.r.cs 6 (by omega)
  have f4 := h.r.fs 4 (by omega)
  have d0 := h.q.c0
  have d1 := h.q.c1
  have d2 := h.q.c2
  have hm1 : (x.mv : Int) - 1 = (c.l.length : Int) := by omega
  have hm0 : ((x.mv : Int) == 0) = false := by rw [beq_eq_false_iff_ne]; omega
  have hm2 : ¬ x.mv = 0 := by omega
  have hml : x.mv ≤ 1000001 := by omega
  clear h h0 s3
  generalize x.mv = mv at *
  generalize c.l.length = N at *
  cases hk : c.lk with
  | true =>
    rw [hk] at d0
    clear hl
    go_enter Try.func29, Try.ntmps29
    go_wp2_with fail
    go_quiet (fail)
    go_wp2
    go_ret
    exact ⟨rfl, H.out.drewN _⟩
  | false =>
    rw [hk] at d0 hl
    have hne : ((c.ct : Int) != (x.sn : Int)) = true := by
      rw [bne_iff_ne]
      rcases hl with e | e
      · cases e
      · omega
    clear hl
    generalize c.ct = ct at *
    generalize x.sn = sn at *
    go_enter Try.func29, Try.ntmps29
    go_wp2_with fail
    go_quiet (fail)
    go_wp2
    go_ret
    exact ⟨rfl, H.out.drewN _⟩
set_option maxHeartbeats 1000000 in
theorem rd_end {c : Ce} {x : Wk} (h : RcW w B m v c p vl vg x) (h0 : x.mv = c.l.length + 1) (hb : c.l.length ≤ 1000000) (hl : c.lk = false) (hs : c.ct = x.sn) :
    Calls Try.prog 29 #[.pointer (some ⟨p, 0, none⟩), .pointer (some ⟨m, 0, none⟩)] w fun e w' => e = .returned (.int .i64 2) ∧ RmIs w w' B m v c p vl vg { x with dn := true } := by
  obtain ⟨ao, cap, rfl, s1, s2, s3⟩ := own_slice h.q.own
  have H := hide (rm_in (w := w) (h.setDn true) ((Keeps.refl (RcO m _ p vg) w).setCell _ (fun _ => .inr (.inr (.inl rfl))) _))
  have c4 : w.cell? ⟨p, 4, none⟩ = some (.int .i64 (x.mv : Int)) := h.r.cs 4 (by omega)
  have c5 : w.cell? ⟨p, 5, none⟩ = some (.bool x.dn) := h.r.cs 5 (by omega)
  have c6 : w.cell? ⟨p, 6, none⟩ = some (.int .u64 (x.sn : Int)) := h.r.cs 6 (by omega)
  have f5 := h.r.fs 5 (by omega)
  have d0 := h.q.c0
  have d1 := h.q.c1
  have d2 := h.q.c2
  have hm1 : (x.mv : Int) - 1 = (c.l.length : Int) := by omega
  have hm0 : ((x.mv : Int) == 0) = false := by rw [beq_eq_false_iff_ne]; omega
  have hm2 : ¬ x.mv = 0 := by omega
  have hml : x.mv ≤ 1000001 := by omega
  rw [hl] at d0
  rw [hs] at d1
  have hne : ((x.sn : Int) != (x.sn : Int)) = false := by simp
  clear h h0 s3 hl hs
  generalize x.mv = mv at *
  generalize c.l.length = N at *
  generalize x.sn = sn at *
  go_enter Try.func29, Try.ntmps29
  go_wp2_with fail
  go_quiet (fail)
  go_wp2
  go_ret
  exact ⟨rfl, H.out.drewN _⟩
end
end Go.Proofs.Ytikpphbgjbfddaa
