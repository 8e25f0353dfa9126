/- Parts of the proof: Jr. -/
import Derived.Test.YtikpphbgjbfddaaJ33
namespace Go.Proofs.Ytikpphbgjbfddaa
set_option maxRecDepth 20000
open Go.RowKit
def ptrV : Option Nat → Value
  | none => .pointer none
  | some p => .pointer (some ⟨p, 0, none⟩)
def ptrsV (f : Nat → Option Nat) (K : Nat) : List Value := (List.range K).map fun j => ptrV (f j)
theorem ptrsV_length (f : Nat → Option Nat) (K : Nat) : (ptrsV f K).length = K := by simp [ptrsV]
theorem ptrsV_get (f : Nat → Option Nat) (K j : Nat) (h : j < K) : (ptrsV f K)[j]? = some (ptrV (f j)) := by simp [ptrsV, h]
theorem ptrsV_snoc (f : Nat → Option Nat) (K : Nat) : ptrsV f (K + 1) = ptrsV f K ++ [ptrV (f K)] := by simp [ptrsV, List.range_succ]
theorem ptrsV_congr {f g : Nat → Option Nat} {K : Nat} (h : ∀ j, j < K → f j = g j) : ptrsV f K = ptrsV g K := by
  apply List.ext_getElem?
  intro j
  by_cases hj : j < K
  · rw [ptrsV_get _ _ _ hj, ptrsV_get _ _ _ hj, h j hj]
  · rw [List.getElem?_eq_none (by rw [ptrsV_length]; omega), List.getElem?_eq_none (by rw [ptrsV_length]; omega)]
/-- What stays of a scene: its struct in block sx, the buffer at t, the reference's record at m with its row v; of the j-th worker the program's block pw j, the reference's q j, whether it reads. -/
structure Sn where
  sx : Nat
  t : Nat
  m : Nat
  N : Nat
  n : Nat
  K : Nat
  v : Value
  va : Value
  vb : Value
  vm : Value
  pw : Nat → Nat
  q : Nat → Nat
  rd : Nat → Bool
def Sn.fa (d : Sn) : Nat → Option Nat := fun j => if d.rd j = true then none else some (d.pw j)
def Sn.fb (d : Sn) : Nat → Option Nat := fun j => if d.rd j = true then some (d.pw j) else none
def Sn.fm (d : Sn) : Nat → Option Nat := fun j => some (d.q j)
structure SnIs (w : World) (B : Nat) (d : Sn) : Prop where
  c0 : w.cell? ⟨d.sx, 0, none⟩ = some (.pointer (some ⟨d.t, 0, none⟩))
  c1 : w.cell? ⟨d.sx, 1, none⟩ = some (.pointer (some ⟨d.m, 0, none⟩))
  c2 : w.cell? ⟨d.sx, 2, none⟩ = some d.va
  c3 : w.cell? ⟨d.sx, 3, none⟩ = some d.vb
  c4 : w.cell? ⟨d.sx, 4, none⟩ = some d.vm
  f2 : w.frozen? ⟨d.sx, 2, none⟩ = false
  f3 : w.frozen? ⟨d.sx, 3, none⟩ = false
  f4 : w.frozen? ⟨d.sx, 4, none⟩ = false
  oa : w.ownsRow B 51 1 d.va d.K (ptrsV d.fa d.K)
  ob : w.ownsRow B 49 1 d.vb d.K (ptrsV d.fb d.K)
  om : w.ownsRow B 38 1 d.vm d.K (ptrsV d.fm d.K)
  na : d.va.ownBlock ≠ some d.sx ∧ d.vb.ownBlock ≠ some d.sx ∧ d.vm.ownBlock ≠ some d.sx
  nb : ∀ g, d.va.ownBlock = some g → d.vb.ownBlock ≠ some g ∧ d.vm.ownBlock ≠ some g
  nc : ∀ g, d.vb.ownBlock = some g → d.vm.ownBlock ≠ some g
theorem SnIs.lt {w : World} {B : Nat} {d : Sn} (h : SnIs w B d) : d.sx < w.heap.size := World.block_lt_of_cell? w _ h.c0
theorem SnIs.keep {w w' : World} {B : Nat} {d : Sn} (h : SnIs w B d) {R : Nat → Prop} (hk : Keeps R w w') (h0 : ¬ R d.sx) (h1 : ∀ g, (d.va.ownBlock = some g ∨ d.vb.ownBlock = some g ∨ d.vm.ownBlock = some g) → ¬ R g) : SnIs w' B d :=
  ⟨(hk.cell h.lt h0).trans h.c0, (hk.cell h.lt h0).trans h.c1, (hk.cell h.lt h0).trans h.c2, (hk.cell h.lt h0).trans h.c3, (hk.cell h.lt h0).trans h.c4, (hk.frozen h.lt h0).trans h.f2, (hk.frozen h.lt h0).trans h.f3, (hk.frozen h.lt h0).trans h.f4, own_keep h.oa hk (fun g hg => h1 g (.inl hg)), own_keep h.ob hk (fun g hg => h1 g (.inr (.inl hg))), own_keep h.om hk (fun g hg => h1 g (.inr (.inr hg))), h.na, h.nb, h.nc⟩
/-- Both sides of a scene, the program's at (cp, xp), the reference's at (cr, xr). -/
structure ScA (X : InPred) (w : World) (o : Nat → Nat) (B : Nat) (d : Sn) (k : Nat) (vls vgs : Nat → Value) (cp : Ce) (xp : Nat → Wk) (cr : Ce) (xr : Nat → Wk) : Prop where
  p : ScP X w o d.t k d.N d.n d.K d.pw cp xp
  r : ScR w o B d.m d.v d.K d.q vls vgs cr xr
  s : SnIs w B d
  os : o d.sx = 3
  ov : ∀ g, (d.va.ownBlock = some g ∨ d.vb.ownBlock = some g ∨ d.vm.ownBlock = some g) → o g = 3
  bs : ScO w o B
  up : ∀ i, o i < 4 + 2 * d.K
section
variable {X : InPred} {w w' : World} {o : Nat → Nat} {B k : Nat} {d : Sn} {vls vgs : Nat → Value} {cp cr : Ce} {xp xr : Nat → Wk}
theorem ScA.own_lt (h : ScA X w o B d k vls vgs cp xp cr xr) {g : Nat} (hg : d.va.ownBlock = some g ∨ d.vb.ownBlock = some g ∨ d.vm.ownBlock = some g) : g < w.heap.size := by
  have := h.ov g hg
  exact (h.bs.ge g (by omega)).2
theorem ScA.below (C : InProg X) (h : ScA X w o B d k vls vgs cp xp cr xr) (hb : Below w.heap.size w w') : ScA X w' o B d k vls vgs cp xp cr xr :=
  ⟨h.p.keep C (R := fun _ => False) (Below.keeps hb) (fun _ _ => id), h.r.keep (R := fun _ => False) (Below.keeps hb) (fun _ _ => id), h.s.keep (R := fun _ => False) (Below.keeps hb) id (fun _ _ => id), h.os, h.ov, h.bs.keep (R := fun _ => False) (Below.keeps hb), h.up⟩
theorem ScA.prog (C : InProg X) (h : ScA X w o B d k vls vgs cp xp cr xr) {j : Nat} (hj : j < d.K) {c' : Ce} {x' : Wk} {k' : Nat} (hx : X w' (More (fun i => o i = 4 + 2 * j) w w') d.t (d.pw j) d.N d.n x') (hb : InBuf w' (fun i => o i = 1) d.t k' d.N c') (hk : Keeps (fun i => o i = 4 + 2 * j ∨ o i = 1) w w') :
    ScA X w' (oNew o w.heap.size w'.heap.size (4 + 2 * j)) B d k' vls vgs c' (wkUpd xp j x') cr xr := by
  refine ⟨h.p.step C h.bs hj hx hb hk, h.r.fresh _ _ (h.r.keep hk (fun i hi => ?_)), h.s.keep hk (by have := h.os; omega) (fun g hg => by have := h.ov g hg; omega), by rw [oNew_old h.s.lt]; exact h.os, fun g hg => by rw [oNew_old (h.own_lt hg)]; exact h.ov g hg, h.bs.new hk _, fun i => ?_⟩
  · rcases hi with hi | ⟨j', _, hi⟩ <;> omega
  · unfold oNew
    by_cases e : w.heap.size ≤ i ∧ i < w'.heap.size
    · rw [if_pos e]; omega
    · rw [if_neg e]; exact h.up i
theorem ScA.ref (C : InProg X) (h : ScA X w o B d k vls vgs cp xp cr xr) {j : Nat} (hj : j < d.K) {c' : Ce} {x' : Wk} (hm : RmIs w w' B d.m d.v c' (d.q j) (vls j) (vgs j) x') :
    ∃ vls' vgs', ScA X w' (oNew o w.heap.size w'.heap.size (5 + 2 * j)) B d k vls' vgs' cp xp c' (wkUpd xr j x') ∧ Keeps (fun i => o i = 2 ∨ o i = 5 + 2 * j) w w' := by
  obtain ⟨vls', vgs', h1, hk⟩ := h.r.step hj hm
  refine ⟨vls', vgs', ⟨ScP.fresh h.bs _ _ ⟨by omega, fun i _ => by omega⟩ (h.p.keep C hk (fun i hi => ?_)), h1, h.s.keep hk (by have := h.os; omega) (fun g hg => by have := h.ov g hg; omega), by rw [oNew_old h.s.lt]; exact h.os, fun g hg => by rw [oNew_old (h.own_lt hg)]; exact h.ov g hg, h.bs.new hk _, fun i => ?_⟩, hk⟩
  · rcases hi with hi | ⟨j', _, hi⟩ <;> omega
  · unfold oNew
    by_cases e : w.heap.size ≤ i ∧ i < w'.heap.size
    · rw [if_pos e]; omega
    · rw [if_neg e]; exact h.up i
theorem sc_disj (j : Nat) : ∀ i, o i = 4 + 2 * j → ¬ o i = 1 := fun i h1 h2 => by omega
end
theorem row_at {w : World} {B K j : Nat} {T : TypeId} {u : Value} {f : Nat → Option Nat} (h : w.ownsRow B T 1 u K (ptrsV f K)) (hj : j < K) : ∃ g cap, u = .slice (some ⟨g, 0, none⟩) K cap ∧ w.cell? ⟨g, j, none⟩ = some (ptrV (f j)) := by
  obtain ⟨g, cap, rfl, _, _⟩ := own_form h (by omega)
  exact ⟨g, cap, rfl, by rw [h.cellAt j (by omega), ptrsV_get _ _ _ hj]⟩
set_option maxHeartbeats 1000000 in
/-- The scene's move: the program's of one of them. -/
theorem sc_move {X : InPred} (C : InProg X) {w : World} {o : Nat → Nat} {B k : Nat} {d : Sn} {vls vgs : Nat → Value} {cp cr : Ce} {xp xr : Nat → Wk} (h : ScA X w o B d k vls vgs cp xp cr xr) {j : Nat} (hj : j < d.K) (hc : CeOk d.N cp) (hx : WkOk d.N (xp j)) (hrd : (xp j).rd = d.rd j) (hrr : (xr j).rd = d.rd j) (hk : k ≤ 100000) (hh : (xp j).holds = true → cp.lk = true ∧ (xp j).tk = cp.ct) :
    Calls Try.prog 8 #[.pointer (some ⟨d.sx, 0, none⟩), .int .i64 (j : Int)] w fun e w' => e = .returned (.tuple #[.int .i64 ((wkMove cp (xp j)).1 : Int), .int .i64 0]) ∧ ScA X w' (oNew o w.heap.size w'.heap.size (4 + 2 * j)) B d (k + 1) vls vgs (wkMove cp (xp j)).2.1 (wkUpd xp j (wkMove cp (xp j)).2.2) cr xr ∧ Keeps (fun i => o i = 4 + 2 * j ∨ o i = 1) w w' := by
  have c2 := h.s.c2
  have c3 := h.s.c3
  have c4 := h.s.c4
  obtain ⟨ga, ca, ea, ra⟩ := row_at h.s.oa hj
  obtain ⟨gb, cb, eb, rb⟩ := row_at h.s.ob hj
  obtain ⟨gm, cm, em, rm⟩ := row_at h.s.om hj
  have q0 : w.cell? ⟨d.q j, 0, none⟩ = some (.bool (d.rd j)) := by rw [← hrr]; exact (h.r.rf j hj).cs 0 (by omega)
  rw [ea] at c2
  rw [eb] at c3
  rw [em] at c4
  have hj6 : (j : Int) < (d.K : Int) := by omega
  have hX := h.p.pr j hj
  have HP : Hid (∀ w', X w' (More (fun i => o i = 4 + 2 * j) w w') d.t (d.pw j) d.N d.n (wkMove cp (xp j)).2.2 → InBuf w' (fun i => o i = 1) d.t (k + 1) d.N (wkMove cp (xp j)).2.1 → Keeps (fun i => o i = 4 + 2 * j ∨ o i = 1) w w' → _) := fun w' a b c => h.prog C hj a b c
  cases hr : d.rd j with
  | true =>
    have HM := hide (C.moveR hX h.p.buf (sc_disj j) hc hx (by rw [hrd, hr]) hk)
    rw [hr] at q0
    have rb' : w.cell? ⟨gb, j, none⟩ = some (.pointer (some ⟨d.pw j, 0, none⟩)) := by rw [rb]; unfold Sn.fb; rw [if_pos hr]; rfl
    have rm' : w.cell? ⟨gm, j, none⟩ = some (.pointer (some ⟨d.q j, 0, none⟩)) := rm
    clear h hX ra rb rm ea eb em hc hx hrd hrr hh hr
    generalize (wkMove cp (xp j)).1 = r at *
    generalize d.q j = q at *
    generalize d.K = K at *
    go_enter Try.func8, Try.ntmps8
    go_wp2_with fail
    refine HM.out.mono ?_
    rintro e y ⟨rfl, h1, h2, h3⟩
    have HR := hide (HP.out y h1 h2 h3)
    have HK := hide h3
    clear h1 h2 h3 HP HM
    go_wp2
    go_ret2
    exact ⟨rfl, HR.out, HK.out⟩
  | false =>
    have HM := hide (C.moveW hX h.p.buf (sc_disj j) hc hx (by rw [hrd, hr]) hk hh)
    rw [hr] at q0
    have ra' : w.cell? ⟨ga, j, none⟩ = some (.pointer (some ⟨d.pw j, 0, none⟩)) := by rw [ra]; unfold Sn.fa; rw [if_neg (by rw [hr]; decide)]; rfl
    have rm' : w.cell? ⟨gm, j, none⟩ = some (.pointer (some ⟨d.q j, 0, none⟩)) := rm
    clear h hX ra rb rm ea eb em hc hx hrd hrr hh hr
    generalize (wkMove cp (xp j)).1 = r at *
    generalize d.q j = q at *
    generalize d.K = K at *
    go_enter Try.func8, Try.ntmps8
    go_wp2_with fail
    refine HM.out.mono ?_
    rintro e y ⟨rfl, h1, h2, h3⟩
    have HR := hide (HP.out y h1 h2 h3)
    have HK := hide h3
    clear h1 h2 h3 HP HM
    go_wp2
    go_ret2
    exact ⟨rfl, HR.out, HK.out⟩
set_option maxHeartbeats 1000000 in
/-- The scene's words: the value as it stands in the program's buffer. -/
theorem sc_words {X : InPred} {w : World} {o : Nat → Nat} {B k : Nat} {d : Sn} {vls vgs : Nat → Value} {cp cr : Ce} {xp xr : Nat → Wk} (h : ScA X w o B d k vls vgs cp xp cr xr) (hc : cr.l.length = d.N) :
    Calls Try.prog 11 #[.pointer (some ⟨d.sx, 0, none⟩)] w fun e w' => ∃ ao cap, e = .returned (.slice ao d.N cap) ∧ Sl .u64 w' ao d.N (fun j => (cp.l.getD j 0 : Int)) ∧ Below w.heap.size w w' := by
  have c0 := h.s.c0
  have c1 := h.s.c1
  have q2 := h.r.ce.c2
  obtain ⟨ao, cap, ev, _⟩ := own_slice h.r.ce.own
  rw [ev, hc] at q2
  have hN := h.p.buf.few
  by_cases h0 : d.N = 0
  · rw [h0] at q2
    clear h
    generalize d.N = N at *
    go_enter Try.func11, Try.ntmps11
    go_wp2
    go_ret
    exact ⟨none, 0, by rw [h0]; rfl, fun j hj => by omega, Below.refl _ _⟩
  · have HW := hide (fun n => inb_words (w := w.drewN n) (h.p.buf.keep (R := fun _ => False) (Below.keeps (below_drewN (Below.refl _ _) n)) (fun _ _ => id)) (by omega))
    have h1 : ((d.N : Int) == 0) = false := by rw [beq_eq_false_iff_ne]; omega
    have h2 : ¬ (d.N : Int) = 0 := by omega
    have HQ : Hid (∀ z, Below (w.drewN 1).heap.size (w.drewN 1) z → z.cell? ⟨d.sx, 0, none⟩ = some (.pointer (some ⟨d.t, 0, none⟩)) ∧ z.cell? ⟨d.sx, 1, none⟩ = some (.pointer (some ⟨d.m, 0, none⟩)) ∧ z.cell? ⟨d.m, 2, none⟩ = some (.slice ao d.N cap)) := fun z hb => by
      have l1 : d.sx < w.heap.size := World.block_lt_of_cell? w _ c0
      have l2 : d.m < w.heap.size := World.block_lt_of_cell? w _ q2
      exact ⟨(hb.cell (p := ⟨d.sx, 0, none⟩) l1).trans c0, (hb.cell (p := ⟨d.sx, 1, none⟩) l1).trans c1, (hb.cell (p := ⟨d.m, 2, none⟩) l2).trans q2⟩
    clear h
    generalize d.N = N at *
    go_enter Try.func11, Try.ntmps11
    go_wp2_with fail
    go_region_held3 (fun W => W.cell? ⟨d.sx, 0, none⟩ = some (.pointer (some ⟨d.t, 0, none⟩)) ∧ W.cell? ⟨d.sx, 1, none⟩ = some (.pointer (some ⟨d.m, 0, none⟩)) ∧ W.cell? ⟨d.m, 2, none⟩ = some (.slice ao N cap)) (first | assumption | go_keep) (first | (go_at_call 30; refine (HW.out 1).mono ?_; rintro e z ⟨b, rfl, hs, hb⟩; have q3 := HQ.out z hb))
    have BB := (below_drewN (Below.refl w.heap.size w) 1).trans (hb.mono (by simp))
    go_wp2
    go_ret
    exact ⟨_, _, rfl, hs, BB⟩
end Go.Proofs.Ytikpphbgjbfddaa
