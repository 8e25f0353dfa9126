/- Parts of the proof: Jq Jr Js Jt. -/
import Derived.Test.YtikpphbgjbfddaaJ14
import Derived.Deep.AppendLies
namespace Go.Proofs.Ytikpphbgjbfddaa
set_option maxRecDepth 20000
open Go.RowKit
set_option maxHeartbeats 1000000 in
theorem fit_any (s : ByteArray) (hs : s.size ≤ 9223372036854775807) (n : Nat) (hn : n ≤ 1000) (w : World) :
    Calls Try.prog 27 #[.string s, .int .i64 (n : Int)] w fun e w' => ∃ v : ByteArray, v.size = n ∧ e = .returned (.string v) ∧ Below w.heap.size w w' := by
  by_cases h : n ≤ s.size
  · have hsz : (s.extract 0 n).size = n := by rw [ByteArray.size_extract]; omega
    have HZ := hide hsz
    clear hsz
    go_enter Try.func27, Try.ntmps27
    go_wp2
    go_ret
    exact ⟨_, HZ.out, rfl, Below.refl _ _⟩
  · obtain ⟨i0, hi, hz0, hz1, hz2⟩ := info_parts Try.infoU8
    obtain ⟨m, hm⟩ : ∃ m, n = s.size + m := ⟨n - s.size, by omega⟩
    have hm0 : ((n : Int) - (s.size : Int)) = (m : Int) := by omega
    have hlt : ¬ (n : Int) ≤ (s.size : Int) := by omega
    have HM := hide hm
    have hmn : m ≤ 1000 := by omega
    clear h hm
    generalize hss : s.size = k at *
    go_enter Try.func27, Try.ntmps27
    go_wp2_with (at_make; refine wpList_make_full _ rfl _ _ 23 rfl w.heap.size 5 i0 (.int .u8 0) 1 Try.underlying23 hi hz0 hz1 _ _ _ _ m rfl rfl ?a1 ?a2 ?b1 ?b2 (Nat.le_refl _) ?_)
    case a1 => first | exact hm0 | omega
    case a2 => first | exact hm0 | omega
    case b1 => first | omega | (rw [hz2]; omega)
    case b2 => unfold maxLen; omega
    intro w1 hown hgrow
    have hown1 : w1.ownsRow w.heap.size 5 1 (.slice (some ⟨w.heap.size, 0, none⟩) (List.replicate m (0 : UInt8)).length m) (List.replicate m (0 : UInt8)).length (bytesV (List.replicate m (0 : UInt8))) := by
      rw [List.length_replicate]
      have e : bytesV (List.replicate m (0 : UInt8)) = (madeCells #[.int .u8 0] m).toList := by
        simp [bytesV, toList_madeCells_one]
      rw [e]; exact hown
    have hb1 : Below w.heap.size w w1 := (Below.refl _ _).grown hgrow (Nat.le_refl _) (by simp)
    have kc := run_convert_bytes_back (P := Try.prog) w1 23 9 5 ⟨w.heap.size, 0, none⟩ m (List.replicate m (0 : UInt8)) Try.underlying23 Try.underlying5 Try.underlying9 (own_str hown1)
    rw [List.length_replicate] at kc
    clear hown hgrow hown1
    go_wp2
    go_ret
    refine ⟨_, ?_, rfl, hb1⟩
    rw [HM.out, ← hss, ByteArray.size_append]
    show s.size + (List.replicate m (0 : UInt8)).toArray.size = s.size + m
    rw [List.size_toArray, List.length_replicate]
end Go.Proofs.Ytikpphbgjbfddaa
namespace Go.Proofs.Ytikpphbgjbfddaa
set_option maxRecDepth 20000
open Go.RowKit
def ptrV : Option Nat → Value
  | none => .pointer none
  | some p => .pointer (some ⟨p, 0, none⟩)
def ptrsV (f : Nat → Option Nat) (K : Nat) : List Value := (List.range K).map fun j => ptrV (f j)
theorem ptrsV_length (f : Nat → Option Nat) (K : Nat) : (ptrsV f K).length = K := by simp [ptrsV]
theorem ptrsV_get (f : Nat → Option Nat) (K j : Nat) (h : j < K) : (ptrsV f K)[j]? = some (ptrV (f j)) := by simp [ptrsV, h]
theorem ptrsV_snoc (f : Nat → Option Nat) (K : Nat) : ptrsV f (K + 1) = ptrsV f K ++ [ptrV (f K)] := by simp [ptrsV, List.range_succ]
theorem ptrsV_congr {f g : Nat → Option Nat} {K : Nat} (h : ∀ j, j < K → f j = g j) : ptrsV f K = ptrsV g K := by
  apply List.ext_getElem?
  intro j
  by_cases hj : j < K
  · rw [ptrsV_get _ _ _ hj, ptrsV_get _ _ _ hj, h j hj]
  · rw [List.getElem?_eq_none (by rw [ptrsV_length]; omega), List.getElem?_eq_none (by rw [ptrsV_length]; omega)]
/-- What stays of a scene: its struct in block sx, the buffer at t, the reference's record at m with its row v; of the j-th worker the program's block pw j, the reference's q j, whether it reads. -/
structure Sn where
  sx : Nat
  t : Nat
  m : Nat
  N : Nat
  n : Nat
  K : Nat
  v : Value
  va : Value
  vb : Value
  vm : Value
  pw : Nat → Nat
  q : Nat → Nat
  rd : Nat → Bool
def Sn.fa (d : Sn) : Nat → Option Nat := fun j => if d.rd j = true then none else some (d.pw j)
def Sn.fb (d : Sn) : Nat → Option Nat := fun j => if d.rd j = true then some (d.pw j) else none
def Sn.fm (d : Sn) : Nat → Option Nat := fun j => some (d.q j)
structure SnIs (w : World) (B : Nat) (d : Sn) : Prop where
  c0 : w.cell? ⟨d.sx, 0, none⟩ = some (.pointer (some ⟨d.t, 0, none⟩))
  c1 : w.cell? ⟨d.sx, 1, none⟩ = some (.pointer (some ⟨d.m, 0, none⟩))
  c2 : w.cell? ⟨d.sx, 2, none⟩ = some d.va
  c3 : w.cell? ⟨d.sx, 3, none⟩ = some d.vb
  c4 : w.cell? ⟨d.sx, 4, none⟩ = some d.vm
  f2 : w.frozen? ⟨d.sx, 2, none⟩ = false
  f3 : w.frozen? ⟨d.sx, 3, none⟩ = false
  f4 : w.frozen? ⟨d.sx, 4, none⟩ = false
  oa : w.ownsRow B 51 1 d.va d.K (ptrsV d.fa d.K)
  ob : w.ownsRow B 49 1 d.vb d.K (ptrsV d.fb d.K)
  om : w.ownsRow B 38 1 d.vm d.K (ptrsV d.fm d.K)
  na : d.va.ownBlock ≠ some d.sx ∧ d.vb.ownBlock ≠ some d.sx ∧ d.vm.ownBlock ≠ some d.sx
  nb : ∀ g, d.va.ownBlock = some g → d.vb.ownBlock ≠ some g ∧ d.vm.ownBlock ≠ some g
  nc : ∀ g, d.vb.ownBlock = some g → d.vm.ownBlock ≠ some g
theorem SnIs.lt {w : World} {B : Nat} {d : Sn} (h : SnIs w B d) : d.sx < w.heap.size := World.block_lt_of_cell? w _ h.c0
theorem SnIs.keep {w w' : World} {B : Nat} {d : Sn} (h : SnIs w B d) {R : Nat → Prop} (hk : Keeps R w w') (h0 : ¬ R d.sx) (h1 : ∀ g, (d.va.ownBlock = some g ∨ d.vb.ownBlock = some g ∨ d.vm.ownBlock = some g) → ¬ R g) : SnIs w' B d :=
  ⟨(hk.cell h.lt h0).trans h.c0, (hk.cell h.lt h0).trans h.c1, (hk.cell h.lt h0).trans h.c2, (hk.cell h.lt h0).trans h.c3, (hk.cell h.lt h0).trans h.c4, (hk.frozen h.lt h0).trans h.f2, (hk.frozen h.lt h0).trans h.f3, (hk.frozen h.lt h0).trans h.f4, own_keep h.oa hk (fun g hg => h1 g (.inl hg)), own_keep h.ob hk (fun g hg => h1 g (.inr (.inl hg))), own_keep h.om hk (fun g hg => h1 g (.inr (.inr hg))), h.na, h.nb, h.nc⟩
/-- Both sides of a scene, the program's at (cp, xp), the reference's at (cr, xr). -/
structure ScA (X : InPred) (w : World) (o : Nat → Nat) (B : Nat) (d : Sn) (k : Nat) (vls vgs : Nat → Value) (cp : Ce) (xp : Nat → Wk) (cr : Ce) (xr : Nat → Wk) : Prop where
  p : ScP X w o d.t k d.N d.n d.K d.pw cp xp
  r : ScR w o B d.m d.v d.K d.q vls vgs cr xr
  s : SnIs w B d
  os : o d.sx = 3
  ov : ∀ g, (d.va.ownBlock = some g ∨ d.vb.ownBlock = some g ∨ d.vm.ownBlock = some g) → o g = 3
  bs : ScO w o B
  up : ∀ i, o i < 4 + 2 * d.K
section
variable {X : InPred} {w w' : World} {o : Nat → Nat} {B k : Nat} {d : Sn} {vls vgs : Nat → Value} {cp cr : Ce} {xp xr : Nat → Wk}
theorem ScA.own_lt (h : ScA X w o B d k vls vgs cp xp cr xr) {g : Nat} (hg : d.va.ownBlock = some g ∨ d.vb.ownBlock = some g ∨ d.vm.ownBlock = some g) : g < w.heap.size := by
  have := h.ov g hg
  exact (h.bs.ge g (by omega)).2
theorem ScA.below (C : InProg X) (h : ScA X w o B d k vls vgs cp xp cr xr) (hb : Below w.heap.size w w') : ScA X w' o B d k vls vgs cp xp cr xr :=
  ⟨h.p.keep C (R := fun _ => False) (Below.keeps hb) (fun _ _ => id), h.r.keep (R := fun _ => False) (Below.keeps hb) (fun _ _ => id), h.s.keep (R := fun _ => False) (Below.keeps hb) id (fun _ _ => id), h.os, h.ov, h.bs.keep (R := fun _ => False) (Below.keeps hb), h.up⟩
theorem ScA.prog (C : InProg X) (h : ScA X w o B d k vls vgs cp xp cr xr) {j : Nat} (hj : j < d.K) {c' : Ce} {x' : Wk} {k' : Nat} (hx : X w' (More (fun i => o i = 4 + 2 * j) w w') d.t (d.pw j) d.N d.n x') (hb : InBuf w' (fun i => o i = 1) d.t k' d.N c') (hk : Keeps (fun i => o i = 4 + 2 * j ∨ o i = 1) w w') :
    ScA X w' (oNew o w.heap.size w'.heap.size (4 + 2 * j)) B d k' vls vgs c' (wkUpd xp j x') cr xr := by
  refine ⟨h.p.step C h.bs hj hx hb hk, h.r.fresh _ _ (h.r.keep hk (fun i hi => ?_)), h.s.keep hk (by have := h.os; omega) (fun g hg => by have := h.ov g hg; omega), by rw [oNew_old h.s.lt]; exact h.os, fun g hg => by rw [oNew_old (h.own_lt hg)]; exact h.ov g hg, h.bs.new hk _, fun i => ?_⟩
  · rcases hi with hi | ⟨j', _, hi⟩ <;> omega
  · unfold oNew
    by_cases e : w.heap.size ≤ i ∧ i < w'.heap.size
    · rw [if_pos e]; omega
    · rw [if_neg e]; exact h.up i
theorem ScA.ref (C : InProg X) (h : ScA X w o B d k vls vgs cp xp cr xr) {j : Nat} (hj : j < d.K) {c' : Ce} {x' : Wk} (hm : RmIs w w' B d.m d.v c' (d.q j) (vls j) (vgs j) x') :
    ∃ vls' vgs', ScA X w' (oNew o w.heap.size w'.heap.size (5 + 2 * j)) B d k vls' vgs' cp xp c' (wkUpd xr j x') ∧ Keeps (fun i => o i = 2 ∨ o i = 5 + 2 * j) w w' := by
  obtain ⟨vls', vgs', h1, hk⟩ := h.r.step hj hm
  refine ⟨vls', vgs', ⟨ScP.fresh h.bs _ _ ⟨by omega, fun i _ => by omega⟩ (h.p.keep C hk (fun i hi => ?_)), h1, h.s.keep hk (by have := h.os; omega) (fun g hg => by have := h.ov g hg; omega), by rw [oNew_old h.s.lt]; exact h.os, fun g hg => by rw [oNew_old (h.own_lt hg)]; exact h.ov g hg, h.bs.new hk _, fun i => ?_⟩, hk⟩
  · rcases hi with hi | ⟨j', _, hi⟩ <;> omega
  · unfold oNew
    by_cases e : w.heap.size ≤ i ∧ i < w'.heap.size
    · rw [if_pos e]; omega
    · rw [if_neg e]; exact h.up i
theorem sc_disj (j : Nat) : ∀ i, o i = 4 + 2 * j → ¬ o i = 1 := fun i h1 h2 => by omega
end
theorem row_at {w : World} {B K j : Nat} {T : TypeId} {u : Value} {f : Nat → Option Nat} (h : w.ownsRow B T 1 u K (ptrsV f K)) (hj : j < K) : ∃ g cap, u = .slice (some ⟨g, 0, none⟩) K cap ∧ w.cell? ⟨g, j, none⟩ = some (ptrV (f j)) := by
  obtain ⟨g, cap, rfl, _, _⟩ := own_form h (by omega)
  exact ⟨g, cap, rfl, by rw [h.cellAt j (by omega), ptrsV_get _ _ _ hj]⟩
set_option maxHeartbeats 1000000 in
/-- The scene's move: the program's of one of them. -/
theorem sc_move {X : InPred} (C : InProg X) {w : World} {o : Nat → Nat} {B k : Nat} {d : Sn} {vls vgs : Nat → Value} {cp cr : Ce} {xp xr : Nat → Wk} (h : ScA X w o B d k vls vgs cp xp cr xr) {j : Nat} (hj : j < d.K) (hc : CeOk d.N cp) (hx : WkOk d.N (xp j)) (hrd : (xp j).rd = d.rd j) (hrr : (xr j).rd = d.rd j) (hk : k ≤ 100000) (hh : (xp j).holds = true → cp.lk = true ∧ (xp j).tk = cp.ct) :
    Calls Try.prog 8 #[.pointer (some ⟨d.sx, 0, none⟩), .int .i64 (j : Int)] w fun e w' => e = .returned (.tuple #[.int .i64 ((wkMove cp (xp j)).1 : Int), .int .i64 0]) ∧ ScA X w' (oNew o w.heap.size w'.heap.size (4 + 2 * j)) B d (k + 1) vls vgs (wkMove cp (xp j)).2.1 (wkUpd xp j (wkMove cp (xp j)).2.2) cr xr ∧ Keeps (fun i => o i = 4 + 2 * j ∨ o i = 1) w w' := by
  have c2 := h.s.c2
  have c3 := h.s.c3
  have c4 := h.s.c4
  obtain ⟨ga, ca, ea, ra⟩ := row_at h.s.oa hj
  obtain ⟨gb, cb, eb, rb⟩ := row_at h.s.ob hj
  obtain ⟨gm, cm, em, rm⟩ := row_at h.s.om hj
  have q0 : w.cell? ⟨d.q j, 0, none⟩ = some (.bool (d.rd j)) := by rw [← hrr]; exact (h.r.rf j hj).cs 0 (by omega)
  rw [ea] at c2
  rw [eb] at c3
  rw [em] at c4
  have hj6 : (j : Int) < (d.K : Int) := by omega
  have hX := h.p.pr j hj
  have HP : Hid (∀ w', X w' (More (fun i => o i = 4 + 2 * j) w w') d.t (d.pw j) d.N d.n (wkMove cp (xp j)).2.2 → InBuf w' (fun i => o i = 1) d.t (k + 1) d.N (wkMove cp (xp j)).2.1 → Keeps (fun i => o i = 4 + 2 * j ∨ o i = 1) w w' → _) := fun w' a b c => h.prog C hj a b c
  cases hr : d.rd j with
  | true =>
    have HM := hide (C.moveR hX h.p.buf (sc_disj j) hc hx (by rw [hrd, hr]) hk)
    rw [hr] at q0
    have rb' : w.cell? ⟨gb, j, none⟩ = some (.pointer (some ⟨d.pw j, 0, none⟩)) := by rw [rb]; unfold Sn.fb; rw [if_pos hr]; rfl
    have rm' : w.cell? ⟨gm, j, none⟩ = some (.pointer (some ⟨d.q j, 0, none⟩)) := rm
    clear h hX ra rb rm ea eb em hc hx hrd hrr hh hr
    generalize (wkMove cp (xp j)).1 = r at *
    generalize d.q j = q at *
    generalize d.K = K at *
    go_enter Try.func8, Try.ntmps8
    go_wp2_with fail
    refine HM.out.mono ?_
    rintro e y ⟨rfl, h1, h2, h3⟩
    have HR := hide (HP.out y h1 h2 h3)
    have HK := hide h3
    clear h1 h2 h3 HP HM
    go_wp2
    go_ret2
    exact ⟨rfl, HR.out, HK.out⟩
  | false =>
    have HM := hide (C.moveW hX h.p.buf (sc_disj j) hc hx (by rw [hrd, hr]) hk hh)
    rw [hr] at q0
    have ra' : w.cell? ⟨ga, j, none⟩ = some (.pointer (some ⟨d.pw j, 0, none⟩)) := by rw [ra]; unfold Sn.fa; rw [if_neg (by rw [hr]; decide)]; rfl
    have rm' : w.cell? ⟨gm, j, none⟩ = some (.pointer (some ⟨d.q j, 0, none⟩)) := rm
    clear h hX ra rb rm ea eb em hc hx hrd hrr hh hr
    generalize (wkMove cp (xp j)).1 = r at *
    generalize d.q j = q at *
    generalize d.K = K at *
    go_enter Try.func8, Try.ntmps8
    go_wp2_with fail
    refine HM.out.mono ?_
    rintro e y ⟨rfl, h1, h2, h3⟩
    have HR := hide (HP.out y h1 h2 h3)
    have HK := hide h3
    clear h1 h2 h3 HP HM
    go_wp2
    go_ret2
    exact ⟨rfl, HR.out, HK.out⟩
set_option maxHeartbeats 1000000 in
/-- The scene's words: the value as it stands in the program's buffer. -/
theorem sc_words {X : InPred} {w : World} {o : Nat → Nat} {B k : Nat} {d : Sn} {vls vgs : Nat → Value} {cp cr : Ce} {xp xr : Nat → Wk} (h : ScA X w o B d k vls vgs cp xp cr xr) (hc : cr.l.length = d.N) :
    Calls Try.prog 11 #[.pointer (some ⟨d.sx, 0, none⟩)] w fun e w' => ∃ ao cap, e = .returned (.slice ao d.N cap) ∧ Sl .u64 w' ao d.N (fun j => (cp.l.getD j 0 : Int)) ∧ Below w.heap.size w w' := by
  have c0 := h.s.c0
  have c1 := h.s.c1
  have q2 := h.r.ce.c2
  obtain ⟨ao, cap, ev, _⟩ := own_slice h.r.ce.own
  rw [ev, hc] at q2
  have hN := h.p.buf.few
  by_cases h0 : d.N = 0
  · rw [h0] at q2
    clear h
    generalize d.N = N at *
    go_enter Try.func11, Try.ntmps11
    go_wp2
    go_ret
    exact ⟨none, 0, by rw [h0]; rfl, fun j hj => by omega, Below.refl _ _⟩
  · have HW := hide (fun n => inb_words (w := w.drewN n) (h.p.buf.keep (R := fun _ => False) (Below.keeps (below_drewN (Below.refl _ _) n)) (fun _ _ => id)) (by omega))
    have h1 : ((d.N : Int) == 0) = false := by rw [beq_eq_false_iff_ne]; omega
    have h2 : ¬ (d.N : Int) = 0 := by omega
    have HQ : Hid (∀ z, Below (w.drewN 1).heap.size (w.drewN 1) z → z.cell? ⟨d.sx, 0, none⟩ = some (.pointer (some ⟨d.t, 0, none⟩)) ∧ z.cell? ⟨d.sx, 1, none⟩ = some (.pointer (some ⟨d.m, 0, none⟩)) ∧ z.cell? ⟨d.m, 2, none⟩ = some (.slice ao d.N cap)) := fun z hb => by
      have l1 : d.sx < w.heap.size := World.block_lt_of_cell? w _ c0
      have l2 : d.m < w.heap.size := World.block_lt_of_cell? w _ q2
      exact ⟨(hb.cell (p := ⟨d.sx, 0, none⟩) l1).trans c0, (hb.cell (p := ⟨d.sx, 1, none⟩) l1).trans c1, (hb.cell (p := ⟨d.m, 2, none⟩) l2).trans q2⟩
    clear h
    generalize d.N = N at *
    go_enter Try.func11, Try.ntmps11
    go_wp2_with fail
    go_region_held3 (fun W => W.cell? ⟨d.sx, 0, none⟩ = some (.pointer (some ⟨d.t, 0, none⟩)) ∧ W.cell? ⟨d.sx, 1, none⟩ = some (.pointer (some ⟨d.m, 0, none⟩)) ∧ W.cell? ⟨d.m, 2, none⟩ = some (.slice ao N cap)) (first | assumption | go_keep) (first | (go_at_call 30; refine (HW.out 1).mono ?_; rintro e z ⟨b, rfl, hs, hb⟩; have q3 := HQ.out z hb))
    have BB := (below_drewN (Below.refl w.heap.size w) 1).trans (hb.mono (by simp))
    go_wp2
    go_ret
    exact ⟨_, _, rfl, hs, BB⟩
end Go.Proofs.Ytikpphbgjbfddaa
namespace Go.Proofs.Ytikpphbgjbfddaa
set_option maxRecDepth 20000
open Go.RowKit
theorem Try.infoPW : (Try.prog.info? 51).map (fun i => (i.zero, i.size, i.bytes)) = some (some (.pointer none), 1, 8) := by kernel_rfl
theorem Try.infoPR : (Try.prog.info? 49).map (fun i => (i.zero, i.size, i.bytes)) = some (some (.pointer none), 1, 8) := by kernel_rfl
theorem Try.infoPM : (Try.prog.info? 38).map (fun i => (i.zero, i.size, i.bytes)) = some (some (.pointer none), 1, 8) := by kernel_rfl
theorem one_ptr {p : Option Nat} : ∀ u ∈ [ptrV p], u.oneCell' = true := by
  intro u hu; simp at hu; subst hu; cases p <;> rfl
/-- A scene whose rows may be of different lengths. -/
structure Sn3 (w : World) (B sx t m : Nat) (va vb vm : Value) (la lb lm : List Value) : Prop where
  c0 : w.cell? ⟨sx, 0, none⟩ = some (.pointer (some ⟨t, 0, none⟩))
  c1 : w.cell? ⟨sx, 1, none⟩ = some (.pointer (some ⟨m, 0, none⟩))
  c2 : w.cell? ⟨sx, 2, none⟩ = some va
  c3 : w.cell? ⟨sx, 3, none⟩ = some vb
  c4 : w.cell? ⟨sx, 4, none⟩ = some vm
  f2 : w.frozen? ⟨sx, 2, none⟩ = false
  f3 : w.frozen? ⟨sx, 3, none⟩ = false
  f4 : w.frozen? ⟨sx, 4, none⟩ = false
  oa : w.ownsRow B 51 1 va la.length la
  ob : w.ownsRow B 49 1 vb lb.length lb
  om : w.ownsRow B 38 1 vm lm.length lm
  na : va.ownBlock ≠ some sx ∧ vb.ownBlock ≠ some sx ∧ vm.ownBlock ≠ some sx
  nb : ∀ g, va.ownBlock = some g → vb.ownBlock ≠ some g ∧ vm.ownBlock ≠ some g
  nc : ∀ g, vb.ownBlock = some g → vm.ownBlock ≠ some g
theorem Sn3.lt {w : World} {B sx t m : Nat} {va vb vm : Value} {la lb lm : List Value} (h : Sn3 w B sx t m va vb vm la lb lm) : sx < w.heap.size := World.block_lt_of_cell? w _ h.c0
theorem Sn3.below {w w' : World} {B sx t m : Nat} {va vb vm : Value} {la lb lm : List Value} (h : Sn3 w B sx t m va vb vm la lb lm) (hb : Below w.heap.size w w') : Sn3 w' B sx t m va vb vm la lb lm :=
  ⟨(hb.cell h.lt).trans h.c0, (hb.cell h.lt).trans h.c1, (hb.cell h.lt).trans h.c2, (hb.cell h.lt).trans h.c3, (hb.cell h.lt).trans h.c4, (hb.frozen h.lt).trans h.f2, (hb.frozen h.lt).trans h.f3, (hb.frozen h.lt).trans h.f4, own_below h.oa hb, own_below h.ob hb, own_below h.om hb, h.na, h.nb, h.nc⟩
theorem SnIs.three {w : World} {B : Nat} {d : Sn} (h : SnIs w B d) : Sn3 w B d.sx d.t d.m d.va d.vb d.vm (ptrsV d.fa d.K) (ptrsV d.fb d.K) (ptrsV d.fm d.K) :=
  ⟨h.c0, h.c1, h.c2, h.c3, h.c4, h.f2, h.f3, h.f4, by rw [ptrsV_length]; exact h.oa, by rw [ptrsV_length]; exact h.ob, by rw [ptrsV_length]; exact h.om, h.na, h.nb, h.nc⟩
theorem Sn3.one {w : World} {B : Nat} {d : Sn} (h : Sn3 w B d.sx d.t d.m d.va d.vb d.vm (ptrsV d.fa d.K) (ptrsV d.fb d.K) (ptrsV d.fm d.K)) : SnIs w B d :=
  ⟨h.c0, h.c1, h.c2, h.c3, h.c4, h.f2, h.f3, h.f4, by have := h.oa; rw [ptrsV_length] at this; exact this, by have := h.ob; rw [ptrsV_length] at this; exact this, by have := h.om; rw [ptrsV_length] at this; exact this, h.na, h.nb, h.nc⟩

theorem Sn3.pushA {w z w1 : World} {B sx t m : Nat} {va vb vm : Value} {la lb lm : List Value} (h : Sn3 w B sx t m va vb vm la lb lm) (hz : Below w.heap.size w z) {g cap : Nat} {u v1 : Value} (hv : v1 = .slice (some ⟨g, 0, none⟩) (la.length + 1) cap)
    (ho : w1.ownsRow B 51 1 v1 (la.length + 1) (la ++ [u])) (hgr : z.grownBy w1 va.ownBlock) (hat : va.ownBlock = some g ∨ g = w.heap.size + 1) :
    (w1.cell? ⟨sx, 2, none⟩ = some va ∧ w1.frozen? ⟨sx, 2, none⟩ = false) ∧ Sn3 (w1.setCell ⟨sx, 2, none⟩ v1) B sx t m v1 vb vm (la ++ [u]) lb lm ∧ Keeps (fun k => k = sx ∨ va.ownBlock = some k) w (w1.setCell ⟨sx, 2, none⟩ v1) ∧ (∀ k, v1.ownBlock = some k → va.ownBlock = some k ∨ w.heap.size ≤ k ∧ k < (w1.setCell ⟨sx, 2, none⟩ v1).heap.size) := by
  have K1 : Keeps (fun k => va.ownBlock = some k) w w1 := (Below.keeps (S := fun k => va.ownBlock = some k) hz).trans ((Keeps.refl (fun k => va.ownBlock = some k) z).grown hgr (fun k hk _ => hk)) (fun _ _ t => t)
  have K2 : Keeps (fun k => k = sx) w1 (w1.setCell ⟨sx, 2, none⟩ v1) := (Keeps.refl (fun k => k = sx) w1).setCell _ (fun _ => rfl) _
  have hl := h.lt
  have ns : ¬ va.ownBlock = some sx := h.na.1
  have gl : ∀ (T : TypeId) (v : Value) (l : List Value), w.ownsRow B T 1 v l.length l → ∀ k, v.ownBlock = some k → k < w.heap.size := fun T v l ho k hk => (World.ownsRow.lt ho k hk).2
  have hg1 : g < w1.heap.size := by subst hv; exact (World.ownsRow.lt ho g rfl).2
  have hv1 : v1.ownBlock = some g := by subst hv; rfl
  have gs : g ≠ sx := fun e => by rcases hat with e1 | e1; exact ns (by rw [← e]; exact e1); omega
  have nb : ∀ k, vb.ownBlock = some k → ¬ va.ownBlock = some k := fun k hk e => (h.nb k e).1 hk
  have mb : vb.ownBlock ≠ some g := fun hk => by
    rcases hat with e1 | e1
    · exact nb g hk e1
    · have := gl _ _ _ h.ob g hk; omega
  have kb : ∀ k, vb.ownBlock = some k → ¬ k = sx := fun k hk e => h.na.2.1 (by rw [← e]; exact hk)
  have nm : ∀ k, vm.ownBlock = some k → ¬ va.ownBlock = some k := fun k hk e => (h.nb k e).2 hk
  have mm : vm.ownBlock ≠ some g := fun hk => by
    rcases hat with e1 | e1
    · exact nm g hk e1
    · have := gl _ _ _ h.om g hk; omega
  have km : ∀ k, vm.ownBlock = some k → ¬ k = sx := fun k hk e => h.na.2.2 (by rw [← e]; exact hk)
  refine ⟨⟨(K1.cell (p := ⟨sx, 2, none⟩) hl ns).trans h.c2, (K1.frozen (p := ⟨sx, 2, none⟩) hl ns).trans h.f2⟩, ⟨(cell_set_off _ _ _ _ (by decide)).trans ((K1.cell (p := ⟨sx, 0, none⟩) hl ns).trans h.c0), (cell_set_off _ _ _ _ (by decide)).trans ((K1.cell (p := ⟨sx, 1, none⟩) hl ns).trans h.c1), World.cell?_setCell_same _ _ _ ((K1.cell (p := ⟨sx, 2, none⟩) hl ns).trans h.c2), (cell_set_off _ _ _ _ (by decide)).trans ((K1.cell (p := ⟨sx, 3, none⟩) hl ns).trans h.c3), (cell_set_off _ _ _ _ (by decide)).trans ((K1.cell (p := ⟨sx, 4, none⟩) hl ns).trans h.c4), by rw [World.frozen?_setCell]; exact (K1.frozen (p := ⟨sx, 2, none⟩) hl ns).trans h.f2, by rw [World.frozen?_setCell]; exact (K1.frozen (p := ⟨sx, 3, none⟩) hl ns).trans h.f3, by rw [World.frozen?_setCell]; exact (K1.frozen (p := ⟨sx, 4, none⟩) hl ns).trans h.f4, (by have := own_keep ho K2 (fun k hk e => by rw [hv1] at hk; cases hk; exact gs e); rw [List.length_append]; exact this), own_keep (own_keep h.ob K1 nb) K2 kb, own_keep (own_keep h.om K1 nm) K2 km, ⟨fun e => by rw [hv1] at e; cases e; exact gs rfl, h.na.2.1, h.na.2.2⟩, fun k hk => by rw [hv1] at hk; cases hk; exact ⟨mb, mm⟩, h.nc⟩, (K1.wider (T := fun k => k = sx ∨ va.ownBlock = some k) (fun i _ hi => .inr hi)).trans K2 (fun i _ hi => .inl hi), fun k hk => ?_⟩
  rw [hv1] at hk
  cases hk
  rcases hat with e1 | e1
  · exact .inl e1
  · exact .inr ⟨by omega, by simpa using hg1⟩

theorem Sn3.pushB {w z w1 : World} {B sx t m : Nat} {va vb vm : Value} {la lb lm : List Value} (h : Sn3 w B sx t m va vb vm la lb lm) (hz : Below w.heap.size w z) {g cap : Nat} {u v1 : Value} (hv : v1 = .slice (some ⟨g, 0, none⟩) (lb.length + 1) cap)
    (ho : w1.ownsRow B 49 1 v1 (lb.length + 1) (lb ++ [u])) (hgr : z.grownBy w1 vb.ownBlock) (hat : vb.ownBlock = some g ∨ g = w.heap.size + 1) :
    (w1.cell? ⟨sx, 3, none⟩ = some vb ∧ w1.frozen? ⟨sx, 3, none⟩ = false) ∧ Sn3 (w1.setCell ⟨sx, 3, none⟩ v1) B sx t m va v1 vm la (lb ++ [u]) lm ∧ Keeps (fun k => k = sx ∨ vb.ownBlock = some k) w (w1.setCell ⟨sx, 3, none⟩ v1) ∧ (∀ k, v1.ownBlock = some k → vb.ownBlock = some k ∨ w.heap.size ≤ k ∧ k < (w1.setCell ⟨sx, 3, none⟩ v1).heap.size) := by
  have K1 : Keeps (fun k => vb.ownBlock = some k) w w1 := (Below.keeps (S := fun k => vb.ownBlock = some k) hz).trans ((Keeps.refl (fun k => vb.ownBlock = some k) z).grown hgr (fun k hk _ => hk)) (fun _ _ t => t)
  have K2 : Keeps (fun k => k = sx) w1 (w1.setCell ⟨sx, 3, none⟩ v1) := (Keeps.refl (fun k => k = sx) w1).setCell _ (fun _ => rfl) _
  have hl := h.lt
  have ns : ¬ vb.ownBlock = some sx := h.na.2.1
  have gl : ∀ (T : TypeId) (v : Value) (l : List Value), w.ownsRow B T 1 v l.length l → ∀ k, v.ownBlock = some k → k < w.heap.size := fun T v l ho k hk => (World.ownsRow.lt ho k hk).2
  have hg1 : g < w1.heap.size := by subst hv; exact (World.ownsRow.lt ho g rfl).2
  have hv1 : v1.ownBlock = some g := by subst hv; rfl
  have gs : g ≠ sx := fun e => by rcases hat with e1 | e1; exact ns (by rw [← e]; exact e1); omega
  have na : ∀ k, va.ownBlock = some k → ¬ vb.ownBlock = some k := fun k hk e => (h.nb k hk).1 e
  have ma : va.ownBlock ≠ some g := fun hk => by
    rcases hat with e1 | e1
    · exact na g hk e1
    · have := gl _ _ _ h.oa g hk; omega
  have ka : ∀ k, va.ownBlock = some k → ¬ k = sx := fun k hk e => h.na.1 (by rw [← e]; exact hk)
  have nm : ∀ k, vm.ownBlock = some k → ¬ vb.ownBlock = some k := fun k hk e => h.nc k e hk
  have mm : vm.ownBlock ≠ some g := fun hk => by
    rcases hat with e1 | e1
    · exact nm g hk e1
    · have := gl _ _ _ h.om g hk; omega
  have km : ∀ k, vm.ownBlock = some k → ¬ k = sx := fun k hk e => h.na.2.2 (by rw [← e]; exact hk)
  refine ⟨⟨(K1.cell (p := ⟨sx, 3, none⟩) hl ns).trans h.c3, (K1.frozen (p := ⟨sx, 3, none⟩) hl ns).trans h.f3⟩, ⟨(cell_set_off _ _ _ _ (by decide)).trans ((K1.cell (p := ⟨sx, 0, none⟩) hl ns).trans h.c0), (cell_set_off _ _ _ _ (by decide)).trans ((K1.cell (p := ⟨sx, 1, none⟩) hl ns).trans h.c1), (cell_set_off _ _ _ _ (by decide)).trans ((K1.cell (p := ⟨sx, 2, none⟩) hl ns).trans h.c2), World.cell?_setCell_same _ _ _ ((K1.cell (p := ⟨sx, 3, none⟩) hl ns).trans h.c3), (cell_set_off _ _ _ _ (by decide)).trans ((K1.cell (p := ⟨sx, 4, none⟩) hl ns).trans h.c4), by rw [World.frozen?_setCell]; exact (K1.frozen (p := ⟨sx, 2, none⟩) hl ns).trans h.f2, by rw [World.frozen?_setCell]; exact (K1.frozen (p := ⟨sx, 3, none⟩) hl ns).trans h.f3, by rw [World.frozen?_setCell]; exact (K1.frozen (p := ⟨sx, 4, none⟩) hl ns).trans h.f4, own_keep (own_keep h.oa K1 na) K2 ka, (by have := own_keep ho K2 (fun k hk e => by rw [hv1] at hk; cases hk; exact gs e); rw [List.length_append]; exact this), own_keep (own_keep h.om K1 nm) K2 km, ⟨h.na.1, fun e => by rw [hv1] at e; cases e; exact gs rfl, h.na.2.2⟩, fun k hk => ⟨fun e => by rw [hv1] at e; cases e; exact ma hk, (h.nb k hk).2⟩, fun k hk => by rw [hv1] at hk; cases hk; exact mm⟩, (K1.wider (T := fun k => k = sx ∨ vb.ownBlock = some k) (fun i _ hi => .inr hi)).trans K2 (fun i _ hi => .inl hi), fun k hk => ?_⟩
  rw [hv1] at hk
  cases hk
  rcases hat with e1 | e1
  · exact .inl e1
  · exact .inr ⟨by omega, by simpa using hg1⟩

theorem Sn3.pushM {w z w1 : World} {B sx t m : Nat} {va vb vm : Value} {la lb lm : List Value} (h : Sn3 w B sx t m va vb vm la lb lm) (hz : Below w.heap.size w z) {g cap : Nat} {u v1 : Value} (hv : v1 = .slice (some ⟨g, 0, none⟩) (lm.length + 1) cap)
    (ho : w1.ownsRow B 38 1 v1 (lm.length + 1) (lm ++ [u])) (hgr : z.grownBy w1 vm.ownBlock) (hat : vm.ownBlock = some g ∨ g = w.heap.size + 1) :
    (w1.cell? ⟨sx, 4, none⟩ = some vm ∧ w1.frozen? ⟨sx, 4, none⟩ = false) ∧ Sn3 (w1.setCell ⟨sx, 4, none⟩ v1) B sx t m va vb v1 la lb (lm ++ [u]) ∧ Keeps (fun k => k = sx ∨ vm.ownBlock = some k) w (w1.setCell ⟨sx, 4, none⟩ v1) ∧ (∀ k, v1.ownBlock = some k → vm.ownBlock = some k ∨ w.heap.size ≤ k ∧ k < (w1.setCell ⟨sx, 4, none⟩ v1).heap.size) := by
  have K1 : Keeps (fun k => vm.ownBlock = some k) w w1 := (Below.keeps (S := fun k => vm.ownBlock = some k) hz).trans ((Keeps.refl (fun k => vm.ownBlock = some k) z).grown hgr (fun k hk _ => hk)) (fun _ _ t => t)
  have K2 : Keeps (fun k => k = sx) w1 (w1.setCell ⟨sx, 4, none⟩ v1) := (Keeps.refl (fun k => k = sx) w1).setCell _ (fun _ => rfl) _
  have hl := h.lt
  have ns : ¬ vm.ownBlock = some sx := h.na.2.2
  have gl : ∀ (T : TypeId) (v : Value) (l : List Value), w.ownsRow B T 1 v l.length l → ∀ k, v.ownBlock = some k → k < w.heap.size := fun T v l ho k hk => (World.ownsRow.lt ho k hk).2
  have hg1 : g < w1.heap.size := by subst hv; exact (World.ownsRow.lt ho g rfl).2
  have hv1 : v1.ownBlock = some g := by subst hv; rfl
  have gs : g ≠ sx := fun e => by rcases hat with e1 | e1; exact ns (by rw [← e]; exact e1); omega
  have na : ∀ k, va.ownBlock = some k → ¬ vm.ownBlock = some k := fun k hk e => (h.nb k hk).2 e
  have ma : va.ownBlock ≠ some g := fun hk => by
    rcases hat with e1 | e1
    · exact na g hk e1
    · have := gl _ _ _ h.oa g hk; omega
  have ka : ∀ k, va.ownBlock = some k → ¬ k = sx := fun k hk e => h.na.1 (by rw [← e]; exact hk)
  have nb : ∀ k, vb.ownBlock = some k → ¬ vm.ownBlock = some k := fun k hk e => h.nc k hk e
  have mb : vb.ownBlock ≠ some g := fun hk => by
    rcases hat with e1 | e1
    · exact nb g hk e1
    · have := gl _ _ _ h.ob g hk; omega
  have kb : ∀ k, vb.ownBlock = some k → ¬ k = sx := fun k hk e => h.na.2.1 (by rw [← e]; exact hk)
  refine ⟨⟨(K1.cell (p := ⟨sx, 4, none⟩) hl ns).trans h.c4, (K1.frozen (p := ⟨sx, 4, none⟩) hl ns).trans h.f4⟩, ⟨(cell_set_off _ _ _ _ (by decide)).trans ((K1.cell (p := ⟨sx, 0, none⟩) hl ns).trans h.c0), (cell_set_off _ _ _ _ (by decide)).trans ((K1.cell (p := ⟨sx, 1, none⟩) hl ns).trans h.c1), (cell_set_off _ _ _ _ (by decide)).trans ((K1.cell (p := ⟨sx, 2, none⟩) hl ns).trans h.c2), (cell_set_off _ _ _ _ (by decide)).trans ((K1.cell (p := ⟨sx, 3, none⟩) hl ns).trans h.c3), World.cell?_setCell_same _ _ _ ((K1.cell (p := ⟨sx, 4, none⟩) hl ns).trans h.c4), by rw [World.frozen?_setCell]; exact (K1.frozen (p := ⟨sx, 2, none⟩) hl ns).trans h.f2, by rw [World.frozen?_setCell]; exact (K1.frozen (p := ⟨sx, 3, none⟩) hl ns).trans h.f3, by rw [World.frozen?_setCell]; exact (K1.frozen (p := ⟨sx, 4, none⟩) hl ns).trans h.f4, own_keep (own_keep h.oa K1 na) K2 ka, own_keep (own_keep h.ob K1 nb) K2 kb, (by have := own_keep ho K2 (fun k hk e => by rw [hv1] at hk; cases hk; exact gs e); rw [List.length_append]; exact this), ⟨h.na.1, h.na.2.1, fun e => by rw [hv1] at e; cases e; exact gs rfl⟩, fun k hk => ⟨(h.nb k hk).1, fun e => by rw [hv1] at e; cases e; exact ma hk⟩, fun k hk e => by rw [hv1] at e; cases e; exact mb hk⟩, (K1.wider (T := fun k => k = sx ∨ vm.ownBlock = some k) (fun i _ hi => .inr hi)).trans K2 (fun i _ hi => .inl hi), fun k hk => ?_⟩
  rw [hv1] at hk
  cases hk
  rcases hat with e1 | e1
  · exact .inl e1
  · exact .inr ⟨by omega, by simpa using hg1⟩
end Go.Proofs.Ytikpphbgjbfddaa
namespace Go.Proofs.Ytikpphbgjbfddaa
set_option maxRecDepth 20000
open Go.RowKit
/-- One more of them. -/
def Sn.add (d : Sn) (va vb vm : Value) (p q : Nat) (r : Bool) : Sn := { d with K := d.K + 1, va := va, vb := vb, vm := vm, pw := fun j => if j = d.K then p else d.pw j, q := fun j => if j = d.K then q else d.q j, rd := fun j => if j = d.K then r else d.rd j }
def wkPut (xs : Nat → Wk) (K : Nat) (x : Wk) : Nat → Wk := fun j => if j = K then x else xs j
theorem wkPut_same (xs : Nat → Wk) (K : Nat) (x : Wk) : wkPut xs K x K = x := if_pos rfl
theorem wkPut_ne {xs : Nat → Wk} {K j : Nat} {x : Wk} (h : j ≠ K) : wkPut xs K x j = xs j := if_neg h
theorem Sn.add_fa (d : Sn) (va vb vm : Value) (p q : Nat) (r : Bool) : ptrsV (d.add va vb vm p q r).fa (d.K + 1) = ptrsV d.fa d.K ++ [ptrV (if r = true then none else some p)] := by
  rw [ptrsV_snoc]
  congr 1
  · exact ptrsV_congr fun j hj => by simp [Sn.fa, Sn.add, Nat.ne_of_lt hj]
  · simp [Sn.fa, Sn.add]
theorem Sn.add_fb (d : Sn) (va vb vm : Value) (p q : Nat) (r : Bool) : ptrsV (d.add va vb vm p q r).fb (d.K + 1) = ptrsV d.fb d.K ++ [ptrV (if r = true then some p else none)] := by
  rw [ptrsV_snoc]
  congr 1
  · exact ptrsV_congr fun j hj => by simp [Sn.fb, Sn.add, Nat.ne_of_lt hj]
  · simp [Sn.fb, Sn.add]
theorem Sn.add_fm (d : Sn) (va vb vm : Value) (p q : Nat) (r : Bool) : ptrsV (d.add va vb vm p q r).fm (d.K + 1) = ptrsV d.fm d.K ++ [ptrV (some q)] := by
  rw [ptrsV_snoc]
  congr 1
  · exact ptrsV_congr fun j hj => by simp [Sn.fm, Sn.add, Nat.ne_of_lt hj]
  · simp [Sn.fm, Sn.add]
open Classical in
/-- The owners behind it. -/
noncomputable def oAdd (o : Nat → Nat) (M Q Z : Nat → Prop) (K : Nat) : Nat → Nat := fun i => if M i then 4 + 2 * K else if Q i then 5 + 2 * K else if Z i then 3 else o i
section
variable {X : InPred} {w y : World} {o : Nat → Nat} {B k : Nat} {d : Sn} {vls vgs : Nat → Value} {c : Ce} {xs : Nat → Wk}
theorem ScA.push (C : InProg X) (h : ScA X w o B d k vls vgs c xs c xs) {M : Nat → Prop} {p q : Nat} {x : Wk} {vl vg va vb vm : Value}
    (hk : Keeps (fun i => i = d.sx ∨ d.va.ownBlock = some i ∨ d.vb.ownBlock = some i ∨ d.vm.ownBlock = some i) w y)
    (hs : Sn3 y B d.sx d.t d.m va vb vm (ptrsV d.fa d.K ++ [ptrV (if x.rd = true then none else some p)]) (ptrsV d.fb d.K ++ [ptrV (if x.rd = true then some p else none)]) (ptrsV d.fm d.K ++ [ptrV (some q)]))
    (hx : X y M d.t p d.N d.n x) (hM : ∀ i, M i → w.heap.size ≤ i ∧ i < y.heap.size)
    (hr : RwIs y B q vl vg x) (hq : w.heap.size ≤ q ∧ ¬ M q) (hl : ∀ g, vl.ownBlock = some g → w.heap.size ≤ g ∧ ¬ M g) (hg : ∀ g, vg.ownBlock = some g → w.heap.size ≤ g ∧ ¬ M g) (hlg : ∀ g, vl.ownBlock = some g → vg.ownBlock ≠ some g)
    (hz : ∀ g, (va.ownBlock = some g ∨ vb.ownBlock = some g ∨ vm.ownBlock = some g) → (d.va.ownBlock = some g ∨ d.vb.ownBlock = some g ∨ d.vm.ownBlock = some g) ∨ (w.heap.size ≤ g ∧ g < y.heap.size ∧ ¬ M g ∧ g ≠ q ∧ vl.ownBlock ≠ some g ∧ vg.ownBlock ≠ some g)) :
    ∃ o', ScA X y o' B (d.add va vb vm p q x.rd) k (fun j => if j = d.K then vl else vls j) (fun j => if j = d.K then vg else vgs j) c (wkPut xs d.K x) c (wkPut xs d.K x) := by
  have hup := h.up
  obtain ⟨Q, HQ⟩ : ∃ Q : Nat → Prop, Q = fun i => i = q ∨ vl.ownBlock = some i ∨ vg.ownBlock = some i := ⟨_, rfl⟩
  obtain ⟨Z, HZ⟩ : ∃ Z : Nat → Prop, Z = fun i => va.ownBlock = some i ∨ vb.ownBlock = some i ∨ vm.ownBlock = some i := ⟨_, rfl⟩
  have hQ : ∀ i, Q i → w.heap.size ≤ i ∧ ¬ M i := fun i e => by
    subst HQ
    rcases e with e | e | e
    · subst e; exact hq
    · exact hl i e
    · exact hg i e
  have hZ : ∀ i, Z i → (i < w.heap.size ∧ o i = 3) ∨ (w.heap.size ≤ i ∧ i < y.heap.size ∧ ¬ M i ∧ ¬ Q i) := fun i e => by
    subst HZ
    rcases hz i e with e1 | ⟨a1, a2, a3, a4, a5, a6⟩
    · exact .inl ⟨h.own_lt e1, h.ov i e1⟩
    · refine .inr ⟨a1, a2, a3, fun e => ?_⟩
      subst HQ
      rcases e with e | e | e
      · exact a4 e
      · exact a5 e
      · exact a6 e
  have old : ∀ i, i < w.heap.size → oAdd o M Q Z d.K i = o i := fun i hi => by
    unfold oAdd
    rw [if_neg (fun e => by have := hM i e; omega), if_neg (fun e => by have := hQ i e; omega)]
    by_cases e : Z i
    · rw [if_pos e]
      rcases hZ i e with e1 | e1
      · exact e1.2.symm
      · omega
    · rw [if_neg e]
  have zero : ∀ i, w.heap.size ≤ i → o i = 0 := fun i hi => by
    rcases Nat.eq_zero_or_pos (o i) with e | e
    · exact e
    · have := (h.bs.ge i (by omega)).2; omega
  have new : ∀ i, w.heap.size ≤ i → (M i ∧ oAdd o M Q Z d.K i = 4 + 2 * d.K) ∨ (¬ M i ∧ Q i ∧ oAdd o M Q Z d.K i = 5 + 2 * d.K) ∨ (¬ M i ∧ ¬ Q i ∧ Z i ∧ oAdd o M Q Z d.K i = 3) ∨ (¬ M i ∧ ¬ Q i ∧ ¬ Z i ∧ oAdd o M Q Z d.K i = 0) := fun i hi => by
    unfold oAdd
    by_cases e1 : M i
    · rw [if_pos e1]; exact .inl ⟨e1, rfl⟩
    · rw [if_neg e1]
      by_cases e2 : Q i
      · rw [if_pos e2]; exact .inr (.inl ⟨e1, e2, rfl⟩)
      · rw [if_neg e2]
        by_cases e3 : Z i
        · rw [if_pos e3]; exact .inr (.inr (.inl ⟨e1, e2, e3, rfl⟩))
        · rw [if_neg e3]; exact .inr (.inr (.inr ⟨e1, e2, e3, zero i hi⟩))
  generalize oAdd o M Q Z d.K = o' at old new
  have same : ∀ s, s ≠ 0 → s ≠ 3 → s < 4 + 2 * d.K → (fun i => o' i = s) = fun i => o i = s := fun s h0 h3 hlt => by
    funext i
    apply propext
    rcases Nat.lt_or_ge i w.heap.size with e | e
    · rw [old i e]
    · rw [zero i e]
      rcases new i e with ⟨_, e⟩ | ⟨_, _, e⟩ | ⟨_, _, _, e⟩ | ⟨_, _, _, e⟩ <;> rw [e] <;> omega
  have mine : (fun i => o' i = 4 + 2 * d.K) = M := by
    funext i
    apply propext
    rcases Nat.lt_or_ge i w.heap.size with e | e
    · rw [old i e]
      have := hup i
      exact ⟨fun e' => by omega, fun e' => by have := hM i e'; omega⟩
    · rcases new i e with ⟨a, e⟩ | ⟨a, _, e⟩ | ⟨a, _, _, e⟩ | ⟨a, _, _, e⟩ <;> rw [e]
      · exact ⟨fun _ => a, fun _ => rfl⟩
      · exact ⟨fun e => by omega, fun e => absurd e a⟩
      · exact ⟨fun e => by omega, fun e => absurd e a⟩
      · exact ⟨fun e => by omega, fun e => absurd e a⟩
  have qq : ∀ i, Q i → o' i = 5 + 2 * d.K := fun i e => by
    obtain ⟨h1, h2⟩ := hQ i e
    rcases new i h1 with ⟨a, _⟩ | ⟨_, _, e'⟩ | ⟨_, b, _⟩ | ⟨_, b, _⟩
    · exact absurd a h2
    · exact e'
    · exact absurd e b
    · exact absurd e b
  have zz : ∀ i, Z i → o' i = 3 := fun i e => by
    rcases hZ i e with ⟨h1, h2⟩ | ⟨h1, _, h2, h3⟩
    · rw [old i h1]; exact h2
    · rcases new i h1 with ⟨a, _⟩ | ⟨_, a, _⟩ | ⟨_, _, _, e'⟩ | ⟨_, _, a, _⟩
      · exact absurd a h2
      · exact absurd a h3
      · exact e'
      · exact absurd e a
  have kR : ∀ i, o i ≠ 3 → ¬ (i = d.sx ∨ d.va.ownBlock = some i ∨ d.vb.ownBlock = some i ∨ d.vm.ownBlock = some i) := fun i hi e => by
    rcases e with e | e
    · subst e; exact hi h.os
    · exact hi (h.ov i e)
  have ql : ∀ {g : Nat}, vl.ownBlock = some g → Q g := fun {g} hg => by subst HQ; exact .inr (.inl hg)
  have qg : ∀ {g : Nat}, vg.ownBlock = some g → Q g := fun {g} hg => by subst HQ; exact .inr (.inr hg)
  have q0 : Q q := by subst HQ; exact .inl rfl
  have lo : ∀ {z : Value} {xs' : List Value} {g : Nat} {l : Nat}, w.ownsRow B 43 1 z l xs' → z.ownBlock = some g → g < w.heap.size := fun {z xs' g l} hw hg => (World.ownsRow.lt hw g hg).2
  refine ⟨o', ⟨?_, ?_⟩, ?_, ?_, ?_, ?_, ?_, ?_⟩
  · rw [same 1 (by decide) (by decide) (by omega)]
    exact h.p.buf.keep hk (fun i hi => kR i (by omega))
  · intro j hj
    have hj' : j < d.K + 1 := hj
    by_cases e : j = d.K
    · subst e
      rw [mine, wkPut_same]
      show X y M d.t (if d.K = d.K then p else d.pw d.K) d.N d.n x
      rw [if_pos rfl]; exact hx
    · rw [wkPut_ne e, same (4 + 2 * j) (by omega) (by omega) (by omega)]
      show X y _ d.t (if j = d.K then p else d.pw j) d.N d.n (xs j)
      rw [if_neg e]
      exact C.keep (h.p.pr j (by omega)) hk (fun i hi => kR i (by omega))
  · refine ⟨h.r.ce.keep hk (kR _ (by rw [h.r.om]; decide)) (fun g hg => kR g (by rw [h.r.ov g hg]; decide)), by show o' d.m = 2; rw [old _ h.r.ce.lt]; exact h.r.om, fun g hg => by rw [old _ (lo h.r.ce.own hg)]; exact h.r.ov g hg, fun j hj => ?_, fun j hj => ?_, fun j hj g hg => ?_, fun j hj g hg => ?_, fun j hj g hg => ?_⟩
    all_goals have hj' : j < d.K + 1 := hj
    · by_cases e : j = d.K
      · subst e
        rw [wkPut_same, if_pos rfl, if_pos rfl]
        show RwIs y B (if d.K = d.K then q else d.q d.K) vl vg x
        rw [if_pos rfl]; exact hr
      · rw [wkPut_ne e, if_neg e, if_neg e]
        show RwIs y B (if j = d.K then q else d.q j) _ _ _
        rw [if_neg e]
        exact (h.r.rf j (by omega)).keep hk (kR _ (by rw [h.r.oq j (by omega)]; omega)) (fun g hg => kR g (by rw [h.r.ol j (by omega) g hg]; omega)) (fun g hg => kR g (by rw [h.r.og j (by omega) g hg]; omega))
    · show o' (if j = d.K then q else d.q j) = 5 + 2 * j
      by_cases e : j = d.K
      · rw [if_pos e, e]; exact qq q q0
      · rw [if_neg e, old _ (h.r.rf j (by omega)).lt]; exact h.r.oq j (by omega)
    · by_cases e : j = d.K
      · rw [if_pos e] at hg; rw [e]; exact qq g (ql hg)
      · rw [if_neg e] at hg; rw [old _ (lo (h.r.rf j (by omega)).ol hg)]; exact h.r.ol j (by omega) g hg
    · by_cases e : j = d.K
      · rw [if_pos e] at hg; rw [e]; exact qq g (qg hg)
      · rw [if_neg e] at hg; rw [old _ (lo (h.r.rf j (by omega)).og hg)]; exact h.r.og j (by omega) g hg
    · by_cases e : j = d.K
      · rw [if_pos e] at hg ⊢; exact hlg g hg
      · rw [if_neg e] at hg ⊢; exact h.r.a5 j (by omega) g hg
  · refine Sn3.one ?_
    show Sn3 y B d.sx d.t d.m va vb vm (ptrsV _ (d.K + 1)) (ptrsV _ (d.K + 1)) (ptrsV _ (d.K + 1))
    rw [Sn.add_fa, Sn.add_fb, Sn.add_fm]
    exact hs
  · show o' d.sx = 3
    rw [old _ h.s.lt]; exact h.os
  · intro g hg
    exact zz g (by subst HZ; exact hg)
  · refine ⟨fun i hi => ?_, Nat.le_trans h.bs.bs hk.size⟩
    rcases Nat.lt_or_ge i w.heap.size with e | e
    · rw [old i e] at hi
      exact ⟨(h.bs.ge i hi).1, Nat.lt_of_lt_of_le e hk.size⟩
    · refine ⟨Nat.le_trans h.bs.bs e, ?_⟩
      rcases new i e with ⟨a, _⟩ | ⟨_, a, _⟩ | ⟨_, _, a, _⟩ | ⟨_, _, _, e'⟩
      · exact (hM i a).2
      · subst HQ
        rcases a with a | a | a
        · subst a; exact hr.lt
        · exact (World.ownsRow.lt hr.ol i a).2
        · exact (World.ownsRow.lt hr.og i a).2
      · rcases hZ i a with ⟨e1, _⟩ | ⟨_, e1, _⟩
        · omega
        · exact e1
      · exact absurd e' hi
  · intro i
    show o' i < 4 + 2 * (d.K + 1)
    rcases Nat.lt_or_ge i w.heap.size with e | e
    · rw [old i e]; have := hup i; omega
    · rcases new i e with ⟨_, e⟩ | ⟨_, _, e⟩ | ⟨_, _, _, e⟩ | ⟨_, _, _, e⟩ <;> rw [e] <;> omega
end
end Go.Proofs.Ytikpphbgjbfddaa
