/- Parts of the proof: Jf. -/
import Derived.Test.YtikpphbgjbfddaaJ14
namespace Go.Proofs.Ytikpphbgjbfddaa
set_option maxRecDepth 20000
open Go.RowKit
section
variable {w : World} {B m p : Nat} {v vl vg : Value}
theorem rw_setG {x : Wk} (cs : ∀ i, i < 8 → w.cell? ⟨p, i, none⟩ = some (rwV x vl vg i)) (fs : ∀ i, i < 8 → w.frozen? ⟨p, i, none⟩ = false) (nl : vl.ownBlock ≠ some p) {vg' : Value} {l' : List Nat} (ho : w.ownsRow B 43 1 vg' l'.length (uintsN l')) (hn : vg'.ownBlock ≠ some p) (hl : w.ownsRow B 43 1 vl x.l.length (uintsN x.l)) : RwIs (w.setCell ⟨p, 7, none⟩ vg') B p vl vg' { x with gt := l' } := by
  refine ⟨fun j hj => ?_, fun j hj => by rw [World.frozen?_setCell]; exact fs j hj, own_keep hl (one_keeps w _ _) (fun g e e' => nl (by rw [e, e'])), own_keep ho (one_keeps w _ _) (fun g e e' => hn (by rw [e, e'])), nl, hn⟩
  by_cases e : j = 7
  · subst e; exact World.cell?_setCell_same _ _ _ (cs 7 hj)
  · rw [World.cell?_setCell_other _ _ _ _ (fun q => e (by cases q; rfl)), cs j hj]
    match j, hj, e with
    | 0, _, _ => rfl
    | 1, _, _ => rfl
    | 2, _, _ => rfl
    | 3, _, _ => rfl
    | 4, _, _ => rfl
    | 5, _, _ => rfl
    | 6, _, _ => rfl
    | 7, _, e => exact absurd rfl e
/-- What an append to what was read leaves. -/
theorem rm_get {c : Ce} {x : Wk} (h : RcW w B m v c p vl vg x) {X w1 : World} {p' cap' L G : Nat} (hL : x.gt.length = L) (hX : Below w.heap.size w X) (hown : w1.ownsRow B 43 1 (.slice (some ⟨p', 0, none⟩) (L + 1) cap') (L + 1) (uintsN x.gt ++ [.int .u64 (G : Int)])) (hgr : X.grownBy w1 vg.ownBlock) (hat : vg.ownBlock = some p' ∨ w.heap.size ≤ p') :
    w1.cell? ⟨p, 7, none⟩ = some vg ∧ w1.frozen? ⟨p, 7, none⟩ = false ∧ w1.frozen? ⟨p, 4, none⟩ = false ∧ (w1.setCell ⟨p, 7, none⟩ (.slice (some ⟨p', 0, none⟩) (L + 1) cap')).cell? ⟨p, 4, none⟩ = some (.int .i64 (x.mv : Int)) ∧
      ∀ n : Nat, RmIs w ((w1.setCell ⟨p, 7, none⟩ (.slice (some ⟨p', 0, none⟩) (L + 1) cap')).setCell ⟨p, 4, none⟩ (.int .i64 (n : Int))) B m v c p vl vg { x with gt := x.gt ++ [G], mv := n } := by
  have K : Keeps (fun k => vg.ownBlock = some k) w w1 := (Below.keeps hX).grown hgr (fun k e _ => e)
  have hn : ∀ g, (Value.slice (some ⟨p', 0, none⟩) (L + 1) cap').ownBlock = some g → g = p' := fun g e => by simp [Value.ownBlock] at e; exact e.symm
  have hfar : ∀ k, k < w.heap.size → vg.ownBlock ≠ some k → k ≠ p' := fun k hk hne e => by
    rcases hat with q | q
    · exact hne (by rw [q, e])
    · omega
  have hp := h.r.lt
  have cs : ∀ i, i < 8 → w1.cell? ⟨p, i, none⟩ = some (rwV x vl vg i) := fun i hi => by rw [K.cell (p := ⟨p, i, none⟩) hp h.r.ng]; exact h.r.cs i hi
  have fs : ∀ i, i < 8 → w1.frozen? ⟨p, i, none⟩ = false := fun i hi => by rw [K.frozen (p := ⟨p, i, none⟩) hp h.r.ng]; exact h.r.fs i hi
  have hq := h.q.keep K h.a3.2 (fun g e e' => (h.a4 g e).2 e')
  have hl := own_keep h.r.ol K (fun g e e' => h.a5 g e e')
  have hr := rw_setG cs fs h.r.nl (l' := x.gt ++ [G]) (vg' := .slice (some ⟨p', 0, none⟩) (L + 1) cap') (by rw [uintsN_snoc, List.length_append, hL]; exact hown) (fun e => hfar p hp h.r.ng (hn _ e)) hl
  have hq' := hq.keep (one_keeps w1 ⟨p, 7, none⟩ (.slice (some ⟨p', 0, none⟩) (L + 1) cap')) h.a1 (fun g e e' => h.a2 (by rw [e, e']))
  have hw : RcW (w1.setCell ⟨p, 7, none⟩ (.slice (some ⟨p', 0, none⟩) (L + 1) cap')) B m v c p vl (.slice (some ⟨p', 0, none⟩) (L + 1) cap') { x with gt := x.gt ++ [G] } :=
    ⟨hq', hr, h.a1, h.a2, ⟨h.a3.1, fun e => hfar m h.q.lt h.a3.2 (hn _ e)⟩, fun g e => ⟨(h.a4 g e).1, fun e' => hfar g (h.q.own.lt g e).2 (h.a4 g e).2 (hn _ e')⟩, fun g e e' => hfar g (h.r.ol.lt g e).2 (h.a5 g e) (hn _ e')⟩
  refine ⟨cs 7 (by omega), fs 7 (by omega), fs 4 (by omega), hr.cs 4 (by omega), fun n => ⟨vl, _, hw.setMv n, (((K.wider (fun k _ e => .inr (.inr (.inr e)))).setCell _ (fun _ => .inr (.inr (.inl rfl))) _).setCell _ (fun _ => .inr (.inr (.inl rfl))) _), fun _ => .inl, fun g e => ?_⟩⟩
  have := hn _ e
  subst this
  exact hat
set_option maxHeartbeats 2000000 in
theorem rd_get {c : Ce} {x : Wk} (h : RcW w B m v c p vl vg x) (hB : B ≤ w.heap.size) (i : Nat) (h0 : x.mv = i + 1) (hi : i < c.l.length) (hb : c.l.length ≤ 1000000) (hg : x.gt.length ≤ 1000000) :
    Calls Try.prog 29 #[.pointer (some ⟨p, 0, none⟩), .pointer (some ⟨m, 0, none⟩)] w fun e w' => e = .returned (.int .i64 1) ∧ RmIs w w' B m v c p vl vg { x with gt := x.gt ++ [c.l.getD i 0], mv := x.mv + 1 } := by
  obtain ⟨i0, hii, hz0, hz1, hz2⟩ := info_parts Try.infoU64
  obtain ⟨ao, cap, rfl, s1, s2, s3⟩ := own_slice h.q.own
  obtain ⟨g, rfl, hgb, e1, e2⟩ := s3 i _ (uintsN_get _ i hi)
  obtain ⟨aog, capg, rfl, t1, t2, -⟩ := own_slice h.r.og
  have D : c.l[i]?.getD 0 = c.l.getD i 0 := by simp
  rw [D] at e1
  have c4 : w.cell? ⟨p, 4, none⟩ = some (.int .i64 (x.mv : Int)) := h.r.cs 4 (by omega)
  have c7 : w.cell? ⟨p, 7, none⟩ = some (.slice aog x.gt.length capg) := h.r.cs 7 (by omega)
  have f7 := h.r.fs 7 (by omega)
  have d2 := h.q.c2
  have hm1 : (x.mv : Int) - 1 = (i : Int) := by omega
  have hm0 : ((x.mv : Int) == 0) = false := by rw [beq_eq_false_iff_ne]; omega
  have hm2 : ¬ x.mv = 0 := by omega
  have hml : x.mv ≤ 1000001 := by omega
  obtain ⟨G, hG⟩ : ∃ G, c.l.getD i 0 = G := ⟨_, rfl⟩
  have hX : Below w.heap.size w ((w.drewN 1).alloc (.cells #[.int .u64 (G : Int)] 43)) := (below_drewN (Below.refl w.heap.size w) 1).alloc (by simp) _
  have hown2 := own_below h.r.og hX
  have hnews := cell_one (w.drewN 1) (.int .u64 (G : Int)) 43
  rw [show (w.drewN 1).heap.size = w.heap.size from rfl] at hnews
  have HPU := fun (w1 : World) (p' cap' : Nat) hown' hgr hat => rm_get (w1 := w1) (p' := p') (cap' := cap') (G := G) h rfl hX hown' hgr hat
  have hmm : ((x.mv + 1 : Nat) : Int) = (x.mv : Int) + 1 := by omega
  rw [hG] at e1 ⊢
  obtain ⟨mv, hmv⟩ : ∃ q, x.mv = q := ⟨_, rfl⟩
  rw [hmv] at c4 hm1 hm0 hm2 hml hmm ⊢
  have HP2 := hide HPU
  have hps := h.r.lt
  have hms := h.q.lt
  have hgs := (h.q.own.lt g hgb).2
  clear h s3 hX D h0 hG HPU
  generalize hL : x.gt.length = L at *
  generalize hN : c.l.length = N at *
  clear hL hN
  go_enter Try.func29, Try.ntmps29
  go_wp2_with fail
  go_region_law ((refine step_append_lies _ (by rfl) _ _ 41 (by rfl) B 43 i0 (.int .u64 0) 1 8 Try.underlying41 hii hz0 hz1 hz2 rfl (by decide) _ _ _ (by rfl) hown2 ⟨w.heap.size, 0, none⟩ 1 1 [.int .u64 (G : Int)] (by rfl) rfl hnews one_int (by decide) (by unfold maxLen; omega) (by omega) (by simp; omega) (w.heap.size + 1) (by simp) ?_; intro p' cap' w1 hown' hgrow hat' hlt'; obtain ⟨k1, k2, k3, k4, k5⟩ := HP2.out w1 p' cap' hown' hgrow (hat'.imp id (fun e => by omega))))
  all_goals
    have H := hide (k5 (mv + 1))
    rw [hmm] at H
    rw [hmv] at k4
    clear hgrow hat' hlt' hown2 hnews HP2 hown' k5
    go_wp2
    go_ret
    first | exact ⟨rfl, H.out.drewN 0⟩ | exact ⟨rfl, H.out.drewN 1⟩ | exact ⟨rfl, H.out.drewN 2⟩
end
end Go.Proofs.Ytikpphbgjbfddaa
