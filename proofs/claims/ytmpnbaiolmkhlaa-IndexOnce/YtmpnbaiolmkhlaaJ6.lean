/- The program's index does what the law asks of it. -/
import Derived.Test.YtmpnbaiolmkhlaaJ5
namespace Go.Proofs.Ytmpnbaiolmkhlaa
set_option maxRecDepth 20000
open Go.RowKit
def PX : IxPred := fun w M x B S g T k => ∃ rr rb tr tb won lost, PxIs w x rr rb tr tb B S g T won lost 0 ∧ (∀ i, PxOwn x rr rb tr tb i → M i) ∧ (∀ i, M i → i < w.heap.size) ∧ won ≤ k ∧ lost ≤ k
theorem px_step {w w' : World} {M : Nat → Prop} {x rr rb tr tb B S : Nat} {g : Nat → Nat} {T won lost k : Nat} (hM : ∀ i, PxOwn x rr rb tr tb i → M i) (hl : ∀ i, M i → i < w.heap.size) (h : PxIs w' x rr rb tr tb B S g T won lost 0) (hw : won ≤ k ∧ lost ≤ k) (hk : Keeps (PxOwn x rr rb tr tb) w w') : PX w' (More M w w') x B S g T k ∧ Keeps M w w' := by
  refine ⟨⟨rr, rb, tr, tb, won, lost, h, fun i hi => .inl (hM i hi), fun i hi => ?_, hw⟩, hk.wider (fun i _ hi => hM i hi)⟩
  rcases hi with hi | hi
  · exact Nat.lt_of_lt_of_le (hl i hi) hk.size
  · exact hi.2
theorem px_same {w w' : World} {M : Nat → Prop} {x rr rb tr tb B S : Nat} {g : Nat → Nat} {T won lost k : Nat} (hM : ∀ i, PxOwn x rr rb tr tb i → M i) (hl : ∀ i, M i → i < w.heap.size) (h : PxIs w x rr rb tr tb B S g T won lost 0) (hw : won ≤ k ∧ lost ≤ k) (hb : Below w.heap.size w w') : PX w' (More M w w') x B S g T k ∧ Keeps M w w' :=
  px_step hM hl (h.below hb) hw (Below.keeps hb)
theorem pxProg : IxProg PX where
  keep := by
    rintro w w' M N x B S g T k ⟨rr, rb, tr, tb, won, lost, h, hM, hl, hw⟩ hk hn
    exact ⟨rr, rb, tr, tb, won, lost, h.keep hk (fun i hi => hn _ (hM i hi)), hM, fun i hi => Nat.lt_of_lt_of_le (hl i hi) hk.size, hw⟩
  lt := by
    rintro w M x B S g T k ⟨rr, rb, tr, tb, won, lost, h, hM, hl, hw⟩
    exact hl
  newY := by
    intro B S w hp hs
    refine (px_new_yes B S hp hs w).mono ?_
    rintro e w' ⟨x, rr, rb, tr, tb, rfl, h, h1, hb⟩
    obtain ⟨l1, l2, l3, l4, l5⟩ := h.lt
    refine ⟨PxOwn x rr rb tr tb, x, rfl, ⟨rr, rb, tr, tb, 0, 0, h, fun i hi => hi, fun i hi => ?_, Nat.le_refl _, Nat.le_refl _⟩, h1, hb⟩
    rcases hi with rfl | rfl | rfl | rfl | rfl <;> assumption
  newN := fun B S w h => px_new_no B S h w
  look := by
    rintro w M x B S g T k cs ⟨rr, rb, tr, tb, won, lost, h, hM, hl, hw⟩ G hk hN hh b t kd sl xw hb ht hlk
    refine (px_look h G hN hh b t kd sl xw hb ht hlk).mono ?_
    rintro e w' ⟨rfl, hb⟩
    exact ⟨rfl, px_same hM hl h hw hb⟩
  claim := by
    rintro w M x B S g T k cs ⟨rr, rb, tr, tb, won, lost, h, hM, hl, hw⟩ G hk s r j hN t hs hr hj hh ht h0
    refine (px_claim h s r j hN t hs hr hj hh ht h0 (by omega)).mono ?_
    rintro e w' ⟨rfl, h', kk⟩
    exact ⟨rfl, px_step hM hl h' (by omega) kk⟩
  turnY := by
    rintro w M x B S g T k cs ⟨rr, rb, tr, tb, won, lost, h, hM, hl, hw⟩ G hk s r j y a hs hr hj h0 hy ha hE
    refine (px_turn_yes h s r j y a hs hr hj h0 hy hE (by omega)).mono ?_
    rintro e w' ⟨rfl, h', kk⟩
    exact ⟨rfl, px_step hM hl h' (by omega) kk⟩
  turnN := by
    rintro w M x B S g T k cs ⟨rr, rb, tr, tb, won, lost, h, hM, hl, hw⟩ G hk s r j y a hs hr hj h0 hy ha hE
    refine (px_turn_no h s r j y a hs hr hj hy hE).mono ?_
    rintro e w' ⟨rfl, hb⟩
    exact ⟨rfl, px_same hM hl h hw hb⟩
  spareY := by
    rintro w M x B S g T k cs ⟨rr, rb, tr, tb, won, lost, h, hM, hl, hw⟩ G hk hT
    refine (px_spare_yes h hT).mono ?_
    rintro e w' ⟨rfl, h', kk⟩
    exact ⟨rfl, px_step hM hl h' hw kk⟩
  spareN := by
    rintro w M x B S g T k cs ⟨rr, rb, tr, tb, won, lost, h, hM, hl, hw⟩ G hk hT
    refine (px_spare_no h hT).mono ?_
    rintro e w' ⟨rfl, hb⟩
    exact ⟨rfl, px_same hM hl h hw hb⟩
  link := by
    rintro w M x B S g T k cs ⟨rr, rb, tr, tb, won, lost, h, hM, hl, hw⟩ G hk hT b hb
    have hm := ixLast_mem (G.inv.path b hb).pos
    have h1 := G.in' hb _ hm
    have h2 := G.inv.lt b hb _ hm
    refine (px_link h (ixLast (cs b)) (B + T) h1 rfl hT (by omega) (fun i hi => G.inv.link i hi) (G.inv.zero (B + T) (Nat.le_refl _) (by omega) 7 (by omega)) (G.inv.path b hb).end (by omega)).mono ?_
    rintro e w' ⟨rfl, h', kk⟩
    exact ⟨rfl, px_step hM hl h' (by omega) kk⟩
  drop := by
    rintro w M x B S g T k cs ⟨rr, rb, tr, tb, won, lost, h, hM, hl, hw⟩ G hk
    refine (px_drop h G.inv G.sum).mono ?_
    rintro e w' ⟨gone, g', rfl, h', hlay, kk⟩
    obtain ⟨a, b⟩ := px_step hM hl h' hw kk
    exact ⟨_, g', rfl, a, hlay, b⟩
  same := by
    rintro w M x B S g g' T k ⟨rr, rb, tr, tb, won, lost, h, hM, hl, hw⟩ hg
    exact ⟨rr, rb, tr, tb, won, lost, ⟨h.c0, h.c1, h.c2, h.c3, h.c4, h.f4, h.row.same (fun i hi => by unfold ixI; rw [hg i (by omega)]), h.tk, h.ne, h.n2, h.bs, h.few⟩, hM, hl, hw⟩
end Go.Proofs.Ytmpnbaiolmkhlaa
