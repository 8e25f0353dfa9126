/- Parts of the proof: Jt. -/
import Derived.Test.YtikpphbgjbfddaaJ35
namespace Go.Proofs.Ytikpphbgjbfddaa
set_option maxRecDepth 20000
open Go.RowKit
/-- One more of them. -/
def Sn.add (d : Sn) (va vb vm : Value) (p q : Nat) (r : Bool) : Sn := { d with K := d.K + 1, va := va, vb := vb, vm := vm, pw := fun j => if j = d.K then p else d.pw j, q := fun j => if j = d.K then q else d.q j, rd := fun j => if j = d.K then r else d.rd j }
def wkPut (xs : Nat → Wk) (K : Nat) (x : Wk) : Nat → Wk := fun j => if j = K then x else xs j
theorem wkPut_same (xs : Nat → Wk) (K : Nat) (x : Wk) : wkPut xs K x K = x := if_pos rfl
theorem wkPut_ne {xs : Nat → Wk} {K j : Nat} {x : Wk} (h : j ≠ K) : wkPut xs K x j = xs j := if_neg h
theorem Sn.add_fa (d : Sn) (va vb vm : Value) (p q : Nat) (r : Bool) : ptrsV (d.add va vb vm p q r).fa (d.K + 1) = ptrsV d.fa d.K ++ [ptrV (if r = true then none else some p)] := by
  rw [ptrsV_snoc]
  congr 1
  · exact ptrsV_congr fun j hj => by simp [Sn.fa, Sn.add, Nat.ne_of_lt hj]
  · simp [Sn.fa, Sn.add]
theorem Sn.add_fb (d : Sn) (va vb vm : Value) (p q : Nat) (r : Bool) : ptrsV (d.add va vb vm p q r).fb (d.K + 1) = ptrsV d.fb d.K ++ [ptrV (if r = true then some p else none)] := by
  rw [ptrsV_snoc]
  congr 1
  · exact ptrsV_congr fun j hj => by simp [Sn.fb, Sn.add, Nat.ne_of_lt hj]
  · simp [Sn.fb, Sn.add]
theorem Sn.add_fm (d : Sn) (va vb vm : Value) (p q : Nat) (r : Bool) : ptrsV (d.add va vb vm p q r).fm (d.K + 1) = ptrsV d.fm d.K ++ [ptrV (some q)] := by
  rw [ptrsV_snoc]
  congr 1
  · exact ptrsV_congr fun j hj => by simp [Sn.fm, Sn.add, Nat.ne_of_lt hj]
  · simp [Sn.fm, Sn.add]
open Classical in
/-- The owners behind it. -/
noncomputable def oAdd (o : Nat → Nat) (M Q Z : Nat → Prop) (K : Nat) : Nat → Nat := fun i => if M i then 4 + 2 * K else if Q i then 5 + 2 * K else if Z i then 3 else o i
section
variable {X : InPred} {w y : World} {o : Nat → Nat} {B k : Nat} {d : Sn} {vls vgs : Nat → Value} {c : Ce} {xs : Nat → Wk}
theorem ScA.push (C : InProg X) (h : ScA X w o B d k vls vgs c xs c xs) {M : Nat → Prop} {p q : Nat} {x : Wk} {vl vg va vb vm : Value}
    (hk : Keeps (fun i => i = d.sx ∨ d.va.ownBlock = some i ∨ d.vb.ownBlock = some i ∨ d.vm.ownBlock = some i) w y)
    (hs : Sn3 y B d.sx d.t d.m va vb vm (ptrsV d.fa d.K ++ [ptrV (if x.rd = true then none else some p)]) (ptrsV d.fb d.K ++ [ptrV (if x.rd = true then some p else none)]) (ptrsV d.fm d.K ++ [ptrV (some q)]))
    (hx : X y M d.t p d.N d.n x) (hM : ∀ i, M i → w.heap.size ≤ i ∧ i < y.heap.size)
    (hr : RwIs y B q vl vg x) (hq : w.heap.size ≤ q ∧ ¬ M q) (hl : ∀ g, vl.ownBlock = some g → w.heap.size ≤ g ∧ ¬ M g) (hg : ∀ g, vg.ownBlock = some g → w.heap.size ≤ g ∧ ¬ M g) (hlg : ∀ g, vl.ownBlock = some g → vg.ownBlock ≠ some g)
    (hz : ∀ g, (va.ownBlock = some g ∨ vb.ownBlock = some g ∨ vm.ownBlock = some g) → (d.va.ownBlock = some g ∨ d.vb.ownBlock = some g ∨ d.vm.ownBlock = some g) ∨ (w.heap.size ≤ g ∧ g < y.heap.size ∧ ¬ M g ∧ g ≠ q ∧ vl.ownBlock ≠ some g ∧ vg.ownBlock ≠ some g)) :
    ∃ o', ScA X y o' B (d.add va vb vm p q x.rd) k (fun j => if j = d.K then vl else vls j) (fun j => if j = d.K then vg else vgs j) c (wkPut xs d.K x) c (wkPut xs d.K x) := by
  have hup := h.up
  obtain ⟨Q, HQ⟩ : ∃ Q : Nat → Prop, Q = fun i => i = q ∨ vl.ownBlock = some i ∨ vg.ownBlock = some i := ⟨_, rfl⟩
  obtain ⟨Z, HZ⟩ : ∃ Z : Nat → Prop, Z = fun i => va.ownBlock = some i ∨ vb.ownBlock = some i ∨ vm.ownBlock = some i := ⟨_, rfl⟩
  have hQ : ∀ i, Q i → w.heap.size ≤ i ∧ ¬ M i := fun i e => by
    subst HQ
    rcases e with e | e | e
    · subst e; exact hq
    · exact hl i e
    · exact hg i e
  have hZ : ∀ i, Z i → (i < w.heap.size ∧ o i = 3) ∨ (w.heap.size ≤ i ∧ i < y.heap.size ∧ ¬ M i ∧ ¬ Q i) := fun i e => by
    subst HZ
    rcases hz i e with e1 | ⟨a1, a2, a3, a4, a5, a6⟩
    · exact .inl ⟨h.own_lt e1, h.ov i e1⟩
    · refine .inr ⟨a1, a2, a3, fun e => ?_⟩
      subst HQ
      rcases e with e | e | e
      · exact a4 e
      · exact a5 e
      · exact a6 e
  have old : ∀ i, i < w.heap.size → oAdd o M Q Z d.K i = o i := fun i hi => by
    unfold oAdd
    rw [if_neg (fun e => by have := hM i e; omega), if_neg (fun e => by have := hQ i e; omega)]
    by_cases e : Z i
    · rw [if_pos e]
      rcases hZ i e with e1 | e1
      · exact e1.2.symm
      · omega
    · rw [if_neg e]
  have zero : ∀ i, w.heap.size ≤ i → o i = 0 := fun i hi => by
    rcases Nat.eq_zero_or_pos (o i) with e | e
    · exact e
    · have := (h.bs.ge i (by omega)).2; omega
  have new : ∀ i, w.heap.size ≤ i → (M i ∧ oAdd o M Q Z d.K i = 4 + 2 * d.K) ∨ (¬ M i ∧ Q i ∧ oAdd o M Q Z d.K i = 5 + 2 * d.K) ∨ (¬ M i ∧ ¬ Q i ∧ Z i ∧ oAdd o M Q Z d.K i = 3) ∨ (¬ M i ∧ ¬ Q i ∧ ¬ Z i ∧ oAdd o M Q Z d.K i = 0) := fun i hi => by
    unfold oAdd
    by_cases e1 : M i
    · rw [if_pos e1]; exact .inl ⟨e1, rfl⟩
    · rw [if_neg e1]
      by_cases e2 : Q i
      · rw [if_pos e2]; exact .inr (.inl ⟨e1, e2, rfl⟩)
      · rw [if_neg e2]
        by_cases e3 : Z i
        · rw [if_pos e3]; exact .inr (.inr (.inl ⟨e1, e2, e3, rfl⟩))
        · rw [if_neg e3]; exact .inr (.inr (.inr ⟨e1, e2, e3, zero i hi⟩))
  generalize oAdd o M Q Z d.K = o' at old new
  have same : ∀ s, s ≠ 0 → s ≠ 3 → s < 4 + 2 * d.K → (fun i => o' i = s) = fun i => o i = s := fun s h0 h3 hlt => by
    funext i
    apply propext
    rcases Nat.lt_or_ge i w.heap.size with e | e
    · rw [old i e]
    · rw [zero i e]
      rcases new i e with ⟨_, e⟩ | ⟨_, _, e⟩ | ⟨_, _, _, e⟩ | ⟨_, _, _, e⟩ <;> rw [e] <;> omega
  have mine : (fun i => o' i = 4 + 2 * d.K) = M := by
    funext i
    apply propext
    rcases Nat.lt_or_ge i w.heap.size with e | e
    · rw [old i e]
      have := hup i
      exact ⟨fun e' => by omega, fun e' => by have := hM i e'; omega⟩
    · rcases new i e with ⟨a, e⟩ | ⟨a, _, e⟩ | ⟨a, _, _, e⟩ | ⟨a, _, _, e⟩ <;> rw [e]
      · exact ⟨fun _ => a, fun _ => rfl⟩
      · exact ⟨fun e => by omega, fun e => absurd e a⟩
      · exact ⟨fun e => by omega, fun e => absurd e a⟩
      · exact ⟨fun e => by omega, fun e => absurd e a⟩
  have qq : ∀ i, Q i → o' i = 5 + 2 * d.K := fun i e => by
    obtain ⟨h1, h2⟩ := hQ i e
    rcases new i h1 with ⟨a, _⟩ | ⟨_, _, e'⟩ | ⟨_, b, _⟩ | ⟨_, b, _⟩
    · exact absurd a h2
    · exact e'
    · exact absurd e b
    · exact absurd e b
  have zz : ∀ i, Z i → o' i = 3 := fun i e => by
    rcases hZ i e with ⟨h1, h2⟩ | ⟨h1, _, h2, h3⟩
    · rw [old i h1]; exact h2
    · rcases new i h1 with ⟨a, _⟩ | ⟨_, a, _⟩ | ⟨_, _, _, e'⟩ | ⟨_, _, a, _⟩
      · exact absurd a h2
      · exact absurd a h3
      · exact e'
      · exact absurd e a
  have kR : ∀ i, o i ≠ 3 → ¬ (i = d.sx ∨ d.va.ownBlock = some i ∨ d.vb.ownBlock = some i ∨ d.vm.ownBlock = some i) := fun i hi e => by
    rcases e with e | e
    · subst e; exact hi h.os
    · exact hi (h.ov i e)
  have ql : ∀ {g : Nat}, vl.ownBlock = some g → Q g := fun {g} hg => by subst HQ; exact .inr (.inl hg)
  have qg : ∀ {g : Nat}, vg.ownBlock = some g → Q g := fun {g} hg => by subst HQ; exact .inr (.inr hg)
  have q0 : Q q := by subst HQ; exact .inl rfl
  have lo : ∀ {z : Value} {xs' : List Value} {g : Nat} {l : Nat}, w.ownsRow B 43 1 z l xs' → z.ownBlock = some g → g < w.heap.size := fun {z xs' g l} hw hg => (World.ownsRow.lt hw g hg).2
  refine ⟨o', ⟨?_, ?_⟩, ?_, ?_, ?_, ?_, ?_, ?_⟩
  · rw [same 1 (by decide) (by decide) (by omega)]
    exact h.p.buf.keep hk (fun i hi => kR i (by omega))
  · intro j hj
    have hj' : j < d.K + 1 := hj
    by_cases e : j = d.K
    · subst e
      rw [mine, wkPut_same]
      show X y M d.t (if d.K = d.K then p else d.pw d.K) d.N d.n x
      rw [if_pos rfl]; exact hx
    · rw [wkPut_ne e, same (4 + 2 * j) (by omega) (by omega) (by omega)]
      show X y _ d.t (if j = d.K then p else d.pw j) d.N d.n (xs j)
      rw [if_neg e]
      exact C.keep (h.p.pr j (by omega)) hk (fun i hi => kR i (by omega))
  · refine ⟨h.r.ce.keep hk (kR _ (by rw [h.r.om]; decide)) (fun g hg => kR g (by rw [h.r.ov g hg]; decide)), by show o' d.m = 2; rw [old _ h.r.ce.lt]; exact h.r.om, fun g hg => by rw [old _ (lo h.r.ce.own hg)]; exact h.r.ov g hg, fun j hj => ?_, fun j hj => ?_, fun j hj g hg => ?_, fun j hj g hg => ?_, fun j hj g hg => ?_⟩
    all_goals have hj' : j < d.K + 1 := hj
    · by_cases e : j = d.K
      · subst e
        rw [wkPut_same, if_pos rfl, if_pos rfl]
        show RwIs y B (if d.K = d.K then q else d.q d.K) vl vg x
        rw [if_pos rfl]; exact hr
      · rw [wkPut_ne e, if_neg e, if_neg e]
        show RwIs y B (if j = d.K then q else d.q j) _ _ _
        rw [if_neg e]
        exact (h.r.rf j (by omega)).keep hk (kR _ (by rw [h.r.oq j (by omega)]; omega)) (fun g hg => kR g (by rw [h.r.ol j (by omega) g hg]; omega)) (fun g hg => kR g (by rw [h.r.og j (by omega) g hg]; omega))
    · show o' (if j = d.K then q else d.q j) = 5 + 2 * j
      by_cases e : j = d.K
      · rw [if_pos e, e]; exact qq q q0
      · rw [if_neg e, old _ (h.r.rf j (by omega)).lt]; exact h.r.oq j (by omega)
    · by_cases e : j = d.K
      · rw [if_pos e] at hg; rw [e]; exact qq g (ql hg)
      · rw [if_neg e] at hg; rw [old _ (lo (h.r.rf j (by omega)).ol hg)]; exact h.r.ol j (by omega) g hg
    · by_cases e : j = d.K
      · rw [if_pos e] at hg; rw [e]; exact qq g (qg hg)
      · rw [if_neg e] at hg; rw [old _ (lo (h.r.rf j (by omega)).og hg)]; exact h.r.og j (by omega) g hg
    · by_cases e : j = d.K
      · rw [if_pos e] at hg ⊢; exact hlg g hg
      · rw [if_neg e] at hg ⊢; exact h.r.a5 j (by omega) g hg
  · refine Sn3.one ?_
    show Sn3 y B d.sx d.t d.m va vb vm (ptrsV _ (d.K + 1)) (ptrsV _ (d.K + 1)) (ptrsV _ (d.K + 1))
    rw [Sn.add_fa, Sn.add_fb, Sn.add_fm]
    exact hs
  · show o' d.sx = 3
    rw [old _ h.s.lt]; exact h.os
  · intro g hg
    exact zz g (by subst HZ; exact hg)
  · refine ⟨fun i hi => ?_, Nat.le_trans h.bs.bs hk.size⟩
    rcases Nat.lt_or_ge i w.heap.size with e | e
    · rw [old i e] at hi
      exact ⟨(h.bs.ge i hi).1, Nat.lt_of_lt_of_le e hk.size⟩
    · refine ⟨Nat.le_trans h.bs.bs e, ?_⟩
      rcases new i e with ⟨a, _⟩ | ⟨_, a, _⟩ | ⟨_, _, a, _⟩ | ⟨_, _, _, e'⟩
      · exact (hM i a).2
      · subst HQ
        rcases a with a | a | a
        · subst a; exact hr.lt
        · exact (World.ownsRow.lt hr.ol i a).2
        · exact (World.ownsRow.lt hr.og i a).2
      · rcases hZ i a with ⟨e1, _⟩ | ⟨_, e1, _⟩
        · omega
        · exact e1
      · exact absurd e' hi
  · intro i
    show o' i < 4 + 2 * (d.K + 1)
    rcases Nat.lt_or_ge i w.heap.size with e | e
    · rw [old i e]; have := hup i; omega
    · rcases new i e with ⟨_, e⟩ | ⟨_, _, e⟩ | ⟨_, _, _, e⟩ | ⟨_, _, _, e⟩ <;> rw [e] <;> omega
end
end Go.Proofs.Ytikpphbgjbfddaa
