/- Parts of the proof: Jw. -/
import Derived.Test.YtikpphbgjbfddaaJ16
import Derived.Test.YtikpphbgjbfddaaJ17
import Derived.Test.YtikpphbgjbfddaaJ18
namespace Go.Proofs.Ytikpphbgjbfddaa
set_option maxRecDepth 20000
open Go.RowKit
section
variable {X : InPred} {w : World} {o : Nat → Nat} {B k : Nat} {d : Sn} {vls vgs : Nat → Value} {cp cr : Ce} {xp xr : Nat → Wk}
/-- Where the rows stand. -/
structure SnRow (d : Sn) (ga ca gb cb gm cm : Nat) : Prop where
  ea : d.va = .slice (some ⟨ga, 0, none⟩) d.K ca
  eb : d.vb = .slice (some ⟨gb, 0, none⟩) d.K cb
  em : d.vm = .slice (some ⟨gm, 0, none⟩) d.K cm
theorem ScA.rows (h : ScA X w o B d k vls vgs cp xp cr xr) (hK : 0 < d.K) : ∃ ga ca gb cb gm cm, SnRow d ga ca gb cb gm cm := by
  obtain ⟨ga, ca, ea, _⟩ := row_at h.s.oa hK
  obtain ⟨gb, cb, eb, _⟩ := row_at h.s.ob hK
  obtain ⟨gm, cm, em, _⟩ := row_at h.s.om hK
  exact ⟨ga, ca, gb, cb, gm, cm, ea, eb, em⟩
structure SeeS (w : World) (d : Sn) (ga ca gb cb gm cm j : Nat) : Prop where
  c0 : w.cell? ⟨d.sx, 0, none⟩ = some (.pointer (some ⟨d.t, 0, none⟩))
  c1 : w.cell? ⟨d.sx, 1, none⟩ = some (.pointer (some ⟨d.m, 0, none⟩))
  c2 : w.cell? ⟨d.sx, 2, none⟩ = some (.slice (some ⟨ga, 0, none⟩) d.K ca)
  c3 : w.cell? ⟨d.sx, 3, none⟩ = some (.slice (some ⟨gb, 0, none⟩) d.K cb)
  c4 : w.cell? ⟨d.sx, 4, none⟩ = some (.slice (some ⟨gm, 0, none⟩) d.K cm)
  ra : w.cell? ⟨ga, j, none⟩ = some (ptrV (d.fa j))
  rb : w.cell? ⟨gb, j, none⟩ = some (ptrV (d.fb j))
  rm : w.cell? ⟨gm, j, none⟩ = some (.pointer (some ⟨d.q j, 0, none⟩))
theorem ScA.see (h : ScA X w o B d k vls vgs cp xp cr xr) {ga ca gb cb gm cm : Nat} (hr : SnRow d ga ca gb cb gm cm) {j : Nat} (hj : j < d.K) : SeeS w d ga ca gb cb gm cm j := by
  obtain ⟨g1, c1, e1, r1⟩ := row_at h.s.oa hj
  obtain ⟨g2, c2, e2, r2⟩ := row_at h.s.ob hj
  obtain ⟨g3, c3, e3, r3⟩ := row_at h.s.om hj
  rw [hr.ea] at e1
  rw [hr.eb] at e2
  rw [hr.em] at e3
  cases e1
  cases e2
  cases e3
  exact ⟨h.s.c0, h.s.c1, by rw [← hr.ea]; exact h.s.c2, by rw [← hr.eb]; exact h.s.c3, by rw [← hr.em]; exact h.s.c4, r1, r2, r3⟩
end
/-- What holds between the moves. -/
structure PlOk (X : InPred) (w0 w : World) (d : Sn) (k : Nat) (o : Nat → Nat) (vls vgs : Nat → Value) (c : Ce) (xs : Nat → Wk) : Prop where
  a : ScA X w o w0.heap.size d k vls vgs c xs c xs
  s : ScOk d.N c xs d.K
  rd : ∀ j, j < d.K → (xs j).rd = d.rd j
  nn : d.N = wordsFor d.n
  bel : Below w0.heap.size w0 w
  em : EmL d.n d.N c.l ∧ ∀ j, j < d.K → EmL d.n d.N (xs j).gt
theorem PlOk.start {X : InPred} {w w' : World} {s : ByteArray} {n : Nat} {z : Nat → Ow} {d : Sn} (h : OpIs X w w' s n z d) : ∃ k o vls vgs xs, PlOk X w w' d k o vls vgs (ceS s) xs ∧ k ≤ 1 ∧ d.K ≤ 6 ∧ d.n = s.size ∧ ((∀ i, i < n → (z i).kd ≠ 1) → ∀ j, j < d.K → (xs j).rd = false → (xs j).ad = true) ∧ ∀ j, j < d.K → WkFresh d.N (xs j) := by
  obtain ⟨o, k, vls, vgs, xs, hA, hop, hK, hk, hb⟩ := h
  have hfr : ∀ j, j < d.K → WkFresh d.N (xs j) := fun j hj => by rw [hop.eN]; exact hop.fr j hj
  exact ⟨k, o, vls, vgs, xs, ⟨hA, scOk_fresh (by rw [hop.eN]; exact ceS_ok s) rfl hfr, hop.rd, by rw [hop.eN, hop.en], hb, by rw [hop.eN, hop.en]; exact emL_words s, fun j hj => (hfr j hj).gt0 ▸ emL_nil _ _⟩, hk, hK, hop.en, hop.ad, hfr⟩
/-- What the program's and the reference's moves of one of them leave. -/
theorem PlOk.both {X : InPred} (C : InProg X) {w0 w : World} {d : Sn} {k : Nat} {o : Nat → Nat} {vls vgs : Nat → Value} {c : Ce} {xs : Nat → Wk} (h : PlOk X w0 w d k o vls vgs c xs) {j : Nat} (hj : j < d.K) {w' : World} {k' : Nat} {o' : Nat → Nat} {vls' vgs' : Nat → Value} (ha : ScA X w' o' w0.heap.size d k' vls' vgs' (wkMove c (xs j)).2.1 (wkUpd xs j (wkMove c (xs j)).2.2) (wkMove c (xs j)).2.1 (wkUpd xs j (wkMove c (xs j)).2.2)) (hb : Below w0.heap.size w0 w') :
    PlOk X w0 w' d k' o' vls' vgs' (wkMove c (xs j)).2.1 (wkUpd xs j (wkMove c (xs j)).2.2) := by
  have hem := wk_em (h.s.wk j hj) h.em.1 (C.em (h.a.p.pr j hj)) (h.em.2 j hj)
  refine ⟨ha, h.s.move hj, fun i hi => ?_, h.nn, hb, hem.1, fun i hi => ?_⟩
  by_cases e : i = j
  · subst e
    rw [wkUpd_same, (wk_fix c (xs i)).1]; exact h.rd i hi
  · rw [wkUpd_ne e]; exact h.rd i hi
  · by_cases e : i = j
    · subst e; rw [wkUpd_same]; exact hem.2
    · rw [wkUpd_ne e]; exact h.em.2 i hi
theorem PlOk.below {X : InPred} (C : InProg X) {w0 w w' : World} {d : Sn} {k : Nat} {o : Nat → Nat} {vls vgs : Nat → Value} {c : Ce} {xs : Nat → Wk} (h : PlOk X w0 w d k o vls vgs c xs) (hb : Below w.heap.size w w') : PlOk X w0 w' d k o vls vgs c xs :=
  ⟨h.a.below C hb, h.s, h.rd, h.nn, h.bel.trans (hb.mono h.bel.size), h.em⟩
/-- What a region sees of a scene. -/
def SeeR (w : World) (d : Sn) (K gm cm j : Nat) (av : Option Addr) (N cv : Nat) : Prop := w.cell? ⟨d.sx, 4, none⟩ = some (.slice (some ⟨gm, 0, none⟩) K cm) ∧ w.cell? ⟨gm, j, none⟩ = some (.pointer (some ⟨d.q j, 0, none⟩)) ∧ w.cell? ⟨d.sx, 1, none⟩ = some (.pointer (some ⟨d.m, 0, none⟩)) ∧ w.cell? ⟨d.m, 2, none⟩ = some (.slice av N cv)
theorem ScA.seeR {X : InPred} {w : World} {o : Nat → Nat} {B k : Nat} {d : Sn} {vls vgs : Nat → Value} {cp cr : Ce} {xp xr : Nat → Wk} (h : ScA X w o B d k vls vgs cp xp cr xr) {ga ca gb cb gm cm : Nat} (hr : SnRow d ga ca gb cb gm cm) {j : Nat} (hj : j < d.K) {K N cv : Nat} {av : Option Addr} (hK : d.K = K) (hv : d.v = .slice av N cv) : SeeR w d K gm cm j av N cv := by
  subst hK
  have hs := h.see hr hj
  exact ⟨hs.c4, hs.rm, hs.c1, by rw [← hv]; exact h.r.ce.c2⟩
theorem ScA.value {X : InPred} {w : World} {o : Nat → Nat} {B k : Nat} {d : Sn} {vls vgs : Nat → Value} {cp cr : Ce} {xp xr : Nat → Wk} (h : ScA X w o B d k vls vgs cp xp cr xr) {N cv : Nat} {av : Option Addr} (hv : d.v = .slice av N cv) (hl : cr.l.length = N) : Sl .u64 w av N (fun j => (cr.l.getD j 0 : Int)) := by
  have ho := h.r.ce.own
  rw [hv, hl] at ho
  obtain ⟨a2, c2, e, hs⟩ := own_slU ho hl
  cases e
  intro j hj
  obtain ⟨q, off, e, hc⟩ := hs j hj
  exact ⟨q, off, e, by simp only [List.getD_eq_getElem?_getD]; exact hc⟩
end Go.Proofs.Ytikpphbgjbfddaa
