/- The reference's device in memory. -/
import Derived.Test.YtjhndhibojndfaaDy
namespace Go.Proofs.Ytjhndhibojndfaa
open Go.RowKit
def itV (p : Bk × ByteArray) : List Value := [.int .i64 p.1.1, .int .i64 p.1.2, .string p.2]
def jbV (j : Job) : List Value := [.int .i64 j.b.1, .int .i64 j.b.2, .bool j.wr, .string j.s, .bool j.no, .int .i64 (j.st : Nat)]
def itemsV (l : List (Bk × ByteArray)) : List Value := l.flatMap itV
def jobsV (l : List Job) : List Value := l.flatMap jbV
def getI (l : List (Bk × ByteArray)) (k : Nat) : Bk × ByteArray := l.getD k ((0, 0), ⟨#[]⟩)
def getJ (l : List Job) (k : Nat) : Job := l.getD k default
theorem flat_len {α : Type} (f : α → List Value) (n : Nat) (hf : ∀ x, (f x).length = n) (l : List α) : (l.flatMap f).length = l.length * n := by
  induction l with
  | nil => simp
  | cons a l ih => simp only [List.flatMap_cons, List.length_append, hf, ih, List.length_cons, Nat.add_mul]; omega
theorem flat_get {α : Type} (f : α → List Value) (n : Nat) (hf : ∀ x, (f x).length = n) (l : List α) (k c : Nat) (x : α) (hk : l[k]? = some x) (hc : c < n) : (l.flatMap f)[k * n + c]? = (f x)[c]? := by
  induction l generalizing k with
  | nil => simp at hk
  | cons a l ih =>
    match k with
    | 0 =>
      simp at hk; subst hk
      rw [List.flatMap_cons, Nat.zero_mul, Nat.zero_add, List.getElem?_append_left (by rw [hf]; exact hc)]
    | k + 1 =>
      have h1 : (k + 1) * n + c = n + (k * n + c) := by rw [Nat.add_mul]; omega
      rw [List.flatMap_cons, h1, List.getElem?_append_right (by rw [hf]; omega), hf, Nat.add_sub_cancel_left]
      exact ih k (by simpa using hk)
theorem flat_set {α : Type} (f : α → List Value) (n : Nat) (hf : ∀ x, (f x).length = n) (l : List α) (k : Nat) (x y : α) (hk : l[k]? = some x) (c : Nat) (hc : c < n) (u : Value) (hy : f y = (f x).set c u) : (l.set k y).flatMap f = (l.flatMap f).set (k * n + c) u := by
  induction l generalizing k with
  | nil => simp at hk
  | cons a l ih =>
    match k with
    | 0 =>
      simp at hk; subst hk
      rw [List.set_cons_zero, List.flatMap_cons, List.flatMap_cons, Nat.zero_mul, Nat.zero_add, List.set_append_left _ _ (by rw [hf]; exact hc), hy]
    | k + 1 =>
      have h1 : (k + 1) * n + c = n + (k * n + c) := by rw [Nat.add_mul]; omega
      rw [List.set_cons_succ, List.flatMap_cons, List.flatMap_cons, h1, List.set_append_right _ _ (by rw [hf]; omega), hf, Nat.add_sub_cancel_left, ih k (by simpa using hk)]
theorem itV_len (p : Bk × ByteArray) : (itV p).length = 3 := rfl
theorem jbV_len (j : Job) : (jbV j).length = 6 := rfl
theorem itemsV_len (l : List (Bk × ByteArray)) : (itemsV l).length = l.length * 3 := flat_len itV 3 itV_len l
theorem jobsV_len (l : List Job) : (jobsV l).length = l.length * 6 := flat_len jbV 6 jbV_len l
theorem itemsV_snoc (l : List (Bk × ByteArray)) (p : Bk × ByteArray) : itemsV (l ++ [p]) = itemsV l ++ [.int .i64 p.1.1, .int .i64 p.1.2, .string p.2] := by simp [itemsV, itV]
theorem jobsV_snoc (l : List Job) (j : Job) : jobsV (l ++ [j]) = jobsV l ++ [.int .i64 j.b.1, .int .i64 j.b.2, .bool j.wr, .string j.s, .bool j.no, .int .i64 (j.st : Nat)] := by simp [jobsV, jbV]
theorem getI_some {l : List (Bk × ByteArray)} {k : Nat} (h : k < l.length) : l[k]? = some (getI l k) := by simp [getI, List.getD_eq_getElem?_getD, h]
theorem getJ_some {l : List Job} {k : Nat} (h : k < l.length) : l[k]? = some (getJ l k) := by simp [getJ, List.getD_eq_getElem?_getD, h]
/-- A row that is owned, as a slice, and its cells. -/
theorem own_slice {w : World} {base : Nat} {e : TypeId} {size : Nat} {v : Value} {n : Nat} {xs : List Value} (h : w.ownsRow base e size v n xs) :
    ∃ ao cap, v = .slice ao n cap ∧ n ≤ cap ∧ cap ≤ 9223372036854775807 ∧ (∀ i u, xs[i]? = some u → ∃ g, ao = some ⟨g, 0, none⟩ ∧ v.ownBlock = some g ∧ w.cell? ⟨g, i, none⟩ = some u ∧ w.frozen? ⟨g, i, none⟩ = false) := by
  have h' := h
  rcases h.2 with ⟨h1, h0⟩ | ⟨g, cap, cur, hv, _, hg, hc, hm, _⟩
  · refine ⟨none, 0, by rw [h1, h0], by omega, by omega, fun i u hu => ?_⟩
    have := (List.getElem?_eq_some_iff.1 hu).1
    rw [h.1, h0] at this
    omega
  · refine ⟨_, _, hv, hc, by unfold maxLen at hm; exact hm, fun i u hu => ⟨g, rfl, by rw [hv]; rfl, ?_, by simp [World.frozen?, hg]⟩⟩
    have hcell := h'.cells (g := g) (by rw [hv]; rfl) i u hu
    have hadd : (⟨g, 0, none⟩ : Addr).add i = ⟨g, i, none⟩ := by unfold Addr.add; split <;> simp_all
    rw [hadd] at hcell
    exact hcell
theorem own_set {w : World} {base : Nat} {e : TypeId} {size : Nat} {v : Value} {n : Nat} {xs : List Value} (h : w.ownsRow base e size v n xs) {g : Nat} (hg : v.ownBlock = some g) (i : Nat) (u : Value) : (w.setCell ⟨g, i, none⟩ u).ownsRow base e size v n (xs.set i u) := by
  refine ⟨by rw [List.length_set]; exact h.1, ?_⟩
  rcases h.2 with ⟨h1, h0⟩ | ⟨g', cap, cur, hv, hb, hh, hc, hm, hs, ht⟩
  · rw [h1] at hg; cases hg
  · have e1 : g' = g := by rw [hv] at hg; simpa [Value.ownBlock] using hg
    subst e1
    refine .inr ⟨g', cap, cur.setIfInBounds i u, hv, hb, ?_, hc, hm, by simpa using hs, ?_⟩
    · simp [World.setCell, Array.getElem?_modify, hh]
    · rw [Array.toList_setIfInBounds, List.take_set, ht]
/-- The reference's device, in block m, its rows behind it. -/
structure RefD (w : World) (m : Nat) (d : Dv) (vi vj : Value) : Prop where
  c0 : w.cell? ⟨m, 0, none⟩ = some (.bool d.off)
  c1 : w.cell? ⟨m, 1, none⟩ = some vi
  c2 : w.cell? ⟨m, 2, none⟩ = some vj
  f0 : w.frozen? ⟨m, 0, none⟩ = false
  f1 : w.frozen? ⟨m, 1, none⟩ = false
  f2 : w.frozen? ⟨m, 2, none⟩ = false
  oi : w.ownsRow (m + 1) 64 3 vi d.items.length (itemsV d.items)
  oj : w.ownsRow (m + 1) 70 6 vj d.jobs.length (jobsV d.jobs)
  ne : ∀ g, vi.ownBlock = some g → vj.ownBlock ≠ some g
  good : Good d
theorem RefD.lt {w : World} {m : Nat} {d : Dv} {vi vj : Value} (h : RefD w m d vi vj) : m < w.heap.size := World.block_lt_of_cell? w _ h.c0
theorem RefD.gi {w : World} {m : Nat} {d : Dv} {vi vj : Value} (h : RefD w m d vi vj) {g : Nat} (e : vi.ownBlock = some g) : m + 1 ≤ g ∧ g < w.heap.size := h.oi.lt g e
theorem RefD.gj {w : World} {m : Nat} {d : Dv} {vi vj : Value} (h : RefD w m d vi vj) {g : Nat} (e : vj.ownBlock = some g) : m + 1 ≤ g ∧ g < w.heap.size := h.oj.lt g e
theorem RefD.keep {w w' : World} {m : Nat} {d : Dv} {vi vj : Value} {S : Nat → Prop} (h : RefD w m d vi vj) (hk : Keeps S w w') (hS : ∀ k, k < w.heap.size → S k → k < m) : RefD w' m d vi vj := by
  have hl := h.lt
  have sm : ¬ S m := fun s => by have := hS m hl s; omega
  exact ⟨by rw [hk.cell hl sm]; exact h.c0, by rw [hk.cell hl sm]; exact h.c1, by rw [hk.cell hl sm]; exact h.c2, by rw [hk.frozen hl sm]; exact h.f0, by rw [hk.frozen hl sm]; exact h.f1, by rw [hk.frozen hl sm]; exact h.f2,
    own_keep h.oi hk (fun g e s => by have := h.gi e; have := hS g this.2 s; omega), own_keep h.oj hk (fun g e s => by have := h.gj e; have := hS g this.2 s; omega), h.ne, h.good⟩
theorem RefD.below {w w' : World} {m : Nat} {d : Dv} {vi vj : Value} (h : RefD w m d vi vj) (hb : Below w.heap.size w w') : RefD w' m d vi vj := h.keep (Below.keeps (S := fun _ => False) hb) (fun _ _ s => s.elim)
theorem RefD.alloc {w : World} {m : Nat} {d : Dv} {vi vj : Value} (h : RefD w m d vi vj) (o : Obj) : RefD (w.alloc o) m d vi vj := h.below ((Below.refl _ _).alloc (Nat.le_refl _) o)
theorem RefD.drew {w : World} {m : Nat} {d : Dv} {vi vj : Value} (h : RefD w m d vi vj) (n : Nat) : RefD (w.drewN n) m d vi vj := h.below (below_drewN (Below.refl _ _) n)
/-- An item's cells. -/
theorem RefD.item {w : World} {m : Nat} {d : Dv} {vi vj : Value} (h : RefD w m d vi vj) : ∃ ao cap, vi = .slice ao d.items.length cap ∧ d.items.length ≤ cap ∧ cap ≤ 9223372036854775807 ∧ ∀ k, k < d.items.length → ∃ g, ao = some ⟨g, 0, none⟩ ∧ vi.ownBlock = some g ∧
    w.cell? ⟨g, k * 3, none⟩ = some (.int .i64 (getI d.items k).1.1) ∧ w.cell? ⟨g, k * 3 + 1, none⟩ = some (.int .i64 (getI d.items k).1.2) ∧ w.cell? ⟨g, k * 3 + 2, none⟩ = some (.string (getI d.items k).2) := by
  obtain ⟨ao, cap, hv, h1, h2, h3⟩ := own_slice h.oi
  refine ⟨ao, cap, hv, h1, h2, fun k hk => ?_⟩
  have hg := getI_some hk
  obtain ⟨g, e1, e2, e3, -⟩ := h3 (k * 3 + 0) _ (flat_get itV 3 itV_len d.items k 0 _ hg (by omega))
  obtain ⟨g', e1', e2', e3', -⟩ := h3 (k * 3 + 1) _ (flat_get itV 3 itV_len d.items k 1 _ hg (by omega))
  obtain ⟨g'', e1'', e2'', e3'', -⟩ := h3 (k * 3 + 2) _ (flat_get itV 3 itV_len d.items k 2 _ hg (by omega))
  rw [e1] at e1' e1''
  cases e1'; cases e1''
  exact ⟨g, e1, e2, e3, e3', e3''⟩
/-- A job's cells. -/
theorem RefD.job {w : World} {m : Nat} {d : Dv} {vi vj : Value} (h : RefD w m d vi vj) : ∃ ao cap, vj = .slice ao d.jobs.length cap ∧ d.jobs.length ≤ cap ∧ cap ≤ 9223372036854775807 ∧ ∀ k, k < d.jobs.length → ∃ g, ao = some ⟨g, 0, none⟩ ∧ vj.ownBlock = some g ∧
    w.cell? ⟨g, k * 6, none⟩ = some (.int .i64 (getJ d.jobs k).b.1) ∧ w.cell? ⟨g, k * 6 + 1, none⟩ = some (.int .i64 (getJ d.jobs k).b.2) ∧ w.cell? ⟨g, k * 6 + 2, none⟩ = some (.bool (getJ d.jobs k).wr) ∧ w.cell? ⟨g, k * 6 + 3, none⟩ = some (.string (getJ d.jobs k).s) ∧ w.cell? ⟨g, k * 6 + 4, none⟩ = some (.bool (getJ d.jobs k).no) ∧ w.cell? ⟨g, k * 6 + 5, none⟩ = some (.int .i64 ((getJ d.jobs k).st : Nat)) ∧ ∀ c, c < 6 → w.frozen? ⟨g, k * 6 + c, none⟩ = false := by
  obtain ⟨ao, cap, hv, h1, h2, h3⟩ := own_slice h.oj
  refine ⟨ao, cap, hv, h1, h2, fun k hk => ?_⟩
  have hg := getJ_some hk
  have hx : ∀ c u, c < 6 → (jbV (getJ d.jobs k))[c]? = some u → ∃ g, ao = some ⟨g, 0, none⟩ ∧ vj.ownBlock = some g ∧ w.cell? ⟨g, k * 6 + c, none⟩ = some u ∧ w.frozen? ⟨g, k * 6 + c, none⟩ = false := fun c u hc hu =>
    h3 (k * 6 + c) u (by rw [show jobsV d.jobs = d.jobs.flatMap jbV from rfl, flat_get jbV 6 jbV_len d.jobs k c _ hg hc]; exact hu)
  obtain ⟨g, e1, e2, e3, -⟩ := hx 0 _ (by omega) rfl
  have hy : ∀ c u, c < 6 → (jbV (getJ d.jobs k))[c]? = some u → w.cell? ⟨g, k * 6 + c, none⟩ = some u ∧ w.frozen? ⟨g, k * 6 + c, none⟩ = false := fun c u hc hu => by
    obtain ⟨g', q1, q2, q3, q4⟩ := hx c u hc hu
    rw [e1] at q1; cases q1
    exact ⟨q3, q4⟩
  refine ⟨g, e1, e2, e3, (hy 1 _ (by omega) rfl).1, (hy 2 _ (by omega) rfl).1, (hy 3 _ (by omega) rfl).1, (hy 4 _ (by omega) rfl).1, (hy 5 _ (by omega) rfl).1, fun c hc => ?_⟩
  obtain ⟨u, hu⟩ : ∃ u, (jbV (getJ d.jobs k))[c]? = some u := ⟨_, List.getElem?_eq_getElem (by rw [jbV_len]; exact hc)⟩
  exact (hy c u hc hu).2
end Go.Proofs.Ytjhndhibojndfaa
