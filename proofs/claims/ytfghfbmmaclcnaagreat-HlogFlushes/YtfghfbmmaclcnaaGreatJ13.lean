/- Parts of the proof: Ea Eb Ec Ed Ee Ef Eg. -/
import Derived.Test.YtfghfbmmaclcnaaGreatJ12
namespace Go.Proofs.YtfghfbmmaclcnaaGreat
set_option maxRecDepth 20000
open Go.RowKit
def itV (p : Bk × ByteArray) : List Value := [.int .i64 p.1.1, .int .i64 p.1.2, .string p.2]
def jbV (j : Job) : List Value := [.int .i64 j.b.1, .int .i64 j.b.2, .bool j.wr, .string j.s, .bool j.no, .int .i64 (j.st : Nat)]
def itemsV (l : List (Bk × ByteArray)) : List Value := l.flatMap itV
def jobsV (l : List Job) : List Value := l.flatMap jbV
def getIE (l : List (Bk × ByteArray)) (k : Nat) : Bk × ByteArray := l.getD k ((0, 0), ⟨#[]⟩)
def getJ (l : List Job) (k : Nat) : Job := l.getD k default
theorem flat_len {α : Type} (f : α → List Value) (n : Nat) (hf : ∀ x, (f x).length = n) (l : List α) : (l.flatMap f).length = l.length * n := by
  induction l with
  | nil => simp
  | cons a l ih => simp only [List.flatMap_cons, List.length_append, hf, ih, List.length_cons, Nat.add_mul]; omega
theorem flat_get {α : Type} (f : α → List Value) (n : Nat) (hf : ∀ x, (f x).length = n) (l : List α) (k c : Nat) (x : α) (hk : l[k]? = some x) (hc : c < n) : (l.flatMap f)[k * n + c]? = (f x)[c]? := by
  induction l generalizing k with
  | nil => simp at hk
  | cons a l ih =>
    match k with
    | 0 =>
      simp at hk; subst hk
      rw [List.flatMap_cons, Nat.zero_mul, Nat.zero_add, List.getElem?_append_left (by rw [hf]; exact hc)]
    | k + 1 =>
      have h1 : (k + 1) * n + c = n + (k * n + c) := by rw [Nat.add_mul]; omega
      rw [List.flatMap_cons, h1, List.getElem?_append_right (by rw [hf]; omega), hf, Nat.add_sub_cancel_left]
      exact ih k (by simpa using hk)
theorem flat_set {α : Type} (f : α → List Value) (n : Nat) (hf : ∀ x, (f x).length = n) (l : List α) (k : Nat) (x y : α) (hk : l[k]? = some x) (c : Nat) (hc : c < n) (u : Value) (hy : f y = (f x).set c u) : (l.set k y).flatMap f = (l.flatMap f).set (k * n + c) u := by
  induction l generalizing k with
  | nil => simp at hk
  | cons a l ih =>
    match k with
    | 0 =>
      simp at hk; subst hk
      rw [List.set_cons_zero, List.flatMap_cons, List.flatMap_cons, Nat.zero_mul, Nat.zero_add, List.set_append_left _ _ (by rw [hf]; exact hc), hy]
    | k + 1 =>
      have h1 : (k + 1) * n + c = n + (k * n + c) := by rw [Nat.add_mul]; omega
      rw [List.set_cons_succ, List.flatMap_cons, List.flatMap_cons, h1, List.set_append_right _ _ (by rw [hf]; omega), hf, Nat.add_sub_cancel_left, ih k (by simpa using hk)]
theorem itV_len (p : Bk × ByteArray) : (itV p).length = 3 := rfl
theorem jbV_len (j : Job) : (jbV j).length = 6 := rfl
theorem itemsV_len (l : List (Bk × ByteArray)) : (itemsV l).length = l.length * 3 := flat_len itV 3 itV_len l
theorem jobsV_len (l : List Job) : (jobsV l).length = l.length * 6 := flat_len jbV 6 jbV_len l
theorem itemsV_snoc (l : List (Bk × ByteArray)) (p : Bk × ByteArray) : itemsV (l ++ [p]) = itemsV l ++ [.int .i64 p.1.1, .int .i64 p.1.2, .string p.2] := by simp [itemsV, itV]
theorem jobsV_snoc (l : List Job) (j : Job) : jobsV (l ++ [j]) = jobsV l ++ [.int .i64 j.b.1, .int .i64 j.b.2, .bool j.wr, .string j.s, .bool j.no, .int .i64 (j.st : Nat)] := by simp [jobsV, jbV]
theorem getI_some {l : List (Bk × ByteArray)} {k : Nat} (h : k < l.length) : l[k]? = some (getIE l k) := by simp [getIE, List.getD_eq_getElem?_getD, h]
theorem getJ_some {l : List Job} {k : Nat} (h : k < l.length) : l[k]? = some (getJ l k) := by simp [getJ, List.getD_eq_getElem?_getD, h]
/-- A row that is owned, as a slice, and its cells. -/
theorem own_slice {w : World} {base : Nat} {e : TypeId} {size : Nat} {v : Value} {n : Nat} {xs : List Value} (h : w.ownsRow base e size v n xs) :
    ∃ ao cap, v = .slice ao n cap ∧ n ≤ cap ∧ cap ≤ 9223372036854775807 ∧ (∀ i u, xs[i]? = some u → ∃ g, ao = some ⟨g, 0, none⟩ ∧ v.ownBlock = some g ∧ w.cell? ⟨g, i, none⟩ = some u ∧ w.frozen? ⟨g, i, none⟩ = false) := by
  have h' := h
  rcases h.2 with ⟨h1, h0⟩ | ⟨g, cap, cur, hv, _, hg, hc, hm, _⟩
  · refine ⟨none, 0, by rw [h1, h0], by omega, by omega, fun i u hu => ?_⟩
    have := (List.getElem?_eq_some_iff.1 hu).1
    rw [h.1, h0] at this
    omega
  · refine ⟨_, _, hv, hc, by unfold maxLen at hm; exact hm, fun i u hu => ⟨g, rfl, by rw [hv]; rfl, ?_, by simp [World.frozen?, hg]⟩⟩
    have hcell := h'.cells (g := g) (by rw [hv]; rfl) i u hu
    have hadd : (⟨g, 0, none⟩ : Addr).add i = ⟨g, i, none⟩ := by unfold Addr.add; split <;> simp_all
    rw [hadd] at hcell
    exact hcell
theorem own_set {w : World} {base : Nat} {e : TypeId} {size : Nat} {v : Value} {n : Nat} {xs : List Value} (h : w.ownsRow base e size v n xs) {g : Nat} (hg : v.ownBlock = some g) (i : Nat) (u : Value) : (w.setCell ⟨g, i, none⟩ u).ownsRow base e size v n (xs.set i u) := by
  refine ⟨by rw [List.length_set]; exact h.1, ?_⟩
  rcases h.2 with ⟨h1, h0⟩ | ⟨g', cap, cur, hv, hb, hh, hc, hm, hs, ht⟩
  · rw [h1] at hg; cases hg
  · have e1 : g' = g := by rw [hv] at hg; simpa [Value.ownBlock] using hg
    subst e1
    refine .inr ⟨g', cap, cur.setIfInBounds i u, hv, hb, ?_, hc, hm, by simpa using hs, ?_⟩
    · simp [World.setCell, Array.getElem?_modify, hh]
    · rw [Array.toList_setIfInBounds, List.take_set, ht]
/-- The reference's device, in block m, its rows behind it. -/
structure RefD (w : World) (m : Nat) (d : Dv) (vi vj : Value) : Prop where
  c0 : w.cell? ⟨m, 0, none⟩ = some (.bool d.off)
  c1 : w.cell? ⟨m, 1, none⟩ = some vi
  c2 : w.cell? ⟨m, 2, none⟩ = some vj
  f0 : w.frozen? ⟨m, 0, none⟩ = false
  f1 : w.frozen? ⟨m, 1, none⟩ = false
  f2 : w.frozen? ⟨m, 2, none⟩ = false
  oi : w.ownsRow (m + 1) 231 3 vi d.items.length (itemsV d.items)
  oj : w.ownsRow (m + 1) 182 6 vj d.jobs.length (jobsV d.jobs)
  ne : ∀ g, vi.ownBlock = some g → vj.ownBlock ≠ some g
  good : Good d
theorem RefD.lt {w : World} {m : Nat} {d : Dv} {vi vj : Value} (h : RefD w m d vi vj) : m < w.heap.size := World.block_lt_of_cell? w _ h.c0
theorem RefD.gi {w : World} {m : Nat} {d : Dv} {vi vj : Value} (h : RefD w m d vi vj) {g : Nat} (e : vi.ownBlock = some g) : m + 1 ≤ g ∧ g < w.heap.size := h.oi.lt g e
theorem RefD.gj {w : World} {m : Nat} {d : Dv} {vi vj : Value} (h : RefD w m d vi vj) {g : Nat} (e : vj.ownBlock = some g) : m + 1 ≤ g ∧ g < w.heap.size := h.oj.lt g e
theorem RefD.keep {w w' : World} {m : Nat} {d : Dv} {vi vj : Value} {S : Nat → Prop} (h : RefD w m d vi vj) (hk : Keeps S w w') (hS : ∀ k, k < w.heap.size → S k → k < m) : RefD w' m d vi vj := by
  have hl := h.lt
  have sm : ¬ S m := fun s => by have := hS m hl s; omega
  exact ⟨by rw [hk.cell hl sm]; exact h.c0, by rw [hk.cell hl sm]; exact h.c1, by rw [hk.cell hl sm]; exact h.c2, by rw [hk.frozen hl sm]; exact h.f0, by rw [hk.frozen hl sm]; exact h.f1, by rw [hk.frozen hl sm]; exact h.f2,
    own_keep h.oi hk (fun g e s => by have := h.gi e; have := hS g this.2 s; omega), own_keep h.oj hk (fun g e s => by have := h.gj e; have := hS g this.2 s; omega), h.ne, h.good⟩
theorem RefD.below {w w' : World} {m : Nat} {d : Dv} {vi vj : Value} (h : RefD w m d vi vj) (hb : Below w.heap.size w w') : RefD w' m d vi vj := h.keep (Below.keeps (S := fun _ => False) hb) (fun _ _ s => s.elim)
theorem RefD.alloc {w : World} {m : Nat} {d : Dv} {vi vj : Value} (h : RefD w m d vi vj) (o : Obj) : RefD (w.alloc o) m d vi vj := h.below ((Below.refl _ _).alloc (Nat.le_refl _) o)
theorem RefD.drew {w : World} {m : Nat} {d : Dv} {vi vj : Value} (h : RefD w m d vi vj) (n : Nat) : RefD (w.drewN n) m d vi vj := h.below (below_drewN (Below.refl _ _) n)
/-- An item's cells. -/
theorem RefD.item {w : World} {m : Nat} {d : Dv} {vi vj : Value} (h : RefD w m d vi vj) : ∃ ao cap, vi = .slice ao d.items.length cap ∧ d.items.length ≤ cap ∧ cap ≤ 9223372036854775807 ∧ ∀ k, k < d.items.length → ∃ g, ao = some ⟨g, 0, none⟩ ∧ vi.ownBlock = some g ∧
    w.cell? ⟨g, k * 3, none⟩ = some (.int .i64 (getIE d.items k).1.1) ∧ w.cell? ⟨g, k * 3 + 1, none⟩ = some (.int .i64 (getIE d.items k).1.2) ∧ w.cell? ⟨g, k * 3 + 2, none⟩ = some (.string (getIE d.items k).2) := by
  obtain ⟨ao, cap, hv, h1, h2, h3⟩ := own_slice h.oi
  refine ⟨ao, cap, hv, h1, h2, fun k hk => ?_⟩
  have hg := getI_some hk
  obtain ⟨g, e1, e2, e3, -⟩ := h3 (k * 3 + 0) _ (flat_get itV 3 itV_len d.items k 0 _ hg (by omega))
  obtain ⟨g', e1', e2', e3', -⟩ := h3 (k * 3 + 1) _ (flat_get itV 3 itV_len d.items k 1 _ hg (by omega))
  obtain ⟨g'', e1'', e2'', e3'', -⟩ := h3 (k * 3 + 2) _ (flat_get itV 3 itV_len d.items k 2 _ hg (by omega))
  rw [e1] at e1' e1''
  cases e1'; cases e1''
  exact ⟨g, e1, e2, e3, e3', e3''⟩
/-- A job's cells. -/
theorem RefD.job {w : World} {m : Nat} {d : Dv} {vi vj : Value} (h : RefD w m d vi vj) : ∃ ao cap, vj = .slice ao d.jobs.length cap ∧ d.jobs.length ≤ cap ∧ cap ≤ 9223372036854775807 ∧ ∀ k, k < d.jobs.length → ∃ g, ao = some ⟨g, 0, none⟩ ∧ vj.ownBlock = some g ∧
    w.cell? ⟨g, k * 6, none⟩ = some (.int .i64 (getJ d.jobs k).b.1) ∧ w.cell? ⟨g, k * 6 + 1, none⟩ = some (.int .i64 (getJ d.jobs k).b.2) ∧ w.cell? ⟨g, k * 6 + 2, none⟩ = some (.bool (getJ d.jobs k).wr) ∧ w.cell? ⟨g, k * 6 + 3, none⟩ = some (.string (getJ d.jobs k).s) ∧ w.cell? ⟨g, k * 6 + 4, none⟩ = some (.bool (getJ d.jobs k).no) ∧ w.cell? ⟨g, k * 6 + 5, none⟩ = some (.int .i64 ((getJ d.jobs k).st : Nat)) ∧ ∀ c, c < 6 → w.frozen? ⟨g, k * 6 + c, none⟩ = false := by
  obtain ⟨ao, cap, hv, h1, h2, h3⟩ := own_slice h.oj
  refine ⟨ao, cap, hv, h1, h2, fun k hk => ?_⟩
  have hg := getJ_some hk
  have hx : ∀ c u, c < 6 → (jbV (getJ d.jobs k))[c]? = some u → ∃ g, ao = some ⟨g, 0, none⟩ ∧ vj.ownBlock = some g ∧ w.cell? ⟨g, k * 6 + c, none⟩ = some u ∧ w.frozen? ⟨g, k * 6 + c, none⟩ = false := fun c u hc hu =>
    h3 (k * 6 + c) u (by rw [show jobsV d.jobs = d.jobs.flatMap jbV from rfl, flat_get jbV 6 jbV_len d.jobs k c _ hg hc]; exact hu)
  obtain ⟨g, e1, e2, e3, -⟩ := hx 0 _ (by omega) rfl
  have hy : ∀ c u, c < 6 → (jbV (getJ d.jobs k))[c]? = some u → w.cell? ⟨g, k * 6 + c, none⟩ = some u ∧ w.frozen? ⟨g, k * 6 + c, none⟩ = false := fun c u hc hu => by
    obtain ⟨g', q1, q2, q3, q4⟩ := hx c u hc hu
    rw [e1] at q1; cases q1
    exact ⟨q3, q4⟩
  refine ⟨g, e1, e2, e3, (hy 1 _ (by omega) rfl).1, (hy 2 _ (by omega) rfl).1, (hy 3 _ (by omega) rfl).1, (hy 4 _ (by omega) rfl).1, (hy 5 _ (by omega) rfl).1, fun c hc => ?_⟩
  obtain ⟨u, hu⟩ : ∃ u, (jbV (getJ d.jobs k))[c]? = some u := ⟨_, List.getElem?_eq_getElem (by rw [jbV_len]; exact hc)⟩
  exact (hy c u hc hu).2
/-- The blocks that Do and Crash write to. -/
def RS (m : Nat) (vj : Value) : Nat → Prop := fun k => k = m ∨ vj.ownBlock = some k
theorem RefD.rs {w w' : World} {m : Nat} {d : Dv} {vi vj : Value} (h : RefD w m d vi vj) (K : Keeps (RS m vj) w w') : Below m w w' :=
  K.below (Nat.le_of_lt h.lt) (fun k s => by
    rcases s with e | e
    · omega
    · have := h.gj e; omega)
end Go.Proofs.YtfghfbmmaclcnaaGreat
namespace Go.Proofs.YtfghfbmmaclcnaaGreat
set_option maxRecDepth 20000
open Go.RowKit
theorem ref_may (w : World) (b : Bk) : Calls Tryz.prog 184 #[bkV b] w fun e w' => e = .returned (.bool (okB b)) ∧ Below w.heap.size w w' := by
  obtain ⟨a, n⟩ := b
  simp only [bkV]
  have hk : okB (a, n) = true ↔ 0 ≤ a ∧ a ≤ 2 ∧ 0 ≤ n ∧ n ≤ 63 := okB_iff
  have HK := hide hk
  have HB := hide ((Below.refl w.heap.size w).alloc (Nat.le_refl _) (.cells #[.int .i64 a, .int .i64 n] 59))
  generalize okB (a, n) = r at *
  clear hk
  have hf : ¬ (0 ≤ a ∧ a ≤ 2 ∧ 0 ≤ n ∧ n ≤ 63) → r = false := fun h => by rw [Bool.eq_false_iff]; exact fun e => h (HK.out.1 e)
  by_cases h1 : 0 ≤ a
  · by_cases h2 : a ≤ 2
    · by_cases h3 : 0 ≤ n
      · by_cases h4 : n ≤ 63
        · have hr : r = true := HK.out.2 ⟨h1, h2, h3, h4⟩
          rw [hr]
          clear hf
          go_enter Tryz.func184, Tryz.ntmps184
          go_wp2
          go_ret
          exact ⟨rfl, HB.out⟩
        · rw [hf (by omega)]
          clear hf
          go_enter Tryz.func184, Tryz.ntmps184
          go_wp2
          go_ret
          exact ⟨rfl, HB.out⟩
      · rw [hf (by omega)]
        clear hf
        go_enter Tryz.func184, Tryz.ntmps184
        go_wp2
        go_ret
        exact ⟨rfl, HB.out⟩
    · rw [hf (by omega)]
      clear hf
      go_enter Tryz.func184, Tryz.ntmps184
      go_wp2
      go_ret
      exact ⟨rfl, HB.out⟩
  · rw [hf (by omega)]
    clear hf
    go_enter Tryz.func184, Tryz.ntmps184
    go_wp2
    go_ret
    exact ⟨rfl, HB.out⟩
/-- A cell of the struct itself is written. -/
theorem RefD.off {w : World} {m : Nat} {d : Dv} {vi vj : Value} (h : RefD w m d vi vj) (o : Bool) (g : Good { d with off := o }) : RefD (w.setCell ⟨m, 0, none⟩ (.bool o)) m { d with off := o } vi vj ∧ Below m w (w.setCell ⟨m, 0, none⟩ (.bool o)) := by
  have K : Keeps (fun k => k = m) w (w.setCell ⟨m, 0, none⟩ (.bool o)) := (Keeps.refl (fun k => k = m) w).setCell ⟨m, 0, none⟩ (fun _ => rfl) _
  refine ⟨⟨World.cell?_setCell_same _ _ _ h.c0, ?_, ?_, ?_, ?_, ?_, own_keep h.oi K (fun k e e' => by have := h.gi e; omega), own_keep h.oj K (fun k e e' => by have := h.gj e; omega), h.ne, g⟩, K.below (Nat.le_of_lt h.lt) (fun k e => by omega)⟩
  · rw [World.cell?_setCell_other _ _ _ _ (by simp)]; exact h.c1
  · rw [World.cell?_setCell_other _ _ _ _ (by simp)]; exact h.c2
  · rw [World.frozen?_setCell]; exact h.f0
  · rw [World.frozen?_setCell]; exact h.f1
  · rw [World.frozen?_setCell]; exact h.f2
/-- At. -/
def atB (l : List Job) (x : Int) (st : Nat) : Bool := match jobAt l x with | some j => decide (j.st = st) | none => false
theorem jobAt_getJ {l : List Job} {x : Int} (h1 : 1 ≤ x) (h2 : x ≤ l.length) : jobAt l x = some (getJ l (x - 1).toNat) := by
  unfold jobAt
  rw [if_pos h1, getJ_some (by omega)]
theorem ref_at {w : World} {m : Nat} {d : Dv} {vi vj : Value} (h : RefD w m d vi vj) (x : Int) (hx : okI x) (st : Nat) :
    Calls Tryz.prog 121 #[.pointer (some ⟨m, 0, none⟩), .int .i64 x, .int .i64 (st : Int)] w fun e w' => e = .returned (.bool (atB d.jobs x st)) ∧ w' = w := by
  have hxb := bounds_i64 hx
  obtain ⟨ao, cap, hv, hc1, hc2, hj⟩ := h.job
  have c2 := h.c2
  rw [hv] at c2
  have hfew := h.good.few
  by_cases h1 : 1 ≤ x
  · by_cases h2 : x ≤ d.jobs.length
    · obtain ⟨k, hk⟩ : ∃ k : Nat, x = (k : Int) + 1 := ⟨(x - 1).toNat, by omega⟩
      have e : atB d.jobs x st = decide ((getJ d.jobs k).st = st) := by
        unfold atB
        rw [jobAt_getJ h1 h2, show (x - 1).toNat = k by omega]
      rw [e]
      obtain ⟨g, e1, -, -, -, -, -, -, e5, -⟩ := hj k (by omega)
      subst e1 hk
      have i1 : ((k : Int) + 1 - 1) = (k : Int) := by omega
      have i2 : k < d.jobs.length := by omega
      generalize (getJ d.jobs k).st = s1 at *
      generalize d.jobs.length = J at *
      by_cases hs : s1 = st
      · subst hs
        simp only [decide_true]
        clear h hj e hv
        go_enter Tryz.func121, Tryz.ntmps121
        go_wp2
        go_ret
        exact ⟨rfl, rfl⟩
      · have hs' : ((s1 : Int) == (st : Int)) = false := by simp; omega
        simp only [hs, decide_false]
        clear h hj e hv
        go_enter Tryz.func121, Tryz.ntmps121
        go_wp2
        go_ret
        exact ⟨rfl, rfl⟩
    · have e : atB d.jobs x st = false := by
        unfold atB jobAt
        rw [if_pos h1, List.getElem?_eq_none (by omega)]
      rw [e]
      generalize d.jobs.length = J at *
      clear h hj e hv
      go_enter Tryz.func121, Tryz.ntmps121
      go_wp2
      go_ret
      exact ⟨rfl, rfl⟩
  · have e : atB d.jobs x st = false := by
      unfold atB jobAt
      rw [if_neg h1]
    rw [e]
    clear h hj e hv
    go_enter Tryz.func121, Tryz.ntmps121
    go_wp2
    go_ret
    exact ⟨rfl, rfl⟩
theorem lookL_at {l : List (Bk × ByteArray)} {b : Bk} {k : Nat} (h : ∀ j, j < k → (getIE l j).1 ≠ b) (hk : k < l.length) (e : (getIE l k).1 = b) : lookL l b = some (getIE l k).2 := by
  unfold lookL
  have : l.find? (fun p => decide (p.1 = b)) = some (getIE l k) := by
    rw [List.find?_eq_some_iff_getElem]
    refine ⟨by simp [e], k, hk, by simp [getIE, List.getD_eq_getElem?_getD, hk], fun j hj => ?_⟩
    have := h j hj
    simp [getIE, List.getD_eq_getElem?_getD, show j < l.length by omega] at this
    simpa using this
  rw [this]; rfl
theorem lookL_no {l : List (Bk × ByteArray)} {b : Bk} (h : ∀ j, j < l.length → (getIE l j).1 ≠ b) : lookL l b = none := by
  unfold lookL
  rw [List.find?_eq_none.2 (fun p hp => by
    obtain ⟨j, hj⟩ := List.getElem?_of_mem hp
    have hl := (List.getElem?_eq_some_iff.1 hj).1
    have := h j hl
    rw [getI_some hl] at hj
    cases hj
    simpa using this)]
  rfl
set_option maxHeartbeats 1000000 in
theorem ref_peek {w : World} {m : Nat} {d : Dv} {vi vj : Value} (h : RefD w m d vi vj) (b : Bk) :
    Calls Tryz.prog 123 #[.pointer (some ⟨m, 0, none⟩), bkV b] w fun e w' => e = .returned (.tuple #[.string ((lookL d.items b).getD ⟨#[]⟩), .bool (lookL d.items b).isSome]) ∧ Below w.heap.size w w' := by
  obtain ⟨a, n⟩ := b
  simp only [bkV]
  have h1 := h.alloc (.cells #[.int .i64 a, .int .i64 n] 59)
  obtain ⟨ao, cap, hv, hc1, hc2, hj⟩ := h1.item
  have c1 := h1.c1
  rw [hv] at c1
  have hfew := items_few h.good.rise (fun p hp => (h.good.it p hp).1)
  have x0 : (w.alloc (.cells #[.int .i64 a, .int .i64 n] 59)).cell? ⟨w.heap.size, 0, none⟩ = some (.int .i64 a) := by simp
  have x1 : (w.alloc (.cells #[.int .i64 a, .int .i64 n] 59)).cell? ⟨w.heap.size, 1, none⟩ = some (.int .i64 n) := by simp
  have HB := hide ((Below.refl w.heap.size w).alloc (Nat.le_refl _) (.cells #[.int .i64 a, .int .i64 n] 59))
  have HA := hide (fun k (hk : k < d.items.length) (hn : ∀ j, j < k → (getIE d.items j).1 ≠ (a, n)) (e : (getIE d.items k).1 = (a, n)) => lookL_at hn hk e)
  have HN := hide (fun (hn : ∀ j, j < d.items.length → (getIE d.items j).1 ≠ (a, n)) => lookL_no hn)
  have HJ := hide hj
  clear h h1 hv hj
  generalize lookL d.items (a, n) = lk at *
  generalize hL : d.items.length = L at *
  go_enter Tryz.func123, Tryz.ntmps123
  go_wp2
  generalize hxx : w.alloc (.cells #[.int .i64 a, .int .i64 n] 59) = x at *
  generalize hbb : w.heap.size = B at *
  clear hxx
  go_loopw [6] (fun v wr => ∃ k : Nat, k ≤ L ∧ v = .int .i64 k ∧ Hid (∀ j, j < k → (getIE d.items j).1 ≠ (a, n)) ∧ ∃ q, wr = x.drewN q) (fun v _ => L - (intOf v).toNat)
  case atStart => exact ⟨0, Nat.zero_le _, rfl, fun j hj => by omega, 0, rfl⟩
  case round =>
    obtain ⟨k, hk, rfl, hno, q, rfl⟩ := hrel
    by_cases hlt : k < L
    · obtain ⟨g, rfl, -, y0, y1, y2⟩ := HJ.out k hlt
      have HE : Hid ((getIE d.items k).1 = (a, n) → lk = some (getIE d.items k).2) := fun e => HA.out k hlt hno.out e
      have HK : Hid ((getIE d.items k).1 ≠ (a, n) → ∀ j, j < k + 1 → (getIE d.items j).1 ≠ (a, n)) := fun hne j hj => by
        by_cases e : j = k
        · subst e; exact hne
        · exact hno.out j (by omega)
      generalize getIE d.items k = it at *
      obtain ⟨⟨ia, inn⟩, is⟩ := it
      simp only at y0 y1 y2 HE HK
      by_cases e1 : ia = a
      · by_cases e2 : inn = n
        · subst e1 e2
          have hlk := HE.out rfl
          subst hlk
          clear HE HA HN HJ hno HK
          go_wp2
          go_quiet ((fail))
          go_wp2
          go_ret2
          exact ⟨rfl, by rw [hbb]; exact below_drewN HB.out _⟩
        · have HX := hide (HK.out (fun e => e2 (congrArg Prod.snd e)))
          subst e1
          clear HE HA HN HJ hno HK
          go_wp2
          go_quiet ((fail))
          go_wp2
          go_roundw
          case rel => exact ⟨k + 1, by omega, by go_num, HX.out, _, rfl⟩
          case measure => simp [intOf]; omega
      · have HX := hide (HK.out (fun e => e1 (congrArg Prod.fst e)))
        clear HE HA HN HJ hno HK
        go_wp2
        go_quiet ((fail))
        go_wp2
        go_roundw
        case rel => exact ⟨k + 1, by omega, by go_num, HX.out, _, rfl⟩
        case measure => simp [intOf]; omega
    · have hlk := HN.out (fun j hj => hno.out j (by omega))
      subst hlk
      clear HA HN HJ hno
      go_wp2
      go_ret2
      exact ⟨rfl, by rw [hbb]; exact below_drewN HB.out _⟩
end Go.Proofs.YtfghfbmmaclcnaaGreat
namespace Go.Proofs.YtfghfbmmaclcnaaGreat
set_option maxRecDepth 20000
open Go.RowKit
theorem Tryz.infoIt : (Tryz.prog.info? 231).map (fun i => (i.zero, i.size, i.bytes)) = some (some (.agg #[.int .i64 0, .int .i64 0, .string ⟨#[]⟩]), 3, 32) := by kernel_rfl
theorem Tryz.infoJb : (Tryz.prog.info? 182).map (fun i => (i.zero, i.size, i.bytes)) = some (some (.agg #[.int .i64 0, .int .i64 0, .bool false, .string ⟨#[]⟩, .bool false, .int .i64 0]), 6, 56) := by kernel_rfl
theorem three_cells {a b : Int} {s : ByteArray} : ∀ u ∈ [Value.int .i64 a, Value.int .i64 b, Value.string s], u.oneCell' = true := by
  intro u hu; simp at hu; rcases hu with rfl | rfl | rfl <;> rfl
theorem six_cells {a b st : Int} {wr no : Bool} {s : ByteArray} : ∀ u ∈ [Value.int .i64 a, Value.int .i64 b, .bool wr, .string s, .bool no, .int .i64 st], u.oneCell' = true := by
  intro u hu; simp at hu; rcases hu with rfl | rfl | rfl | rfl | rfl | rfl <;> rfl
theorem cell_3 (w : World) (a b c : Value) (t : TypeId) : ∀ j u, [a, b, c][j]? = some u → (w.alloc (.cells #[a, b, c] t)).cell? ((⟨w.heap.size, 0, none⟩ : Addr).add j) = some u := by
  intro j u hj
  match j, hj with
  | 0, hj => simp at hj; subst hj; simp [Addr.add]
  | 1, hj => simp at hj; subst hj; simp [Addr.add]
  | 2, hj => simp at hj; subst hj; simp [Addr.add]
theorem layA_len (b : Bk) (s : ByteArray) (l : List (Bk × ByteArray)) : (layA b s l).1.length ≤ l.length + 1 := by
  rcases layA_is b s l with ⟨-, h, -⟩ | ⟨-, l1, l2, h, h2, -⟩
  · rw [h]; omega
  · rw [h]
    have : (l1 ++ l2).length ≤ l.length := by rw [h2]; exact List.length_filter_le _ _
    simp at this ⊢; omega
theorem getI_take (l : List (Bk × ByteArray)) (k : Nat) (h : k < l.length) : l.take (k + 1) = l.take k ++ [getIE l k] := by
  rw [List.take_succ_eq_append_getElem h]; simp [getIE, List.getD_eq_getElem?_getD, h]
theorem layA_take (b : Bk) (s : ByteArray) (l : List (Bk × ByteArray)) (k : Nat) (h : k < l.length) : layA b s (l.take (k + 1)) = layS b s (layA b s (l.take k)) (getIE l k) := by rw [getI_take l k h, layA_snoc]
theorem layS_none {b : Bk} {s : ByteArray} {l : List (Bk × ByteArray)} {p : Bool} {x : Bk × ByteArray} (h : ¬ (p = false ∧ leB b x.1 = true)) (hx : x.1 = b) : layS b s (l, p) x = (l, p) := by unfold layS; simp only [if_neg h, if_pos hx]
theorem layS_x {b : Bk} {s : ByteArray} {l : List (Bk × ByteArray)} {p : Bool} {x : Bk × ByteArray} (h : ¬ (p = false ∧ leB b x.1 = true)) (hx : ¬ x.1 = b) : layS b s (l, p) x = (l ++ [x], p) := by unfold layS; simp only [if_neg h, if_neg hx]
theorem layS_b {b : Bk} {s : ByteArray} {l : List (Bk × ByteArray)} {x : Bk × ByteArray} (h : leB b x.1 = true) (hx : x.1 = b) : layS b s (l, false) x = (l ++ [(b, s)], true) := by unfold layS; simp only [h, and_self, if_true, if_pos hx]
theorem layS_bx {b : Bk} {s : ByteArray} {l : List (Bk × ByteArray)} {x : Bk × ByteArray} (h : leB b x.1 = true) (hx : ¬ x.1 = b) : layS b s (l, false) x = (l ++ [(b, s)] ++ [x], true) := by unfold layS; simp only [h, and_self, if_true, if_neg hx]
/-- What the loop of Lay has: a row of its own. -/
def OutR (w : World) (B : Nat) (v : Value) (l : List (Bk × ByteArray)) : Prop := w.ownsRow B 231 3 v l.length (itemsV l)
/-- What an append of an item does. -/
theorem OutR.step {w1 x y : World} {B : Nat} {v v' : Value} {l : List (Bk × ByteArray)} {p : Bk × ByteArray} {o : Obj} (hb : Below B w1 x) (hB : B ≤ x.heap.size) (h0 : OutR x B v l)
    (h : y.ownsRow B 231 3 v' (l.length + 1) (itemsV l ++ [.int .i64 p.1.1, .int .i64 p.1.2, .string p.2])) (hg : (x.alloc o).grownBy y v.ownBlock) :
    OutR y B v' (l ++ [p]) ∧ Below B w1 y ∧ x.heap.size ≤ y.heap.size ∧ (∀ q u, x.cell? q = some u → v.ownBlock ≠ some q.block → y.cell? q = some u) := by
  refine ⟨by unfold OutR; rw [itemsV_snoc, List.length_append]; exact h, ((hb.alloc hB o).grown hg (by simp; omega) (fun k hk => (h0.lt k hk).1)), by have := hg.size; simp at this; omega, fun q u hq hne => ?_⟩
  have hl := World.block_lt_of_cell? x _ hq
  rw [hg.cell_far q (by simp; omega) (fun e => hne e.symm)]
  exact cell_alloc hq o
theorem RefD.setItems {w y : World} {m : Nat} {d : Dv} {vi vj v : Value} {l : List (Bk × ByteArray)} {B : Nat} (h : RefD w m d vi vj) (hb : Below w.heap.size w y) (hB : w.heap.size ≤ B) (ho : OutR y B v l) (g : Good { d with items := l }) :
    RefD (y.setCell ⟨m, 1, none⟩ v) m { d with items := l } v vj ∧ Keeps (fun k => k = m) w (y.setCell ⟨m, 1, none⟩ v) ∧ (∀ q, v.ownBlock = some q → w.heap.size ≤ q) := by
  have hy := h.below hb
  have hl := h.lt
  have K : Keeps (fun k => k = m) y (y.setCell ⟨m, 1, none⟩ v) := (Keeps.refl (fun k => k = m) y).setCell ⟨m, 1, none⟩ (fun _ => rfl) _
  have ho' : (y.setCell ⟨m, 1, none⟩ v).ownsRow B 231 3 v l.length (itemsV l) := own_keep ho K (fun k e e' => by have := (ho.lt k e).1; omega)
  refine ⟨⟨?_, World.cell?_setCell_same _ _ _ hy.c1, ?_, ?_, ?_, ?_, ?_, own_keep hy.oj K (fun k e e' => by have := hy.gj e; omega), fun k e e' => ?_, g⟩, (Below.keeps (S := fun k => k = m) hb).trans K (fun _ _ e => e), fun q e => Nat.le_trans hB (ho.lt q e).1⟩
  · rw [World.cell?_setCell_other _ _ _ _ (by simp)]; exact hy.c0
  · rw [World.cell?_setCell_other _ _ _ _ (by simp)]; exact hy.c2
  · rw [World.frozen?_setCell]; exact hy.f0
  · rw [World.frozen?_setCell]; exact hy.f1
  · rw [World.frozen?_setCell]; exact hy.f2
  · refine ⟨ho'.1, ?_⟩
    rcases ho'.2 with h1 | ⟨g', cap, cur, h1, h2, h3⟩
    · exact .inl h1
    · exact .inr ⟨g', cap, cur, h1, by omega, h3⟩
  · have h1 := (ho.lt k e).1
    have h2 := (h.gj e').2
    omega
set_option maxHeartbeats 4000000 in
set_option maxRecDepth 10000 in
theorem ref_lay {w : World} {m : Nat} {d : Dv} {vi vj : Value} (h : RefD w m d vi vj) (b : Bk) (s : ByteArray) (hb : okB b = true) (hs : s.size ≤ 131072) :
    Calls Tryz.prog 122 #[.pointer (some ⟨m, 0, none⟩), bkV b, .string s] w fun e w' => e = .returned (.tuple #[]) ∧ (∃ vi', RefD w' m { d with items := lay b s d.items } vi' vj ∧ ∀ q, vi'.ownBlock = some q → w.heap.size ≤ q) ∧ Keeps (fun k => k = m) w w' := by
  obtain ⟨i0, hi, hz0, hz1, hz2⟩ := info_parts Tryz.infoIt
  have hgood : Good { d with items := lay b s d.items } := ⟨lay_rising h.good.rise, lay_good hb hs h.good.it, h.good.jb, h.good.fly, h.good.few, h.good.nn⟩
  obtain ⟨a, n⟩ := b
  simp only [bkV]
  have hfew := items_few h.good.rise (fun p hp => (h.good.it p hp).1)
  have hLY : Hid (lay (a, n) s d.items = if (layA (a, n) s d.items).2 then (layA (a, n) s d.items).1 else (layA (a, n) s d.items).1 ++ [((a, n), s)]) := rfl
  have hALL : Hid (d.items.take d.items.length = d.items) := List.take_length
  have HEND := hide (fun (y : World) (v : Value) (B : Nat) (hb : Below w.heap.size w y) (hB : w.heap.size ≤ B) (ho : OutR y B v (lay (a, n) s d.items)) => h.setItems hb hB ho hgood)
  have HT := hide (fun k (hk : k < d.items.length) => layA_take (a, n) s d.items k hk)
  have HLN := hide (fun k => layA_len (a, n) s (d.items.take k))
  have h1 := h.alloc (.cells #[.int .i64 a, .int .i64 n] 59)
  have H1 := hide h1
  have hBw := hide ((Below.refl w.heap.size w).alloc (Nat.le_refl _) (.cells #[.int .i64 a, .int .i64 n] 59))
  have hm := h.lt
  clear h h1 hgood hb hs
  go_enter Tryz.func122, Tryz.ntmps122
  go_wp2
  have p0 : (w.alloc (.cells #[.int .i64 a, .int .i64 n] 59)).cell? ⟨w.heap.size, 0, none⟩ = some (.int .i64 a) := by simp
  have p1 : (w.alloc (.cells #[.int .i64 a, .int .i64 n] 59)).cell? ⟨w.heap.size, 1, none⟩ = some (.int .i64 n) := by simp
  have hO0 := World.ownsRow_made (base := w.heap.size + 1) (e := 231) (size := 3) (w.alloc (.cells #[.int .i64 a, .int .i64 n] 59)) #[] 0 (by simp) (by decide) (by simp)
  have hb0 := (Below.refl (w.heap.size + 1) (w.alloc (.cells #[.int .i64 a, .int .i64 n] 59))).alloc (by simp) (.cells #[] 231)
  have hs0 : w.heap.size + 1 ≤ ((w.alloc (.cells #[.int .i64 a, .int .i64 n] 59)).alloc (.cells #[] 231)).heap.size := by simp
  have hsz1 : (w.alloc (.cells #[.int .i64 a, .int .i64 n] 59)).heap.size = w.heap.size + 1 := by simp
  rw [hsz1] at hO0
  generalize (w.alloc (.cells #[.int .i64 a, .int .i64 n] 59)).alloc (.cells #[] 231) = w2 at *
  generalize w.alloc (.cells #[.int .i64 a, .int .i64 n] 59) = w1 at *
  have HZ1 := hide hsz1
  have HBB : Hid (w.heap.size = w.heap.size) := rfl
  clear hsz1
  obtain ⟨B0, hB0⟩ : ∃ B0, Hid (w.heap.size = B0) := ⟨_, rfl⟩
  obtain ⟨B, hB⟩ : ∃ B, Hid (B0 + 1 = B) := ⟨_, rfl⟩
  rw [hB0.out] at p0 p1 hO0 hb0 hs0 HZ1 hm ⊢
  rw [hB.out] at hO0 hb0 hs0 HZ1 ⊢
  have hBlt : B0 < B := by have := hB.out; omega
  generalize hLL : d.items.length = L at *
  go_loopw [6, 7, 8] (fun vo vp vi' wr => ∃ k : Nat, k ≤ L ∧ vi' = .int .i64 k ∧ vp = .bool (layA (a, n) s (d.items.take k)).2 ∧ OutR wr B vo (layA (a, n) s (d.items.take k)).1 ∧ Below B w1 wr ∧ B ≤ wr.heap.size) (fun _ _ vi' _ => L - (intOf vi').toNat)
  case atStart => exact ⟨0, Nat.zero_le _, rfl, rfl, hO0, hb0, hs0⟩
  case round =>
    clear hO0 hb0 hs0
    obtain ⟨k, hk, rfl, rfl, hown0, hbel, hz⟩ := hrel
    have hRw := H1.out.below (HZ1.out ▸ hbel)
    obtain ⟨ao, cap, hv, hc1, hc2, hit⟩ := hRw.item
    have c1 := hRw.c1
    rw [hv, hLL] at c1
    have HLk := HLN.out k
    rw [List.length_take] at HLk
    have b0 : wr.cell? ⟨B0, 0, none⟩ = some (.int .i64 a) := by rw [hbel.cell hBlt]; exact p0
    have b1 : wr.cell? ⟨B0, 1, none⟩ = some (.int .i64 n) := by rw [hbel.cell hBlt]; exact p1
    by_cases hlt : k < L
    · obtain ⟨g, rfl, -, e0, e1, e2⟩ := hit k (by omega)
      have HT2 := hide (HT.out k (by omega))
      generalize getIE d.items k = it at *
      obtain ⟨⟨ia, inn⟩, is⟩ := it
      simp only at e0 e1 e2
      generalize layA (a, n) s (d.items.take k) = st at *
      obtain ⟨lk, pk⟩ := st
      simp only at HLk hown0
      have hlk : lk.length ≤ 194 := by omega
      have O1 : OutR (wr.alloc (.cells #[.int .i64 ia, .int .i64 inn, .string is] 231)) B u6 lk := World.ownsRow.alloc hown0 _
      have Bl1 : Below B w1 (wr.alloc (.cells #[.int .i64 ia, .int .i64 inn, .string is] 231)) := hbel.alloc hz _
      have zl1 : B ≤ (wr.alloc (.cells #[.int .i64 ia, .int .i64 inn, .string is] 231)).heap.size := by simp; omega
      have q0 : (wr.alloc (.cells #[.int .i64 ia, .int .i64 inn, .string is] 231)).cell? ⟨wr.heap.size, 0, none⟩ = some (.int .i64 ia) := by simp
      have q1 : (wr.alloc (.cells #[.int .i64 ia, .int .i64 inn, .string is] 231)).cell? ⟨wr.heap.size, 1, none⟩ = some (.int .i64 inn) := by simp
      have q2 : (wr.alloc (.cells #[.int .i64 ia, .int .i64 inn, .string is] 231)).cell? ⟨wr.heap.size, 2, none⟩ = some (.string is) := by simp
      have p0 : (wr.alloc (.cells #[.int .i64 ia, .int .i64 inn, .string is] 231)).cell? ⟨B0, 0, none⟩ = some (.int .i64 a) := cell_alloc b0 _
      have p1 : (wr.alloc (.cells #[.int .i64 ia, .int .i64 inn, .string is] 231)).cell? ⟨B0, 1, none⟩ = some (.int .i64 n) := cell_alloc b1 _
      have hcases : True := trivial
      clear hRw hit hv HT HEND HLN
      cases pk with
      | true =>
        by_cases ha : a = ia
        · subst ha
          have hle : ¬ (true = false ∧ leB (a, n) (a, inn) = true) := by simp
          by_cases hn : n = inn
          · subst hn
            have hxx : (a, n) = (a, n) := rfl
            have HT1 : Hid (layA (a, n) s (d.items.take (k + 1)) = (lk, true)) := HT2.out.trans (layS_none hle hxx)
            clear hcases HT2
            go_wp2
            go_roundw
            case rel => exact ⟨k + 1, by omega, by go_num, by rw [HT1.out], by rw [HT1.out]; exact O1, Bl1, zl1⟩
            case measure => simp [intOf]; omega
          · have hxx : ¬ (a, inn) = (a, n) := fun e => hn (congrArg Prod.snd e).symm
            have hn' : ¬ inn = n := fun e => hn e.symm
            have HT1 : Hid (layA (a, n) s (d.items.take (k + 1)) = (lk ++ [((a, inn), is)], true)) := HT2.out.trans (layS_x hle hxx)
            clear hcases HT2
            have howny2 := World.ownsRow.alloc O1 (.cells #[.int .i64 a, .int .i64 inn, .string is] 231)
            have hnewsy2 : ∀ j u, [Value.int .i64 a, .int .i64 inn, .string is][j]? = some u → ((wr.alloc (.cells #[.int .i64 a, .int .i64 inn, .string is] 231)).alloc (.cells #[.int .i64 a, .int .i64 inn, .string is] 231)).cell? ((⟨wr.heap.size + 1, 0, none⟩ : Addr).add j) = some u := by
              have := cell_3 (wr.alloc (.cells #[.int .i64 a, .int .i64 inn, .string is] 231)) (.int .i64 a) (.int .i64 inn) (.string is) 231
              simpa using this
            go_wp2_with (at_builtin; refine wpList_append_lies _ rfl _ _ 80 rfl B 231 i0 (.agg #[.int .i64 0, .int .i64 0, .string ⟨#[]⟩]) 3 32 Tryz.underlying80 hi hz0 hz1 hz2 rfl (by decide) _ _ _ rfl howny2 ⟨wr.heap.size + 1, 0, none⟩ 1 1 [.int .i64 a, .int .i64 inn, .string is] rfl rfl hnewsy2 three_cells (by decide) ?c3 ?c4 ?c5 (wr.heap.size + 2) (by simp) ?_)
            case c3 => unfold maxLen; omega
            case c4 => omega
            case c5 => first | omega | (simp; omega)
            intro gy2 capy2 y2 hown' hgrow hat hlt'
            have hsty2 := OutR.step (p := ((a, inn), is)) (v' := .slice (some ⟨gy2, 0, none⟩) (lk.length + 1) capy2) Bl1 zl1 O1 (by first | exact hown' | (rw [List.length_append]; exact hown')) hgrow
            have Oy2 := hsty2.1
            have Bly2 := hsty2.2.1
            have zly2 : B ≤ y2.heap.size := Nat.le_trans zl1 hsty2.2.2.1
            have hcly2 := hsty2.2.2.2
            clear howny2 hnewsy2 hown' hgrow hat hlt' hsty2
            clear hcly2
            go_wp2
            go_roundw
            case rel => exact ⟨k + 1, by omega, by go_num, by rw [HT1.out], by rw [HT1.out]; exact Oy2, Bly2, zly2⟩
            case measure => simp [intOf]; omega
        · have hle : ¬ (true = false ∧ leB (a, n) (ia, inn) = true) := by simp
          have hxx : ¬ (ia, inn) = (a, n) := fun e => ha (congrArg Prod.fst e).symm
          have ha' : ¬ ia = a := fun e => ha e.symm
          have HT1 : Hid (layA (a, n) s (d.items.take (k + 1)) = (lk ++ [((ia, inn), is)], true)) := HT2.out.trans (layS_x hle hxx)
          clear hcases HT2
          have howny2 := World.ownsRow.alloc O1 (.cells #[.int .i64 ia, .int .i64 inn, .string is] 231)
          have hnewsy2 : ∀ j u, [Value.int .i64 ia, .int .i64 inn, .string is][j]? = some u → ((wr.alloc (.cells #[.int .i64 ia, .int .i64 inn, .string is] 231)).alloc (.cells #[.int .i64 ia, .int .i64 inn, .string is] 231)).cell? ((⟨wr.heap.size + 1, 0, none⟩ : Addr).add j) = some u := by
            have := cell_3 (wr.alloc (.cells #[.int .i64 ia, .int .i64 inn, .string is] 231)) (.int .i64 ia) (.int .i64 inn) (.string is) 231
            simpa using this
          go_wp2_with (at_builtin; refine wpList_append_lies _ rfl _ _ 80 rfl B 231 i0 (.agg #[.int .i64 0, .int .i64 0, .string ⟨#[]⟩]) 3 32 Tryz.underlying80 hi hz0 hz1 hz2 rfl (by decide) _ _ _ rfl howny2 ⟨wr.heap.size + 1, 0, none⟩ 1 1 [.int .i64 ia, .int .i64 inn, .string is] rfl rfl hnewsy2 three_cells (by decide) ?c3 ?c4 ?c5 (wr.heap.size + 2) (by simp) ?_)
          case c3 => unfold maxLen; omega
          case c4 => omega
          case c5 => first | omega | (simp; omega)
          intro gy2 capy2 y2 hown' hgrow hat hlt'
          have hsty2 := OutR.step (p := ((ia, inn), is)) (v' := .slice (some ⟨gy2, 0, none⟩) (lk.length + 1) capy2) Bl1 zl1 O1 (by first | exact hown' | (rw [List.length_append]; exact hown')) hgrow
          have Oy2 := hsty2.1
          have Bly2 := hsty2.2.1
          have zly2 : B ≤ y2.heap.size := Nat.le_trans zl1 hsty2.2.2.1
          have hcly2 := hsty2.2.2.2
          clear howny2 hnewsy2 hown' hgrow hat hlt' hsty2
          clear hcly2
          go_wp2
          go_roundw
          case rel => exact ⟨k + 1, by omega, by go_num, by rw [HT1.out], by rw [HT1.out]; exact Oy2, Bly2, zly2⟩
          case measure => simp [intOf]; omega
      | false =>
        by_cases ha : a < ia
        · have hle : leB (a, n) (ia, inn) = true := by simp [leB]; omega
          have hxx : ¬ (ia, inn) = (a, n) := fun e => by have := congrArg Prod.fst e; simp at this; omega
          have ha2 : ¬ ia = a := by omega
          have HT1 : Hid (layA (a, n) s (d.items.take (k + 1)) = (lk ++ [((a, n), s)] ++ [((ia, inn), is)], true)) := HT2.out.trans (layS_bx hle hxx)
          clear hcases HT2
          have howny2 := World.ownsRow.alloc O1 (.cells #[.int .i64 a, .int .i64 n, .string s] 231)
          have hnewsy2 : ∀ j u, [Value.int .i64 a, .int .i64 n, .string s][j]? = some u → ((wr.alloc (.cells #[.int .i64 ia, .int .i64 inn, .string is] 231)).alloc (.cells #[.int .i64 a, .int .i64 n, .string s] 231)).cell? ((⟨wr.heap.size + 1, 0, none⟩ : Addr).add j) = some u := by
            have := cell_3 (wr.alloc (.cells #[.int .i64 ia, .int .i64 inn, .string is] 231)) (.int .i64 a) (.int .i64 n) (.string s) 231
            simpa using this
          go_wp2_with (at_builtin; refine wpList_append_lies _ rfl _ _ 80 rfl B 231 i0 (.agg #[.int .i64 0, .int .i64 0, .string ⟨#[]⟩]) 3 32 Tryz.underlying80 hi hz0 hz1 hz2 rfl (by decide) _ _ _ rfl howny2 ⟨wr.heap.size + 1, 0, none⟩ 1 1 [.int .i64 a, .int .i64 n, .string s] rfl rfl hnewsy2 three_cells (by decide) ?c3 ?c4 ?c5 (wr.heap.size + 2) (by simp) ?_)
          case c3 => unfold maxLen; omega
          case c4 => omega
          case c5 => first | omega | (simp; omega)
          intro gy2 capy2 y2 hown' hgrow hat hlt'
          have hsty2 := OutR.step (p := ((a, n), s)) (v' := .slice (some ⟨gy2, 0, none⟩) (lk.length + 1) capy2) Bl1 zl1 O1 (by first | exact hown' | (rw [List.length_append]; exact hown')) hgrow
          have Oy2 := hsty2.1
          have Bly2 := hsty2.2.1
          have zly2 : B ≤ y2.heap.size := Nat.le_trans zl1 hsty2.2.2.1
          have hcly2 := hsty2.2.2.2
          clear howny2 hnewsy2 hown' hgrow hat hlt' hsty2
          have ne1 : (u6).ownBlock ≠ some wr.heap.size := fun e => by have := (hown0.lt _ e).2; omega
          have ne2 : (u6).ownBlock ≠ some B0 := fun e => by have := (hown0.lt _ e).1; omega
          have z0 := hcly2 ⟨wr.heap.size, 0, none⟩ _ q0 ne1
          have z1 := hcly2 ⟨wr.heap.size, 1, none⟩ _ q1 ne1
          have z2 := hcly2 ⟨wr.heap.size, 2, none⟩ _ q2 ne1
          have y0' := hcly2 ⟨B0, 0, none⟩ _ p0 ne2
          have y1' := hcly2 ⟨B0, 1, none⟩ _ p1 ne2
          clear hcly2
          have hl2 : (lk ++ [((a, n), s)]).length ≤ 195 := by simp; omega
          have howny4 := World.ownsRow.alloc Oy2 (.cells #[.int .i64 ia, .int .i64 inn, .string is] 231)
          have hnewsy4 : ∀ j u, [Value.int .i64 ia, .int .i64 inn, .string is][j]? = some u → (y2.alloc (.cells #[.int .i64 ia, .int .i64 inn, .string is] 231)).cell? ((⟨y2.heap.size, 0, none⟩ : Addr).add j) = some u := by
            have := cell_3 y2 (.int .i64 ia) (.int .i64 inn) (.string is) 231
            simpa using this
          go_wp2_with (at_builtin; refine wpList_append_lies _ rfl _ _ 80 rfl B 231 i0 (.agg #[.int .i64 0, .int .i64 0, .string ⟨#[]⟩]) 3 32 Tryz.underlying80 hi hz0 hz1 hz2 rfl (by decide) _ _ _ rfl howny4 ⟨y2.heap.size, 0, none⟩ 1 1 [.int .i64 ia, .int .i64 inn, .string is] rfl rfl hnewsy4 three_cells (by decide) ?c3 ?c4 ?c5 (y2.heap.size + 1) (by simp) ?_)
          case c3 => unfold maxLen; omega
          case c4 => omega
          case c5 => first | omega | (simp; omega)
          intro gy4 capy4 y4 hown' hgrow hat hlt'
          have hsty4 := OutR.step (p := ((ia, inn), is)) (v' := .slice (some ⟨gy4, 0, none⟩) (lk.length + 1 + 1) capy4) Bly2 zly2 Oy2 (by first | exact hown' | (rw [List.length_append]; exact hown')) hgrow
          have Oy4 := hsty4.1
          have Bly4 := hsty4.2.1
          have zly4 : B ≤ y4.heap.size := Nat.le_trans zly2 hsty4.2.2.1
          have hcly4 := hsty4.2.2.2
          clear howny4 hnewsy4 hown' hgrow hat hlt' hsty4
          clear hcly4
          go_wp2
          go_roundw
          case rel => exact ⟨k + 1, by omega, by go_num, by rw [HT1.out], by rw [HT1.out]; exact Oy4, Bly4, zly4⟩
          case measure => simp [intOf]; omega
        · by_cases ha2 : a = ia
          · subst ha2
            by_cases hn : n ≤ inn
            · have hle : leB (a, n) (a, inn) = true := by simp [leB]; omega
              by_cases hn2 : n = inn
              · subst hn2
                have hxx : (a, n) = (a, n) := rfl
                have HT1 : Hid (layA (a, n) s (d.items.take (k + 1)) = (lk ++ [((a, n), s)], true)) := HT2.out.trans (layS_b hle hxx)
                clear hcases HT2
                have howny2 := World.ownsRow.alloc O1 (.cells #[.int .i64 a, .int .i64 n, .string s] 231)
                have hnewsy2 : ∀ j u, [Value.int .i64 a, .int .i64 n, .string s][j]? = some u → ((wr.alloc (.cells #[.int .i64 a, .int .i64 n, .string is] 231)).alloc (.cells #[.int .i64 a, .int .i64 n, .string s] 231)).cell? ((⟨wr.heap.size + 1, 0, none⟩ : Addr).add j) = some u := by
                  have := cell_3 (wr.alloc (.cells #[.int .i64 a, .int .i64 n, .string is] 231)) (.int .i64 a) (.int .i64 n) (.string s) 231
                  simpa using this
                go_wp2_with (at_builtin; refine wpList_append_lies _ rfl _ _ 80 rfl B 231 i0 (.agg #[.int .i64 0, .int .i64 0, .string ⟨#[]⟩]) 3 32 Tryz.underlying80 hi hz0 hz1 hz2 rfl (by decide) _ _ _ rfl howny2 ⟨wr.heap.size + 1, 0, none⟩ 1 1 [.int .i64 a, .int .i64 n, .string s] rfl rfl hnewsy2 three_cells (by decide) ?c3 ?c4 ?c5 (wr.heap.size + 2) (by simp) ?_)
                case c3 => unfold maxLen; omega
                case c4 => omega
                case c5 => first | omega | (simp; omega)
                intro gy2 capy2 y2 hown' hgrow hat hlt'
                have hsty2 := OutR.step (p := ((a, n), s)) (v' := .slice (some ⟨gy2, 0, none⟩) (lk.length + 1) capy2) Bl1 zl1 O1 (by first | exact hown' | (rw [List.length_append]; exact hown')) hgrow
                have Oy2 := hsty2.1
                have Bly2 := hsty2.2.1
                have zly2 : B ≤ y2.heap.size := Nat.le_trans zl1 hsty2.2.2.1
                have hcly2 := hsty2.2.2.2
                clear howny2 hnewsy2 hown' hgrow hat hlt' hsty2
                have ne1 : (u6).ownBlock ≠ some wr.heap.size := fun e => by have := (hown0.lt _ e).2; omega
                have ne2 : (u6).ownBlock ≠ some B0 := fun e => by have := (hown0.lt _ e).1; omega
                have z0 := hcly2 ⟨wr.heap.size, 0, none⟩ _ q0 ne1
                have z1 := hcly2 ⟨wr.heap.size, 1, none⟩ _ q1 ne1
                have z2 := hcly2 ⟨wr.heap.size, 2, none⟩ _ q2 ne1
                have y0' := hcly2 ⟨B0, 0, none⟩ _ p0 ne2
                have y1' := hcly2 ⟨B0, 1, none⟩ _ p1 ne2
                clear hcly2
                go_wp2
                go_roundw
                case rel => exact ⟨k + 1, by omega, by go_num, by rw [HT1.out], by rw [HT1.out]; exact Oy2, Bly2, zly2⟩
                case measure => simp [intOf]; omega
              · have hxx : ¬ (a, inn) = (a, n) := fun e => hn2 (congrArg Prod.snd e).symm
                have hn' : ¬ inn = n := fun e => hn2 e.symm
                have HT1 : Hid (layA (a, n) s (d.items.take (k + 1)) = (lk ++ [((a, n), s)] ++ [((a, inn), is)], true)) := HT2.out.trans (layS_bx hle hxx)
                clear hcases HT2
                have howny2 := World.ownsRow.alloc O1 (.cells #[.int .i64 a, .int .i64 n, .string s] 231)
                have hnewsy2 : ∀ j u, [Value.int .i64 a, .int .i64 n, .string s][j]? = some u → ((wr.alloc (.cells #[.int .i64 a, .int .i64 inn, .string is] 231)).alloc (.cells #[.int .i64 a, .int .i64 n, .string s] 231)).cell? ((⟨wr.heap.size + 1, 0, none⟩ : Addr).add j) = some u := by
                  have := cell_3 (wr.alloc (.cells #[.int .i64 a, .int .i64 inn, .string is] 231)) (.int .i64 a) (.int .i64 n) (.string s) 231
                  simpa using this
                go_wp2_with (at_builtin; refine wpList_append_lies _ rfl _ _ 80 rfl B 231 i0 (.agg #[.int .i64 0, .int .i64 0, .string ⟨#[]⟩]) 3 32 Tryz.underlying80 hi hz0 hz1 hz2 rfl (by decide) _ _ _ rfl howny2 ⟨wr.heap.size + 1, 0, none⟩ 1 1 [.int .i64 a, .int .i64 n, .string s] rfl rfl hnewsy2 three_cells (by decide) ?c3 ?c4 ?c5 (wr.heap.size + 2) (by simp) ?_)
                case c3 => unfold maxLen; omega
                case c4 => omega
                case c5 => first | omega | (simp; omega)
                intro gy2 capy2 y2 hown' hgrow hat hlt'
                have hsty2 := OutR.step (p := ((a, n), s)) (v' := .slice (some ⟨gy2, 0, none⟩) (lk.length + 1) capy2) Bl1 zl1 O1 (by first | exact hown' | (rw [List.length_append]; exact hown')) hgrow
                have Oy2 := hsty2.1
                have Bly2 := hsty2.2.1
                have zly2 : B ≤ y2.heap.size := Nat.le_trans zl1 hsty2.2.2.1
                have hcly2 := hsty2.2.2.2
                clear howny2 hnewsy2 hown' hgrow hat hlt' hsty2
                have ne1 : (u6).ownBlock ≠ some wr.heap.size := fun e => by have := (hown0.lt _ e).2; omega
                have ne2 : (u6).ownBlock ≠ some B0 := fun e => by have := (hown0.lt _ e).1; omega
                have z0 := hcly2 ⟨wr.heap.size, 0, none⟩ _ q0 ne1
                have z1 := hcly2 ⟨wr.heap.size, 1, none⟩ _ q1 ne1
                have z2 := hcly2 ⟨wr.heap.size, 2, none⟩ _ q2 ne1
                have y0' := hcly2 ⟨B0, 0, none⟩ _ p0 ne2
                have y1' := hcly2 ⟨B0, 1, none⟩ _ p1 ne2
                clear hcly2
                have hl2 : (lk ++ [((a, n), s)]).length ≤ 195 := by simp; omega
                have howny4 := World.ownsRow.alloc Oy2 (.cells #[.int .i64 a, .int .i64 inn, .string is] 231)
                have hnewsy4 : ∀ j u, [Value.int .i64 a, .int .i64 inn, .string is][j]? = some u → (y2.alloc (.cells #[.int .i64 a, .int .i64 inn, .string is] 231)).cell? ((⟨y2.heap.size, 0, none⟩ : Addr).add j) = some u := by
                  have := cell_3 y2 (.int .i64 a) (.int .i64 inn) (.string is) 231
                  simpa using this
                go_wp2_with (at_builtin; refine wpList_append_lies _ rfl _ _ 80 rfl B 231 i0 (.agg #[.int .i64 0, .int .i64 0, .string ⟨#[]⟩]) 3 32 Tryz.underlying80 hi hz0 hz1 hz2 rfl (by decide) _ _ _ rfl howny4 ⟨y2.heap.size, 0, none⟩ 1 1 [.int .i64 a, .int .i64 inn, .string is] rfl rfl hnewsy4 three_cells (by decide) ?c3 ?c4 ?c5 (y2.heap.size + 1) (by simp) ?_)
                case c3 => unfold maxLen; omega
                case c4 => omega
                case c5 => first | omega | (simp; omega)
                intro gy4 capy4 y4 hown' hgrow hat hlt'
                have hsty4 := OutR.step (p := ((a, inn), is)) (v' := .slice (some ⟨gy4, 0, none⟩) (lk.length + 1 + 1) capy4) Bly2 zly2 Oy2 (by first | exact hown' | (rw [List.length_append]; exact hown')) hgrow
                have Oy4 := hsty4.1
                have Bly4 := hsty4.2.1
                have zly4 : B ≤ y4.heap.size := Nat.le_trans zly2 hsty4.2.2.1
                have hcly4 := hsty4.2.2.2
                clear howny4 hnewsy4 hown' hgrow hat hlt' hsty4
                clear hcly4
                go_wp2
                go_roundw
                case rel => exact ⟨k + 1, by omega, by go_num, by rw [HT1.out], by rw [HT1.out]; exact Oy4, Bly4, zly4⟩
                case measure => simp [intOf]; omega
            · have hle : ¬ (false = false ∧ leB (a, n) (a, inn) = true) := by simp [leB]; omega
              have hn2 : ¬ inn = n := by omega
              have hxx : ¬ (a, inn) = (a, n) := fun e => hn2 (congrArg Prod.snd e)
              have HT1 : Hid (layA (a, n) s (d.items.take (k + 1)) = (lk ++ [((a, inn), is)], false)) := HT2.out.trans (layS_x hle hxx)
              clear hcases HT2
              have howny2 := World.ownsRow.alloc O1 (.cells #[.int .i64 a, .int .i64 inn, .string is] 231)
              have hnewsy2 : ∀ j u, [Value.int .i64 a, .int .i64 inn, .string is][j]? = some u → ((wr.alloc (.cells #[.int .i64 a, .int .i64 inn, .string is] 231)).alloc (.cells #[.int .i64 a, .int .i64 inn, .string is] 231)).cell? ((⟨wr.heap.size + 1, 0, none⟩ : Addr).add j) = some u := by
                have := cell_3 (wr.alloc (.cells #[.int .i64 a, .int .i64 inn, .string is] 231)) (.int .i64 a) (.int .i64 inn) (.string is) 231
                simpa using this
              go_wp2_with (at_builtin; refine wpList_append_lies _ rfl _ _ 80 rfl B 231 i0 (.agg #[.int .i64 0, .int .i64 0, .string ⟨#[]⟩]) 3 32 Tryz.underlying80 hi hz0 hz1 hz2 rfl (by decide) _ _ _ rfl howny2 ⟨wr.heap.size + 1, 0, none⟩ 1 1 [.int .i64 a, .int .i64 inn, .string is] rfl rfl hnewsy2 three_cells (by decide) ?c3 ?c4 ?c5 (wr.heap.size + 2) (by simp) ?_)
              case c3 => unfold maxLen; omega
              case c4 => omega
              case c5 => first | omega | (simp; omega)
              intro gy2 capy2 y2 hown' hgrow hat hlt'
              have hsty2 := OutR.step (p := ((a, inn), is)) (v' := .slice (some ⟨gy2, 0, none⟩) (lk.length + 1) capy2) Bl1 zl1 O1 (by first | exact hown' | (rw [List.length_append]; exact hown')) hgrow
              have Oy2 := hsty2.1
              have Bly2 := hsty2.2.1
              have zly2 : B ≤ y2.heap.size := Nat.le_trans zl1 hsty2.2.2.1
              have hcly2 := hsty2.2.2.2
              clear howny2 hnewsy2 hown' hgrow hat hlt' hsty2
              clear hcly2
              go_wp2
              go_roundw
              case rel => exact ⟨k + 1, by omega, by go_num, by rw [HT1.out], by rw [HT1.out]; exact Oy2, Bly2, zly2⟩
              case measure => simp [intOf]; omega
          · have hle : ¬ (false = false ∧ leB (a, n) (ia, inn) = true) := by simp [leB]; omega
            have ha3 : ¬ ia = a := fun e => ha2 e.symm
            have ha4 : (a == ia) = false := by simpa using ha2
            have hxx : ¬ (ia, inn) = (a, n) := fun e => ha3 (congrArg Prod.fst e)
            have HT1 : Hid (layA (a, n) s (d.items.take (k + 1)) = (lk ++ [((ia, inn), is)], false)) := HT2.out.trans (layS_x hle hxx)
            clear hcases HT2
            have howny2 := World.ownsRow.alloc O1 (.cells #[.int .i64 ia, .int .i64 inn, .string is] 231)
            have hnewsy2 : ∀ j u, [Value.int .i64 ia, .int .i64 inn, .string is][j]? = some u → ((wr.alloc (.cells #[.int .i64 ia, .int .i64 inn, .string is] 231)).alloc (.cells #[.int .i64 ia, .int .i64 inn, .string is] 231)).cell? ((⟨wr.heap.size + 1, 0, none⟩ : Addr).add j) = some u := by
              have := cell_3 (wr.alloc (.cells #[.int .i64 ia, .int .i64 inn, .string is] 231)) (.int .i64 ia) (.int .i64 inn) (.string is) 231
              simpa using this
            go_wp2_with (at_builtin; refine wpList_append_lies _ rfl _ _ 80 rfl B 231 i0 (.agg #[.int .i64 0, .int .i64 0, .string ⟨#[]⟩]) 3 32 Tryz.underlying80 hi hz0 hz1 hz2 rfl (by decide) _ _ _ rfl howny2 ⟨wr.heap.size + 1, 0, none⟩ 1 1 [.int .i64 ia, .int .i64 inn, .string is] rfl rfl hnewsy2 three_cells (by decide) ?c3 ?c4 ?c5 (wr.heap.size + 2) (by simp) ?_)
            case c3 => unfold maxLen; omega
            case c4 => omega
            case c5 => first | omega | (simp; omega)
            intro gy2 capy2 y2 hown' hgrow hat hlt'
            have hsty2 := OutR.step (p := ((ia, inn), is)) (v' := .slice (some ⟨gy2, 0, none⟩) (lk.length + 1) capy2) Bl1 zl1 O1 (by first | exact hown' | (rw [List.length_append]; exact hown')) hgrow
            have Oy2 := hsty2.1
            have Bly2 := hsty2.2.1
            have zly2 : B ≤ y2.heap.size := Nat.le_trans zl1 hsty2.2.2.1
            have hcly2 := hsty2.2.2.2
            clear howny2 hnewsy2 hown' hgrow hat hlt' hsty2
            clear hcly2
            go_wp2
            go_roundw
            case rel => exact ⟨k + 1, by omega, by go_num, by rw [HT1.out], by rw [HT1.out]; exact Oy2, Bly2, zly2⟩
            case measure => simp [intOf]; omega
    · have ek : k = L := by omega
      subst ek
      rw [hALL.out] at hown0 HLk ⊢
      have f1 := hRw.f1
      have c1' := hRw.c1
      have HBW := hide (hBw.out.trans (hbel.mono (by have := hB0.out; omega)))
      have HQ := hide (fun (y : World) (hy : Below B w1 y) => H1.out.below (HZ1.out ▸ hy))
      have HW := hide (fun (y : World) (hy : Below B w1 y) => hBw.out.trans (hy.mono (by have := hB0.out; omega)))
      have HB0 := hide (show w.heap.size ≤ B by have := hB0.out; omega)
      clear hRw hit HT HLN hv
      generalize layA (a, n) s d.items = st at *
      obtain ⟨lk, pk⟩ := st
      simp only at hown0 HLk
      have hlk : lk.length ≤ 194 := by omega
      cases pk with
      | true =>
        have hE := HEND.out wr u6 B HBW.out HB0.out (by rw [hLY.out]; exact hown0)
        obtain ⟨ao', cap', hv', -, -, -⟩ := own_slice hown0
        subst hv'
        have HX := hide hE
        clear hE HEND hLY
        go_wp2
        go_end0
        exact ⟨rfl, ⟨_, HX.out.1, HX.out.2.2⟩, HX.out.2.1⟩
      | false =>
        have O1 := hown0
        have Bl1 := hbel
        have zl1 := hz
        have p0' := b0
        have howny2 := World.ownsRow.alloc O1 (.cells #[.int .i64 a, .int .i64 n, .string s] 231)
        have hnewsy2 : ∀ j u, [Value.int .i64 a, .int .i64 n, .string s][j]? = some u → (wr.alloc (.cells #[.int .i64 a, .int .i64 n, .string s] 231)).cell? ((⟨wr.heap.size, 0, none⟩ : Addr).add j) = some u := by
          have := cell_3 wr (.int .i64 a) (.int .i64 n) (.string s) 231
          simpa using this
        go_wp2_with (at_builtin; refine wpList_append_lies _ rfl _ _ 80 rfl B 231 i0 (.agg #[.int .i64 0, .int .i64 0, .string ⟨#[]⟩]) 3 32 Tryz.underlying80 hi hz0 hz1 hz2 rfl (by decide) _ _ _ rfl howny2 ⟨wr.heap.size, 0, none⟩ 1 1 [.int .i64 a, .int .i64 n, .string s] rfl rfl hnewsy2 three_cells (by decide) ?c3 ?c4 ?c5 (wr.heap.size + 1) (by simp) ?_)
        case c3 => unfold maxLen; omega
        case c4 => omega
        case c5 => first | omega | (simp; omega)
        intro gy2 capy2 y2 hown' hgrow hat hlt'
        have hsty2 := OutR.step (p := ((a, n), s)) (v' := .slice (some ⟨gy2, 0, none⟩) (lk.length + 1) capy2) Bl1 zl1 O1 (by first | exact hown' | (rw [List.length_append]; exact hown')) hgrow
        have Oy2 := hsty2.1
        have Bly2 := hsty2.2.1
        have zly2 : B ≤ y2.heap.size := Nat.le_trans zl1 hsty2.2.2.1
        have hcly2 := hsty2.2.2.2
        clear howny2 hnewsy2 hown' hgrow hat hlt' hsty2
        clear hcly2
        have hE := HEND.out y2 _ B (HW.out y2 Bly2) HB0.out (by rw [hLY.out]; exact Oy2)
        have hy := HQ.out y2 Bly2
        have f1' := hy.f1
        have c1'' := hy.c1
        have HX := hide hE
        clear hE HEND hLY HQ HW hy O1 Oy2
        go_wp2
        go_end0
        exact ⟨rfl, ⟨_, HX.out.1, HX.out.2.2⟩, HX.out.2.1⟩
end Go.Proofs.YtfghfbmmaclcnaaGreat
namespace Go.Proofs.YtfghfbmmaclcnaaGreat
set_option maxRecDepth 20000
open Go.RowKit
theorem getJ_take (l : List Job) (k : Nat) (h : k < l.length) : l.take (k + 1) = l.take k ++ [getJ l k] := by
  rw [List.take_succ_eq_append_getElem h]; simp [getJ, List.getD_eq_getElem?_getD, h]
theorem own_sl {w : World} {base : Nat} {v : Value} {l : List Nat} (h : w.ownsRow base 3 1 v l.length (intsN l)) : ∃ ao cap, v = .slice ao l.length cap ∧ Sl .i64 w ao l.length (fun j => ((l.getD j 0 : Nat) : Int)) := by
  obtain ⟨ao, cap, hv, -, -, hc⟩ := own_slice h
  refine ⟨ao, cap, hv, fun j hj => ?_⟩
  obtain ⟨g, h1, -, h2, -⟩ := hc j _ (intsN_get l j hj)
  exact ⟨g, 0, h1, by rw [Nat.zero_add, h2]; simp [List.getD_eq_getElem?_getD]⟩
set_option maxHeartbeats 1000000 in
theorem ref_flight {w : World} {m : Nat} {d : Dv} {vi vj : Value} (h : RefD w m d vi vj) (L : List Nat) (hL : L = tk (fun _ => true) d.jobs) :
    Calls Tryz.prog 185 #[.pointer (some ⟨m, 0, none⟩)] w fun e w' => ∃ ao cap, e = .returned (.slice ao L.length cap) ∧ Sl .i64 w' ao L.length (fun j => ((L.getD j 0 : Nat) : Int)) ∧ Below w.heap.size w w' := by
  obtain ⟨i0, hi, hz0, hz1, hz2⟩ := info_parts Tryz.infoInt
  have hfew := h.good.few
  have hO0 := World.ownsRow_made (base := w.heap.size) (e := 3) (size := 1) w #[] 0 (Nat.le_refl _) (by decide) (by simp)
  have hb0 := (Below.refl w.heap.size w).alloc (Nat.le_refl _) (.cells #[] 3)
  have HALL : Hid (tk (fun _ => true) (d.jobs.take d.jobs.length) = L) := by rw [List.take_length, hL]; exact rfl
  have HT : Hid (∀ k, k < d.jobs.length → tk (fun _ => true) (d.jobs.take (k + 1)) = tk (fun _ => true) (d.jobs.take k) ++ (if (getJ d.jobs k).st = 0 then [k + 1] else [])) := fun k hk => by
    rw [getJ_take d.jobs k hk, tk_snoc, List.length_take, Nat.min_eq_left (by omega)]
    by_cases h0 : (getJ d.jobs k).st = 0 <;> simp [h0]
  have HLN : Hid (∀ k, (tk (fun _ => true) (d.jobs.take k)).length ≤ k) := fun k => Nat.le_trans (tk_len _ _) (by rw [List.length_take]; omega)
  have H := hide h
  clear hL h
  go_enter Tryz.func185, Tryz.ntmps185
  go_wp2
  generalize hLL : d.jobs.length = J at *
  go_loopw [3, 4] (fun vo vi' wr => ∃ k : Nat, k ≤ J ∧ vi' = .int .i64 k ∧ wr.ownsRow w.heap.size 3 1 vo (tk (fun _ => true) (d.jobs.take k)).length (intsN (tk (fun _ => true) (d.jobs.take k))) ∧ Below w.heap.size w wr) (fun _ vi' _ => J - (intOf vi').toNat)
  case atStart => exact ⟨0, Nat.zero_le _, rfl, hO0, hb0⟩
  case round =>
    clear hO0 hb0
    obtain ⟨k, hk, rfl, hown, hbel⟩ := hrel
    have hsz := hbel.size
    have hRw := H.out.below hbel
    obtain ⟨ao, cap, hv, hc1, hc2, hjb⟩ := hRw.job
    have c2 := hRw.c2
    rw [hv, hLL] at c2
    have hlk := HLN.out k
    by_cases hlt : k < J
    · obtain ⟨g, rfl, -, -, -, -, -, -, e5, -⟩ := hjb k (by omega)
      have HT2 := hide (HT.out k (by omega))
      generalize tk (fun _ => true) (d.jobs.take k) = lk at *
      generalize (getJ d.jobs k).st = st at *
      clear hRw hjb hv HT HALL HLN
      by_cases h0 : st = 0
      · have HT3 : Hid (tk (fun _ => true) (d.jobs.take (k + 1)) = lk ++ [k + 1]) := by rw [HT2.out, if_pos h0]; exact rfl
        subst h0
        clear HT2
        have hown2 := World.ownsRow.alloc hown (.cells #[.int .i64 ((k : Int) + 1)] 3)
        have hnews := cell_one wr (.int .i64 ((k : Int) + 1)) 3
        have e5' : wr.cell? ⟨g, k * 6 + 5, none⟩ = some (.int .i64 0) := e5
        clear e5
        go_wp2_with (at_builtin; refine wpList_append_lies _ rfl _ _ 40 rfl w.heap.size 3 i0 (.int .i64 0) 1 8 Tryz.underlying40 hi hz0 hz1 hz2 rfl (by decide) _ _ _ rfl hown2 ⟨wr.heap.size, 0, none⟩ 1 1 [.int .i64 ((k : Int) + 1)] rfl rfl hnews one_int (by decide) ?c3 ?c4 ?c5 (wr.heap.size + 1) (by simp) ?_)
        case c3 => unfold maxLen; omega
        case c4 => omega
        case c5 => first | omega | (simp; omega)
        intro g' cap' y hown' hgrow hat hlt'
        have hb2 := grow_step hown hsz hbel hgrow
        clear hown2 hnews hgrow hat hlt'
        go_wp2
        go_roundw
        case rel => exact ⟨k + 1, by omega, by go_num, by rw [HT3.out, intsN_snoc, List.length_append]; simpa using hown', hb2⟩
        case measure => simp [intOf]; omega
      · have HT3 : Hid (tk (fun _ => true) (d.jobs.take (k + 1)) = lk) := by rw [HT2.out, if_neg h0, List.append_nil]; exact rfl
        have h0' : ((st : Int) == 0) = false := by simp; omega
        clear HT2 h0
        go_wp2
        go_roundw
        case rel => exact ⟨k + 1, by omega, by go_num, by rw [HT3.out]; exact hown, hbel⟩
        case measure => simp [intOf]; omega
    · have ek : k = J := by omega
      subst ek
      rw [HALL.out] at hown
      obtain ⟨ao', cap', rfl, hsl⟩ := own_sl hown
      clear hown hRw hjb hv HT HALL HLN
      go_wp2
      go_ret
      exact ⟨ao', cap', rfl, hsl, hbel⟩
/-- A job's state is written. -/
theorem RefD.setSt {w : World} {m : Nat} {d : Dv} {vi vj : Value} (h : RefD w m d vi vj) {g : Nat} (hg : vj.ownBlock = some g) (k : Nat) (hk : k < d.jobs.length) (st : Nat) (gd : Good { d with jobs := d.jobs.set k { getJ d.jobs k with st := st } }) :
    RefD (w.setCell ⟨g, k * 6 + 5, none⟩ (.int .i64 (st : Int))) m { d with jobs := d.jobs.set k { getJ d.jobs k with st := st } } vi vj ∧ Keeps (fun k => k = g) w (w.setCell ⟨g, k * 6 + 5, none⟩ (.int .i64 (st : Int))) := by
  have K : Keeps (fun k => k = g) w (w.setCell ⟨g, k * 6 + 5, none⟩ (.int .i64 (st : Int))) := (Keeps.refl (fun k => k = g) w).setCell ⟨g, k * 6 + 5, none⟩ (fun _ => rfl) _
  have hgm := (h.gj hg).1
  have hl := h.lt
  have nm : ¬ m = g := by omega
  refine ⟨⟨?_, ?_, ?_, ?_, ?_, ?_, own_keep h.oi K (fun q e e' => by subst e'; exact h.ne q e hg), ?_, h.ne, gd⟩, K⟩
  · rw [K.cell hl nm]; exact h.c0
  · rw [K.cell hl nm]; exact h.c1
  · rw [K.cell hl nm]; exact h.c2
  · rw [K.frozen hl nm]; exact h.f0
  · rw [K.frozen hl nm]; exact h.f1
  · rw [K.frozen hl nm]; exact h.f2
  · have ho := own_set h.oj hg (k * 6 + 5) (.int .i64 (st : Int))
    simp only [List.length_set]
    rw [show jobsV (d.jobs.set k { getJ d.jobs k with st := st }) = (jobsV d.jobs).set (k * 6 + 5) (.int .i64 (st : Int)) from flat_set jbV 6 jbV_len d.jobs k (getJ d.jobs k) _ (getJ_some hk) 5 (by omega) _ rfl]
    exact ho
end Go.Proofs.YtfghfbmmaclcnaaGreat
namespace Go.Proofs.YtfghfbmmaclcnaaGreat
set_option maxRecDepth 20000
open Go.RowKit
theorem atB_fl (l : List Job) (x : Int) : atB l x 0 = (fl l x).isSome := by
  unfold atB fl
  cases jobAt l x with
  | none => rfl
  | some j => by_cases h : j.st = 0 <;> simp [h]
theorem atB_yes {l : List Job} {x : Int} {st : Nat} (h : atB l x st = true) : ∃ k : Nat, x = (k : Int) + 1 ∧ k < l.length ∧ jobAt l x = some (getJ l k) ∧ (getJ l k).st = st := by
  unfold atB at h
  cases hj : jobAt l x with
  | none => rw [hj] at h; cases h
  | some j =>
    rw [hj] at h
    have hl := jobAt_lt hj
    refine ⟨(x - 1).toNat, by omega, by omega, ?_, ?_⟩
    · rw [← hj, jobAt_getJ hl.1 hl.2.1]
    · rw [jobAt_getJ hl.1 hl.2.1] at hj
      cases hj
      simpa using h
theorem an_at {l : List Job} {x : Int} {j : Job} (h : jobAt l x = some j) (hs : j.st = 1) : an l x = if j.no = true then none else some j.s := by
  unfold an
  rw [h]
  obtain ⟨b, wr, s, no, st⟩ := j
  simp only at hs
  subst hs
  cases no <;> rfl
set_option maxHeartbeats 1000000 in
set_option maxRecDepth 10000 in
theorem ref_take' {w : World} {m : Nat} {d : Dv} {vi vj : Value} (h : RefD w m d vi vj) (x : Int) (hx : okI x) :
    Calls Tryz.prog 118 #[.pointer (some ⟨m, 0, none⟩), .int .i64 x] w fun e w' => e = .returned (.tuple #[.string (takeS d x), .int .i64 (takeE d x)]) ∧ RefD w' m (takeD d x) vi vj ∧ Keeps (RS m vj) w w' := by
  have c0 := h.c0
  cases ho : d.off with
  | true =>
    rw [ho] at c0
    have e2 : takeE d x = 6 := by simp [takeE, ho]
    have e3 : takeS d x = ⟨#[]⟩ := by simp [takeS, e2]
    have e4 : takeD d x = d := by simp [takeD, ho]
    rw [e2, e3, e4]
    have H := hide h
    clear h ho e2 e3 e4
    go_enter Tryz.func118, Tryz.ntmps118
    go_wp2
    go_ret2
    exact ⟨rfl, H.out, Keeps.refl _ _⟩
  | false =>
    rw [ho] at c0
    have ha0 := ref_at h x hx 0
    have ha1 := ref_at h x hx 1
    simp only [Int.natCast_zero] at ha0
    cases hA0 : atB d.jobs x 0 with
    | true =>
      rw [hA0] at ha0
      have hf : (fl d.jobs x).isSome = true := by rw [← atB_fl]; exact hA0
      have e2 : takeE d x = 10 := by simp [takeE, ho, hf]
      have e3 : takeS d x = ⟨#[]⟩ := by simp [takeS, e2]
      obtain ⟨r, hr⟩ := Option.isSome_iff_exists.1 hf
      rw [e2, e3, takeD_fly hr]
      have H := hide h
      clear h ho e2 e3 hf hr ha1 hA0
      go_enter Tryz.func118, Tryz.ntmps118
      go_wp2_with fail
      refine ha0.mono ?_
      rintro e y ⟨rfl, rfl⟩
      go_wp2
      go_ret2
      exact ⟨rfl, H.out, Keeps.refl _ _⟩
    | false =>
      rw [hA0] at ha0
      have hf : (fl d.jobs x).isSome = false := by rw [← atB_fl]; exact hA0
      cases hA1 : atB d.jobs x 1 with
      | false =>
        rw [hA1] at ha1
        have hn : (an d.jobs x).isSome = false := by
          unfold atB at hA1
          unfold an
          cases hj : jobAt d.jobs x with
          | none => rfl
          | some j =>
            rw [hj] at hA1
            have : ¬ j.st = 1 := by simpa using hA1
            simp [this]
        have e2 : takeE d x = 7 := by simp [takeE, ho, hf, hn]
        have e3 : takeS d x = ⟨#[]⟩ := by simp [takeS, e2]
        have e4 : takeD d x = d := by
          unfold takeD
          rw [if_neg (by rw [ho]; simp)]
          unfold atB at hA1
          cases hj : jobAt d.jobs x with
          | none => rfl
          | some j =>
            rw [hj] at hA1
            have : ¬ j.st = 1 := by simpa using hA1
            simp [this]
        rw [e2, e3, e4]
        have H := hide h
        clear h ho e2 e3 e4 hf hn hA0 hA1
        go_enter Tryz.func118, Tryz.ntmps118
        go_wp2_with fail
        refine ha0.mono ?_
        rintro e y ⟨rfl, rfl⟩
        go_wp2_with fail
        refine ha1.mono ?_
        rintro e y ⟨rfl, rfl⟩
        go_wp2
        go_ret2
        exact ⟨rfl, H.out, Keeps.refl _ _⟩
      | true =>
        rw [hA1] at ha1
        obtain ⟨k, hk, hkl, hj, hst⟩ := atB_yes hA1
        have e4 : takeD d x = { d with jobs := d.jobs.set k { getJ d.jobs k with st := 2 } } := by
          unfold takeD
          rw [if_neg (by rw [ho]; simp), hj]
          simp only [hst, if_true]
          rw [show (x - 1).toNat = k by omega]
        have hgd := h.good.take x
        rw [e4] at hgd
        obtain ⟨ao, cap, hv, hc1, hc2, hjb⟩ := h.job
        obtain ⟨g, hao, hgb, q0, q1, q2, q3, q4, q5, qf⟩ := hjb k hkl
        have hS := h.setSt hgb k hkl 2 hgd
        have hgl := (h.gj hgb).2
        have hgm := (h.gj hgb).1
        have hm := h.lt
        have hbel : Keeps (RS m vj) w (w.setCell ⟨g, k * 6 + 5, none⟩ (.int .i64 2)) := hS.2.wider (fun q _ e => .inr (e ▸ hgb))
        have HS := hide (fun o => hS.1.alloc o)
        have HB := hide (fun o => hbel.alloc o)
        have c2 := h.c2
        rw [hv, hao] at c2
        have qf5 := qf 5 (by omega)
        have hfew := h.good.few
        subst hk
        have i1 : ((k : Int) + 1 - 1) = (k : Int) := by omega
        have HE2 : Hid (takeE d ((k : Int) + 1) = if (getJ d.jobs k).no = true then 7 else 0) := by
          unfold takeE
          rw [if_neg (by rw [ho]; simp), if_neg (by rw [hf]; simp)]
          rw [an_at hj hst]
          cases (getJ d.jobs k).no <;> exact rfl
        have HE3 : Hid (takeS d ((k : Int) + 1) = if (getJ d.jobs k).no = true then ⟨#[]⟩ else (getJ d.jobs k).s) := by
          unfold takeS
          rw [HE2.out]
          rw [an_at hj hst]
          cases (getJ d.jobs k).no <;> exact rfl
        rw [HE2.out, HE3.out, e4]
        clear hjb hS hbel hgd h hf hA0 hA1 e4 HE2 HE3 hv hao qf
        simp only [hst] at q5
        generalize d.jobs.length = J at *
        have HST := hide hst
        clear hst
        generalize getJ d.jobs k = jj at *
        obtain ⟨⟨ja, jn⟩, jw, js, jno, jst⟩ := jj
        simp only at q0 q1 q2 q3 q4 HST ⊢
        cases jno with
        | true =>
          simp only [if_true]
          go_enter Tryz.func118, Tryz.ntmps118
          go_wp2_with fail
          refine ha0.mono ?_
          rintro e y ⟨rfl, rfl⟩
          go_wp2_with fail
          refine ha1.mono ?_
          rintro e y ⟨rfl, rfl⟩
          go_wp2
          go_ret2
          exact ⟨rfl, HS.out _, HB.out _⟩
        | false =>
          simp only [Bool.false_eq_true, if_false]
          go_enter Tryz.func118, Tryz.ntmps118
          go_wp2_with fail
          refine ha0.mono ?_
          rintro e y ⟨rfl, rfl⟩
          go_wp2_with fail
          refine ha1.mono ?_
          rintro e y ⟨rfl, rfl⟩
          go_wp2
          go_ret2
          exact ⟨rfl, HS.out _, HB.out _⟩
theorem ref_take {w : World} {m : Nat} {d : Dv} {vi vj : Value} (h : RefD w m d vi vj) (x : Int) (hx : okI x) :
    Calls Tryz.prog 118 #[.pointer (some ⟨m, 0, none⟩), .int .i64 x] w fun e w' => e = .returned (.tuple #[.string (takeS d x), .int .i64 (takeE d x)]) ∧ RefD w' m (takeD d x) vi vj ∧ Below m w w' :=
  (ref_take' h x hx).mono fun _ _ q => ⟨q.1, q.2.1, h.rs q.2.2⟩
end Go.Proofs.YtfghfbmmaclcnaaGreat
namespace Go.Proofs.YtfghfbmmaclcnaaGreat
set_option maxRecDepth 20000
open Go.RowKit
theorem RefD.pushJob {x y : World} {m : Nat} {d : Dv} {vi vj : Value} (h : RefD x m d vi vj) {o : Obj} {g cap' : Nat} {j : Job} (hown : y.ownsRow (m + 1) 182 6 (.slice (some ⟨g, 0, none⟩) (d.jobs.length + 1) cap') (d.jobs.length + 1) (jobsV d.jobs ++ [.int .i64 j.b.1, .int .i64 j.b.2, .bool j.wr, .string j.s, .bool j.no, .int .i64 (j.st : Nat)]))
    (hg : (x.alloc o).grownBy y vj.ownBlock) (hat : vj.ownBlock = some g ∨ x.heap.size ≤ g) (gd : Good { d with jobs := d.jobs ++ [j] }) :
    (y.cell? ⟨m, 2, none⟩ = some vj ∧ y.frozen? ⟨m, 2, none⟩ = false) ∧ RefD (y.setCell ⟨m, 2, none⟩ (.slice (some ⟨g, 0, none⟩) (d.jobs.length + 1) cap')) m { d with jobs := d.jobs ++ [j] } vi (.slice (some ⟨g, 0, none⟩) (d.jobs.length + 1) cap') ∧ Keeps (RS m vj) x (y.setCell ⟨m, 2, none⟩ (.slice (some ⟨g, 0, none⟩) (d.jobs.length + 1) cap')) := by
  have hl := h.lt
  have K1 : Keeps (fun k => vj.ownBlock = some k) x y := ((Keeps.refl (fun k => vj.ownBlock = some k) x).alloc o).grown hg (fun k hk _ => hk)
  have nm : ¬ vj.ownBlock = some m := fun e => by have := (h.gj e).1; omega
  have a0 : y.cell? ⟨m, 0, none⟩ = some (.bool d.off) := by rw [K1.cell hl nm]; exact h.c0
  have a1 : y.cell? ⟨m, 1, none⟩ = some vi := by rw [K1.cell hl nm]; exact h.c1
  have a2 : y.cell? ⟨m, 2, none⟩ = some vj := by rw [K1.cell hl nm]; exact h.c2
  have b0 : y.frozen? ⟨m, 0, none⟩ = false := by rw [K1.frozen hl nm]; exact h.f0
  have b1 : y.frozen? ⟨m, 1, none⟩ = false := by rw [K1.frozen hl nm]; exact h.f1
  have b2 : y.frozen? ⟨m, 2, none⟩ = false := by rw [K1.frozen hl nm]; exact h.f2
  have hgm : m + 1 ≤ g := by
    rcases hat with e | e
    · exact (h.gj e).1
    · omega
  have K2 : Keeps (fun k => k = m) y (y.setCell ⟨m, 2, none⟩ (.slice (some ⟨g, 0, none⟩) (d.jobs.length + 1) cap')) := (Keeps.refl (fun k => k = m) y).setCell ⟨m, 2, none⟩ (fun _ => rfl) _
  refine ⟨⟨a2, b2⟩, ⟨?_, ?_, World.cell?_setCell_same _ _ _ a2, ?_, ?_, ?_, ?_, ?_, fun q e e' => ?_, gd⟩, ?_⟩
  · rw [World.cell?_setCell_other _ _ _ _ (by simp)]; exact a0
  · rw [World.cell?_setCell_other _ _ _ _ (by simp)]; exact a1
  · rw [World.frozen?_setCell]; exact b0
  · rw [World.frozen?_setCell]; exact b1
  · rw [World.frozen?_setCell]; exact b2
  · exact own_keep (own_keep h.oi K1 (fun q e => h.ne q e)) K2 (fun q e e' => by have := (h.gi e).1; omega)
  · have ho := own_keep hown K2 (fun q e e' => by simp [Value.ownBlock] at e; omega)
    simp only
    rw [jobsV_snoc, List.length_append]
    exact ho
  · simp [Value.ownBlock] at e'
    subst e'
    rcases hat with e2 | e2
    · exact h.ne g e e2
    · have := (h.gi e).2; omega
  · exact (K1.wider (T := RS m vj) (fun k _ e => .inr e)).trans K2 (fun k _ e => .inl e)
/-- Is there a write of the block under way? -/
def hits (wr : Bool) (b : Bk) (j : Job) : Prop := wr = true ∧ j.st = 0 ∧ j.wr = true ∧ j.b = b
theorem askE_hit {d : Dv} {b : Bk} {wr : Bool} {s : ByteArray} (ho : d.off = false) (hb : okB b = true) (hs : ¬ 131072 < s.size) {k : Nat} (hk : k < d.jobs.length) (h : hits wr b (getJ d.jobs k)) : askE d b wr s = 10 := by
  obtain ⟨h1, h2, h3, h4⟩ := h
  have hm : k + 1 ∈ tk (fun j => j.wr && decide (j.b = b)) d.jobs := tk_mem.2 ⟨getJ d.jobs k, by rw [jobAt_getJ (by omega) (by omega)]; congr 2; omega, h2, by simp [h3, h4]⟩
  have hp := List.length_pos_of_mem hm
  unfold askE
  rw [if_neg (by rw [ho]; simp), if_neg (by rw [hb]; simp), if_neg hs, if_pos ⟨h1, by omega⟩]
theorem askE_miss {d : Dv} {b : Bk} {wr : Bool} {s : ByteArray} (ho : d.off = false) (hb : okB b = true) (hs : ¬ 131072 < s.size) (h : ∀ k, k < d.jobs.length → ¬ hits wr b (getJ d.jobs k)) : askE d b wr s = if 32 ≤ (tk (fun _ => true) d.jobs).length then 9 else 0 := by
  unfold askE
  rw [if_neg (by rw [ho]; simp), if_neg (by rw [hb]; simp), if_neg hs, if_neg]
  rintro ⟨h1, h2⟩
  obtain ⟨n, hn⟩ := List.exists_mem_of_length_pos (Nat.pos_of_ne_zero h2)
  obtain ⟨j, k1, k2, k3⟩ := tk_mem.1 hn
  have hl := jobAt_lt k1
  rw [jobAt_getJ hl.1 hl.2.1] at k1
  cases k1
  simp only [Bool.and_eq_true, decide_eq_true_eq] at k3
  exact h _ (by omega) ⟨h1, k2, k3.1, k3.2⟩
theorem cell_6 (w : World) (a b c d e f : Value) (t : TypeId) : ∀ j u, [a, b, c, d, e, f][j]? = some u → (w.alloc (.cells #[a, b, c, d, e, f] t)).cell? ((⟨w.heap.size, 0, none⟩ : Addr).add j) = some u := by
  intro j u hj
  match j, hj with
  | 0, hj => simp at hj; subst hj; simp [Addr.add]
  | 1, hj => simp at hj; subst hj; simp [Addr.add]
  | 2, hj => simp at hj; subst hj; simp [Addr.add]
  | 3, hj => simp at hj; subst hj; simp [Addr.add]
  | 4, hj => simp at hj; subst hj; simp [Addr.add]
  | 5, hj => simp at hj; subst hj; simp [Addr.add]
set_option maxHeartbeats 4000000 in
set_option maxRecDepth 10000 in
theorem ref_ask' {w : World} {m : Nat} {d : Dv} {vi vj : Value} (h : RefD w m d vi vj) (b : Bk) (wr : Bool) (s : ByteArray) (hj : d.jobs.length < 1000) :
    Calls Tryz.prog 117 #[.pointer (some ⟨m, 0, none⟩), bkV b, .bool wr, .string s] w fun e w' => e = .returned (.tuple #[.int .i64 (askT d b wr s), .int .i64 (askE d b wr s)]) ∧ (∃ vj', RefD w' m (askD d b wr s) vi vj' ∧ ∀ q, vj'.ownBlock = some q → vj.ownBlock = some q ∨ w.heap.size ≤ q) ∧ Keeps (RS m vj) w w' := by
  obtain ⟨i0, hi, hz0, hz1, hz2⟩ := info_parts Tryz.infoJb
  have hT : askT d b wr s = if askE d b wr s = 0 then (d.jobs.length : Int) + 1 else 0 := rfl
  have hD : askD d b wr s = if askE d b wr s = 0 then { d with jobs := d.jobs ++ [⟨b, wr, s, false, 0⟩] } else d := rfl
  have hgd := h.good.ask b wr s hj
  have hm := h.lt
  have h1 := h.alloc (.cells #[.int .i64 b.1, .int .i64 b.2] 59)
  have b1 := (Below.refl w.heap.size w).alloc (Nat.le_refl _) (.cells #[.int .i64 b.1, .int .i64 b.2] 59)
  have hmay := ref_may (w.alloc (.cells #[.int .i64 b.1, .int .i64 b.2] 59)) b
  have c0 := h1.c0
  cases ho : d.off with
  | true =>
    have e : askE d b wr s = 6 := by simp [askE, ho]
    rw [hT, hD, e]
    rw [ho] at c0
    obtain ⟨a, n⟩ := b
    simp only [bkV] at *
    have H1 := hide h1
    have HB := hide b1
    clear h h1 b1 hT hD e hgd hmay ho
    go_enter Tryz.func117, Tryz.ntmps117
    go_wp2
    go_ret2
    exact ⟨rfl, ⟨_, H1.out, fun q e => .inl e⟩, Below.keeps HB.out⟩
  | false =>
  rw [ho] at c0
  cases hok : okB b with
  | false =>
    have e : askE d b wr s = 1 := by simp [askE, ho, hok]
    rw [hT, hD, e]
    rw [hok] at hmay
    obtain ⟨a, n⟩ := b
    simp only [bkV] at *
    have H1 := hide h1
    have HB := hide b1
    clear h h1 b1 hT hD e hgd hok ho
    go_enter Tryz.func117, Tryz.ntmps117
    go_wp2_with fail
    refine hmay.mono ?_
    rintro e x ⟨rfl, b2⟩
    go_wp2
    go_ret2
    exact ⟨rfl, ⟨_, H1.out.below b2, fun q e => .inl e⟩, Below.keeps (HB.out.trans (b2.mono HB.out.size))⟩
  | true =>
  rw [hok] at hmay
  by_cases hs : 131072 < s.size
  · have e : askE d b wr s = 5 := by simp [askE, ho, hok, hs]
    rw [hT, hD, e]
    obtain ⟨a, n⟩ := b
    simp only [bkV] at *
    have H1 := hide h1
    have HB := hide b1
    clear h h1 b1 hT hD e hgd hok ho
    go_enter Tryz.func117, Tryz.ntmps117
    go_wp2_with fail
    refine hmay.mono ?_
    rintro e x ⟨rfl, b2⟩
    go_wp2
    go_ret2
    exact ⟨rfl, ⟨_, H1.out.below b2, fun q e => .inl e⟩, Below.keeps (HB.out.trans (b2.mono HB.out.size))⟩
  have HIT := hide (fun k hk hh => askE_hit (d := d) (b := b) (wr := wr) (s := s) ho hok hs (k := k) hk hh)
  have MISS := hide (fun hh => askE_miss (d := d) (b := b) (wr := wr) (s := s) ho hok hs hh)
  have HGD := hide hgd
  have HT := hide hT
  have HD := hide hD
  obtain ⟨a, n⟩ := b
  simp only [bkV] at *
  have H1 := hide h1
  have HB := hide b1
  clear h h1 b1 hT hD hgd hok ho
  generalize askT d (a, n) wr s = AT at *
  generalize askD d (a, n) wr s = AD at *
  generalize askE d (a, n) wr s = AE at *
  go_enter Tryz.func117, Tryz.ntmps117
  go_wp2_with fail
  refine hmay.mono ?_
  rintro e x ⟨rfl, b2⟩
  have p0 : x.cell? ⟨w.heap.size, 0, none⟩ = some (.int .i64 a) := by rw [b2.cell (by simp)]; simp
  have p1 : x.cell? ⟨w.heap.size, 1, none⟩ = some (.int .i64 n) := by rw [b2.cell (by simp)]; simp
  have HX := hide (H1.out.below b2)
  have HBX := hide (HB.out.trans (b2.mono HB.out.size))
  clear H1 HB b2 hmay c0
  obtain ⟨ao, cap, hv, hc1, hc2, hjb⟩ := HX.out.job
  have c2 := HX.out.c2
  rw [hv] at c2
  have HJ := hide hjb
  clear hjb
  generalize hLL : d.jobs.length = J at *
  go_wp2
  generalize hbb : w.heap.size = B at *
  go_loopw [10] (fun v y => ∃ k : Nat, k ≤ J ∧ v = .int .i64 k ∧ Hid (∀ j, j < k → ¬ hits wr (a, n) (getJ d.jobs j)) ∧ ∃ q, y = x.drewN q) (fun v _ => J - (intOf v).toNat)
  case atStart => exact ⟨0, Nat.zero_le _, rfl, fun j hj => by omega, 0, rfl⟩
  case round =>
    obtain ⟨k, hk, rfl, hno, q, rfl⟩ := hrel
    by_cases hlt : k < J
    · obtain ⟨g, rfl, -, e0, e1, e2, -, -, e5, -⟩ := HJ.out k hlt
      have HE := hide (fun hh => HIT.out k hlt hh)
      have HK : Hid (¬ hits wr (a, n) (getJ d.jobs k) → ∀ j, j < k + 1 → ¬ hits wr (a, n) (getJ d.jobs j)) := fun hne j hj => by
        by_cases e : j = k
        · subst e; exact hne
        · exact hno.out j (by omega)
      generalize getJ d.jobs k = jj at *
      obtain ⟨⟨ja, jn⟩, jw, js, jno, jst⟩ := jj
      simp only at e0 e1 e2 e5 HE HK
      clear HJ HIT MISS hno HGD
      cases wr with
      | false =>
        have HM := hide (HK.out (fun hh => by have := hh.1; cases this))
        clear HK HE
        go_wp2
        go_quiet ((fail))
        go_wp2
        go_roundw
        case rel => exact ⟨k + 1, by omega, by go_num, HM.out, _, rfl⟩
        case measure => simp [intOf]; omega
      | true =>
        by_cases h0 : jst = 0
        · subst h0
          have e5' : x.cell? ⟨g, k * 6 + 5, none⟩ = some (.int .i64 0) := e5
          clear e5
          cases jw with
          | false =>
            have HM := hide (HK.out (fun hh => by have := hh.2.2.1; cases this))
            clear HK HE
            go_wp2
            go_quiet ((fail))
            go_wp2
            go_roundw
            case rel => exact ⟨k + 1, by omega, by go_num, HM.out, _, rfl⟩
            case measure => simp [intOf]; omega
          | true =>
            by_cases e1' : ja = a
            · by_cases e2' : jn = n
              · subst e1' e2'
                have hae := HE.out ⟨rfl, rfl, rfl, rfl⟩
                subst hae
                have hat := HT.out
                have had := HD.out
                simp only [Int.reduceEq, if_false] at hat had
                have had := had.symm
                subst hat had
                clear HK HE HT HD
                go_wp2
                go_quiet ((fail))
                go_wp2
                go_ret2
                exact ⟨rfl, ⟨_, (HX.out.drew _).drew _, fun q e => .inl e⟩, Below.keeps (by rw [hbb]; exact below_drewN (below_drewN HBX.out _) _)⟩
              · subst e1'
                have HM := hide (HK.out (fun hh => e2' (congrArg Prod.snd hh.2.2.2)))
                clear HK HE
                go_wp2
                go_quiet ((fail))
                go_wp2
                go_roundw
                case rel => exact ⟨k + 1, by omega, by go_num, HM.out, _, rfl⟩
                case measure => simp [intOf]; omega
            · skip
              have HM := hide (HK.out (fun hh => e1' (congrArg Prod.fst hh.2.2.2)))
              clear HK HE
              go_wp2
              go_quiet ((fail))
              go_wp2
              go_roundw
              case rel => exact ⟨k + 1, by omega, by go_num, HM.out, _, rfl⟩
              case measure => simp [intOf]; omega
        · have h0' : ((jst : Int) == 0) = false := by simp; omega
          have HM := hide (HK.out (fun hh => h0 hh.2.1))
          clear HK HE
          go_wp2
          go_quiet ((fail))
          go_wp2
          go_roundw
          case rel => exact ⟨k + 1, by omega, by go_num, HM.out, _, rfl⟩
          case measure => simp [intOf]; omega
    · have ek : J = k := by omega
      subst ek
      have hae := MISS.out (fun j hj => hno.out j (by omega))
      have hfl := ref_flight (HX.out.drew q) (tk (fun _ => true) d.jobs) rfl
      clear HJ HIT MISS hno
      have p0' : (x.drewN q).cell? ⟨B, 0, none⟩ = some (.int .i64 a) := p0
      by_cases hf : 32 ≤ (tk (fun _ => true) d.jobs).length
      · rw [if_pos hf] at hae
        subst hae
        have hat := HT.out
        have had := HD.out
        simp only [Int.reduceEq, if_false] at hat had
        have had := had.symm
        subst hat had
        clear HT HD
        generalize (tk (fun _ => true) d.jobs).length = F at *
        go_wp2_with fail
        refine hfl.mono ?_
        rintro e y ⟨fo, fc, rfl, -, b3⟩
        have HY := hide ((HX.out.drew q).below b3)
        have HBY := hide ((below_drewN HBX.out q).trans (b3.mono (by have := HBX.out.size; simp; omega)))
        clear b3 hfl
        go_wp2
        go_ret2
        exact ⟨rfl, ⟨_, HY.out, fun q e => .inl e⟩, Below.keeps (by rw [hbb]; exact HBY.out)⟩
      · rw [if_neg hf] at hae
        subst hae
        have hat := HT.out
        have had := HD.out
        simp only [if_true] at hat had
        subst hat had
        have hgd := HGD.out
        clear HT HD HGD
        generalize (tk (fun _ => true) d.jobs).length = F at *
        go_wp2_with fail
        refine hfl.mono ?_
        rintro e y ⟨fo, fc, rfl, -, b3⟩
        have hy := (HX.out.drew q).below b3
        have HBY := hide ((below_drewN HBX.out q).trans (b3.mono (by have := HBX.out.size; simp; omega)))
        have r0 : y.cell? ⟨B, 0, none⟩ = some (.int .i64 a) := by rw [b3.cell (World.block_lt_of_cell? x _ p0)]; exact p0
        have r1 : y.cell? ⟨B, 1, none⟩ = some (.int .i64 n) := by rw [b3.cell (World.block_lt_of_cell? x _ p1)]; exact p1
        have c2y := hy.c2
        have f2y := hy.f2
        rw [hv] at c2y
        have hyl := hy.lt
        have hown2 : ((y.drewN 1).alloc (.cells #[.int .i64 a, .int .i64 n, .bool wr, .string s, .bool false, .int .i64 0] 182)).ownsRow (m + 1) 182 6 (.slice ao J cap) J (jobsV d.jobs) := by
          have := hy.oj
          rw [hv, hLL] at this
          exact own_below this ((below_drewN (Below.refl _ _) 1).alloc (by simp) _)
        have hnews : ∀ j u, [Value.int .i64 a, .int .i64 n, .bool wr, .string s, .bool false, .int .i64 0][j]? = some u → ((y.drewN 1).alloc (.cells #[.int .i64 a, .int .i64 n, .bool wr, .string s, .bool false, .int .i64 0] 182)).cell? ((⟨y.heap.size, 0, none⟩ : Addr).add j) = some u := cell_6 (y.drewN 1) _ _ _ _ _ _ _
        have HP := hide (fun (y1 : World) (g cap' : Nat) (hown' : y1.ownsRow (m + 1) 182 6 (.slice (some ⟨g, 0, none⟩) (J + 1) cap') (J + 1) (jobsV d.jobs ++ [.int .i64 a, .int .i64 n, .bool wr, .string s, .bool false, .int .i64 0])) (hg : ((y.drewN 1).alloc (.cells #[.int .i64 a, .int .i64 n, .bool wr, .string s, .bool false, .int .i64 0] 182)).grownBy y1 (Value.slice ao J cap).ownBlock) (hat : (Value.slice ao J cap).ownBlock = some g ∨ y.heap.size ≤ g) =>
          RefD.pushJob (j := ⟨(a, n), wr, s, false, 0⟩) (hy.drew 1) (by rw [hLL]; exact hown') (by rw [hv]; exact hg) (by rw [hv]; exact hat) hgd)
        have HVJ := hide hv
        have HBS := hide HBY.out.size
        clear hfl b3 hgd hy HX hv
        go_wp2
        go_region_law
          ((refine step_append_lies _ (by rfl) _ _ 81 (by rfl) (m + 1) 182 i0 (.agg #[.int .i64 0, .int .i64 0, .bool false, .string ⟨#[]⟩, .bool false, .int .i64 0]) 6 56 Tryz.underlying81 hi hz0 hz1 hz2 rfl (by decide) _ _ _ (by rfl) hown2 ⟨y.heap.size, 0, none⟩ 1 1 [.int .i64 a, .int .i64 n, .bool wr, .string s, .bool false, .int .i64 0] (by rfl) rfl hnews six_cells (by decide) (by unfold maxLen; omega) (by omega) (by simp; omega) (y.heap.size + 1) (by simp) ?_; intro g cap' y1 hown' hgrow hat hlt'; obtain ⟨⟨u1, u2⟩, u3, u4⟩ := HP.out y1 g cap' hown' hgrow (hat.imp id (fun e => by omega))))
        all_goals
          rw [hLL] at u3 u4
          have c2z := u3.c2
          have HU := hide (⟨u3, u4⟩ : _ ∧ _)
          have HAT := hide hat
          clear u1 u2 u3 u4 hown' hgrow hat hlt' hown2 hnews HP hi
          generalize y1.setCell ⟨m, 2, none⟩ (.slice (some ⟨g, 0, none⟩) (J + 1) cap') = y2 at *
          go_wp2
          go_ret2
          exact ⟨by simp, ⟨_, HU.out.1, fun q e => by rw [HVJ.out]; simp only [Value.ownBlock] at e; injection e with e; subst e; exact HAT.out.imp id (fun e => by have := HBS.out; omega)⟩, (Below.keeps (S := RS m vj) (w := w) (by rw [hbb]; exact HBY.out)).trans (((Keeps.refl (RS m vj) y).drewN 1).trans HU.out.2 (fun _ _ e => e)) (fun _ _ e => e)⟩
theorem ref_ask {w : World} {m : Nat} {d : Dv} {vi vj : Value} (h : RefD w m d vi vj) (b : Bk) (wr : Bool) (s : ByteArray) (hj : d.jobs.length < 1000) :
    Calls Tryz.prog 117 #[.pointer (some ⟨m, 0, none⟩), bkV b, .bool wr, .string s] w fun e w' => e = .returned (.tuple #[.int .i64 (askT d b wr s), .int .i64 (askE d b wr s)]) ∧ (∃ vj', RefD w' m (askD d b wr s) vi vj') ∧ Below m w w' :=
  (ref_ask' h b wr s hj).mono fun _ _ q => ⟨q.1, ⟨q.2.1.choose, q.2.1.choose_spec.1⟩, h.rs q.2.2⟩
end Go.Proofs.YtfghfbmmaclcnaaGreat
namespace Go.Proofs.YtfghfbmmaclcnaaGreat
set_option maxRecDepth 20000
open Go.RowKit
/-- A job's six cells written whole. -/
def set6 (w : World) (g o : Nat) (j : Job) : World :=
  (((((w.setCell ⟨g, o, none⟩ (.int .i64 j.b.1)).setCell ⟨g, o + 1, none⟩ (.int .i64 j.b.2)).setCell ⟨g, o + 2, none⟩ (.bool j.wr)).setCell ⟨g, o + 3, none⟩ (.string j.s)).setCell ⟨g, o + 4, none⟩ (.bool j.no)).setCell ⟨g, o + 5, none⟩ (.int .i64 (j.st : Nat))
theorem set6_keeps (w : World) (g o : Nat) (j : Job) : Keeps (fun k => k = g) w (set6 w g o j) := by
  unfold set6
  exact ((((((Keeps.refl (fun k => k = g) w).setCell ⟨g, o, none⟩ (fun _ => rfl) _).setCell ⟨g, o + 1, none⟩ (fun _ => rfl) _).setCell ⟨g, o + 2, none⟩ (fun _ => rfl) _).setCell ⟨g, o + 3, none⟩ (fun _ => rfl) _).setCell ⟨g, o + 4, none⟩ (fun _ => rfl) _).setCell ⟨g, o + 5, none⟩ (fun _ => rfl) _
theorem setCell_drewN (w : World) (n : Nat) (a : Addr) (v : Value) : (w.drewN n).setCell a v = (w.setCell a v).drewN n := rfl
theorem set6_drew (w : World) (g o : Nat) (a n : Int) (wr : Bool) (s : ByteArray) (no : Bool) :
    ((((((w.setCell ⟨g, o, none⟩ (.int .i64 a)).setCell ⟨g, o + 1, none⟩ (.int .i64 n)).setCell ⟨g, o + 2, none⟩ (.bool wr)).setCell ⟨g, o + 3, none⟩ (.string s)).setCell ⟨g, o + 4, none⟩ (.bool no)).setCell ⟨g, o + 5, none⟩ (.int .i64 1)).drew = set6 (w.drewN 1) g o ⟨(a, n), wr, s, no, 1⟩ := by
  unfold set6
  simp only [setCell_drewN]
  rfl
theorem jobsV_set (l : List Job) (k : Nat) (hk : k < l.length) (c : Nat) (hc : c < 6) (j : Job) (u : Value) (hu : jbV j = (jbV (getJ l k)).set c u) : jobsV (l.set k j) = (jobsV l).set (k * 6 + c) u := flat_set jbV 6 jbV_len l k (getJ l k) j (getJ_some hk) c hc u hu
theorem getJ_set (l : List Job) (k : Nat) (hk : k < l.length) (j : Job) : getJ (l.set k j) k = j := by simp [getJ, List.getD_eq_getElem?_getD, hk]
theorem jobsV_six (l : List Job) (k : Nat) (hk : k < l.length) (j : Job) :
    jobsV (l.set k j) = ((((((jobsV l).set (k * 6) (.int .i64 j.b.1)).set (k * 6 + 1) (.int .i64 j.b.2)).set (k * 6 + 2) (.bool j.wr)).set (k * 6 + 3) (.string j.s)).set (k * 6 + 4) (.bool j.no)).set (k * 6 + 5) (.int .i64 (j.st : Nat)) := by
  have e0 := jobsV_set l k hk 0 (by omega) ⟨(j.b.1, (getJ l k).b.2), (getJ l k).wr, (getJ l k).s, (getJ l k).no, (getJ l k).st⟩ (.int .i64 j.b.1) rfl
  have e1 := jobsV_set (l.set k ⟨(j.b.1, (getJ l k).b.2), (getJ l k).wr, (getJ l k).s, (getJ l k).no, (getJ l k).st⟩) k (by simpa using hk) 1 (by omega) ⟨(j.b.1, j.b.2), (getJ l k).wr, (getJ l k).s, (getJ l k).no, (getJ l k).st⟩ (.int .i64 j.b.2) (by rw [getJ_set l k hk]; rfl)
  have e2 := jobsV_set (l.set k ⟨(j.b.1, j.b.2), (getJ l k).wr, (getJ l k).s, (getJ l k).no, (getJ l k).st⟩) k (by simpa using hk) 2 (by omega) ⟨(j.b.1, j.b.2), j.wr, (getJ l k).s, (getJ l k).no, (getJ l k).st⟩ (.bool j.wr) (by rw [getJ_set l k hk]; rfl)
  have e3 := jobsV_set (l.set k ⟨(j.b.1, j.b.2), j.wr, (getJ l k).s, (getJ l k).no, (getJ l k).st⟩) k (by simpa using hk) 3 (by omega) ⟨(j.b.1, j.b.2), j.wr, j.s, (getJ l k).no, (getJ l k).st⟩ (.string j.s) (by rw [getJ_set l k hk]; rfl)
  have e4 := jobsV_set (l.set k ⟨(j.b.1, j.b.2), j.wr, j.s, (getJ l k).no, (getJ l k).st⟩) k (by simpa using hk) 4 (by omega) ⟨(j.b.1, j.b.2), j.wr, j.s, j.no, (getJ l k).st⟩ (.bool j.no) (by rw [getJ_set l k hk]; rfl)
  have e5 := jobsV_set (l.set k ⟨(j.b.1, j.b.2), j.wr, j.s, j.no, (getJ l k).st⟩) k (by simpa using hk) 5 (by omega) j (.int .i64 (j.st : Nat)) (by rw [getJ_set l k hk]; rfl)
  simp only [List.set_set] at e1 e2 e3 e4 e5
  rw [e5, e4, e3, e2, e1, e0, Nat.add_zero]
/-- A job is written whole. -/
theorem RefD.setJob {w : World} {m : Nat} {d : Dv} {vi vj : Value} (h : RefD w m d vi vj) {g : Nat} (hg : vj.ownBlock = some g) (k : Nat) (hk : k < d.jobs.length) (j : Job) (gd : Good { d with jobs := d.jobs.set k j }) : RefD (set6 w g (k * 6) j) m { d with jobs := d.jobs.set k j } vi vj := by
  have K := set6_keeps w g (k * 6) j
  have hgm := (h.gj hg).1
  have hl := h.lt
  have nm : ¬ m = g := by omega
  refine ⟨?_, ?_, ?_, ?_, ?_, ?_, own_keep h.oi K (fun q e e' => by subst e'; exact h.ne q e hg), ?_, h.ne, gd⟩
  · rw [K.cell hl nm]; exact h.c0
  · rw [K.cell hl nm]; exact h.c1
  · rw [K.cell hl nm]; exact h.c2
  · rw [K.frozen hl nm]; exact h.f0
  · rw [K.frozen hl nm]; exact h.f1
  · rw [K.frozen hl nm]; exact h.f2
  · simp only [List.length_set]
    rw [jobsV_six d.jobs k hk j]
    unfold set6
    exact own_set (own_set (own_set (own_set (own_set (own_set h.oj hg _ _) hg _ _) hg _ _) hg _ _) hg _ _) hg _ _
theorem RefD.keep' {w w' : World} {m : Nat} {d : Dv} {vi vj : Value} {S : Nat → Prop} (h : RefD w m d vi vj) (hk : Keeps S w w') (sm : ¬ S m) (si : ∀ g, vi.ownBlock = some g → ¬ S g) (sj : ∀ g, vj.ownBlock = some g → ¬ S g) : RefD w' m d vi vj := by
  have hl := h.lt
  exact ⟨by rw [hk.cell hl sm]; exact h.c0, by rw [hk.cell hl sm]; exact h.c1, by rw [hk.cell hl sm]; exact h.c2, by rw [hk.frozen hl sm]; exact h.f0, by rw [hk.frozen hl sm]; exact h.f1, by rw [hk.frozen hl sm]; exact h.f2,
    own_keep h.oi hk si, own_keep h.oj hk sj, h.ne, h.good⟩
theorem wrap_small (k : Nat) (h : k ≤ 1000000) : IntKind.i64.wrap (k : Int) = (k : Int) := by
  simp [IntKind.wrap, IntKind.bits, IntKind.signed]; omega
/-- A box of six cells. -/
structure Bx6 (w : World) (B : Nat) (j : Job) : Prop where
  c0 : w.cell? ⟨B, 0, none⟩ = some (.int .i64 j.b.1)
  c1 : w.cell? ⟨B, 1, none⟩ = some (.int .i64 j.b.2)
  c2 : w.cell? ⟨B, 2, none⟩ = some (.bool j.wr)
  c3 : w.cell? ⟨B, 3, none⟩ = some (.string j.s)
  c4 : w.cell? ⟨B, 4, none⟩ = some (.bool j.no)
  c5 : w.cell? ⟨B, 5, none⟩ = some (.int .i64 (j.st : Nat))
  f3 : w.frozen? ⟨B, 3, none⟩ = false
  f4 : w.frozen? ⟨B, 4, none⟩ = false
theorem Bx6.keep {w w' : World} {B : Nat} {j : Job} {S : Nat → Prop} (h : Bx6 w B j) (hk : Keeps S w w') (hS : ¬ S B) : Bx6 w' B j := by
  have hl : B < w.heap.size := World.block_lt_of_cell? w _ h.c0
  exact ⟨by rw [hk.cell hl hS]; exact h.c0, by rw [hk.cell hl hS]; exact h.c1, by rw [hk.cell hl hS]; exact h.c2, by rw [hk.cell hl hS]; exact h.c3, by rw [hk.cell hl hS]; exact h.c4, by rw [hk.cell hl hS]; exact h.c5, by rw [hk.frozen hl hS]; exact h.f3, by rw [hk.frozen hl hS]; exact h.f4⟩
theorem Bx6.setS {w : World} {B : Nat} {j : Job} (h : Bx6 w B j) (s : ByteArray) : Bx6 (w.setCell ⟨B, 3, none⟩ (.string s)) B { j with s := s } := by
  refine ⟨?_, ?_, ?_, World.cell?_setCell_same _ _ _ h.c3, ?_, ?_, ?_, ?_⟩
  · rw [World.cell?_setCell_other _ _ _ _ (by simp)]; exact h.c0
  · rw [World.cell?_setCell_other _ _ _ _ (by simp)]; exact h.c1
  · rw [World.cell?_setCell_other _ _ _ _ (by simp)]; exact h.c2
  · rw [World.cell?_setCell_other _ _ _ _ (by simp)]; exact h.c4
  · rw [World.cell?_setCell_other _ _ _ _ (by simp)]; exact h.c5
  · rw [World.frozen?_setCell]; exact h.f3
  · rw [World.frozen?_setCell]; exact h.f4
theorem Bx6.setN {w : World} {B : Nat} {j : Job} (h : Bx6 w B j) (o : Bool) : Bx6 (w.setCell ⟨B, 4, none⟩ (.bool o)) B { j with no := o } := by
  refine ⟨?_, ?_, ?_, ?_, World.cell?_setCell_same _ _ _ h.c4, ?_, ?_, ?_⟩
  · rw [World.cell?_setCell_other _ _ _ _ (by simp)]; exact h.c0
  · rw [World.cell?_setCell_other _ _ _ _ (by simp)]; exact h.c1
  · rw [World.cell?_setCell_other _ _ _ _ (by simp)]; exact h.c2
  · rw [World.cell?_setCell_other _ _ _ _ (by simp)]; exact h.c3
  · rw [World.cell?_setCell_other _ _ _ _ (by simp)]; exact h.c5
  · rw [World.frozen?_setCell]; exact h.f3
  · rw [World.frozen?_setCell]; exact h.f4
theorem Bx6.made (w : World) (a n : Int) (wr : Bool) (s : ByteArray) (no : Bool) (st : Nat) : Bx6 (w.alloc (.cells #[.int .i64 a, .int .i64 n, .bool wr, .string s, .bool no, .int .i64 (st : Int)] 182)) w.heap.size ⟨(a, n), wr, s, no, st⟩ := by
  refine ⟨?_, ?_, ?_, ?_, ?_, ?_, ?_, ?_⟩ <;> simp
set_option maxHeartbeats 2000000 in
set_option maxRecDepth 10000 in
theorem ref_do' {w : World} {m : Nat} {d : Dv} {vi vj : Value} (h : RefD w m d vi vj) (x : Int) (hx : okI x) :
    Calls Tryz.prog 48 #[.pointer (some ⟨m, 0, none⟩), .int .i64 x] w fun e w' => e = .returned (.int .i64 (doE d x)) ∧ (∃ vi', RefD w' m (doD d x) vi' vj ∧ ∀ q, vi'.ownBlock = some q → vi.ownBlock = some q ∨ w.heap.size ≤ q) ∧ Keeps (RS m vj) w w' := by
  have c0 := h.c0
  cases ho : d.off with
  | true =>
    rw [ho] at c0
    have e2 : doE d x = 6 := by simp [doE, ho]
    have e4 : doD d x = d := by simp [doD, ho]
    rw [e2, e4]
    have H := hide h
    clear h ho e2 e4
    go_enter Tryz.func48, Tryz.ntmps48
    go_wp2
    go_ret
    exact ⟨rfl, ⟨_, H.out, fun q e => .inl e⟩, Keeps.refl _ _⟩
  | false =>
    rw [ho] at c0
    have ha0 := ref_at h x hx 0
    simp only [Int.natCast_zero] at ha0
    cases hA0 : atB d.jobs x 0 with
    | false =>
      rw [hA0] at ha0
      have hf : fl d.jobs x = none := by
        have := atB_fl d.jobs x
        rw [hA0] at this
        cases e : fl d.jobs x with
        | none => rfl
        | some r => rw [e] at this; cases this
      have e2 : doE d x = 7 := by simp [doE, ho, hf]
      rw [e2, doD_none hf]
      have H := hide h
      clear h ho e2 hf hA0
      go_enter Tryz.func48, Tryz.ntmps48
      go_wp2_with fail
      refine ha0.mono ?_
      rintro e y ⟨rfl, rfl⟩
      go_wp2
      go_ret
      exact ⟨rfl, ⟨_, H.out, fun q e => .inl e⟩, Keeps.refl _ _⟩
    | true =>
      rw [hA0] at ha0
      obtain ⟨k, hk, hkl, hj, hst⟩ := atB_yes hA0
      have hfl : fl d.jobs x = some (getJ d.jobs k).rq := by simp [fl, hj, hst]
      have e2 : doE d x = 0 := by simp [doE, ho, hfl]
      have hgd := h.good.done x
      have e4 : doD d x = ⟨d.off, if (getJ d.jobs k).wr = true then lay (getJ d.jobs k).b (getJ d.jobs k).s d.items else d.items, d.jobs.set k (doneJ d (getJ d.jobs k))⟩ := by
        unfold doD
        rw [if_neg (by rw [ho]; simp), hj]
        simp only [hst, if_true]
        rw [show (x - 1).toNat = k by omega]
      rw [e2, e4]
      rw [e4] at hgd
      obtain ⟨hjb1, hjb2⟩ := h.good.jb _ (jobAt_mem hj)
      have hfew := h.good.few
      obtain ⟨ao, cap, hv, hc1, hc2, hjb⟩ := h.job
      obtain ⟨g, hao, hgb, q0, q1, q2, q3, q4, q5, qf⟩ := hjb k hkl
      have c2 := h.c2
      rw [hv, hao] at c2
      have hgl := h.gj hgb
      have hm := h.lt
      have HGI := hide (fun q (e : vi.ownBlock = some q) => (h.gi e).2)
      have hkw : ∀ j', jobAt d.jobs x = some j' → j' = getJ d.jobs k := fun j' e => by rw [hj] at e; exact (Option.some.inj e).symm
      subst hk
      have i1 : ((k : Int) + 1 - 1) = (k : Int) := by omega
      simp only [hst] at q5
      have q5' : w.cell? ⟨g, k * 6 + 5, none⟩ = some (.int .i64 0) := q5
      -- the box, in which it is done
      have hbx := Bx6.made w (getJ d.jobs k).b.1 (getJ d.jobs k).b.2 (getJ d.jobs k).wr (getJ d.jobs k).s (getJ d.jobs k).no 1
      have h1 := h.alloc (.cells #[.int .i64 (getJ d.jobs k).b.1, .int .i64 (getJ d.jobs k).b.2, .bool (getJ d.jobs k).wr, .string (getJ d.jobs k).s, .bool (getJ d.jobs k).no, .int .i64 ((1 : Nat) : Int)] 182)
      have hb1 := (Below.refl w.heap.size w).alloc (Nat.le_refl _) (.cells #[.int .i64 (getJ d.jobs k).b.1, .int .i64 (getJ d.jobs k).b.2, .bool (getJ d.jobs k).wr, .string (getJ d.jobs k).s, .bool (getJ d.jobs k).no, .int .i64 ((1 : Nat) : Int)] 182)
      have HDJ : Hid (doneJ d (getJ d.jobs k) = if (getJ d.jobs k).wr = true then { getJ d.jobs k with st := 1, s := ⟨#[]⟩ } else { getJ d.jobs k with st := 1, s := (lookL d.items (getJ d.jobs k).b).getD ⟨#[]⟩, no := (lookL d.items (getJ d.jobs k).b).isNone }) := rfl
      cases hw : (getJ d.jobs k).wr with
      | true =>
        have hlay := ref_lay h1 (getJ d.jobs k).b (getJ d.jobs k).s hjb1 hjb2
        rw [hw] at hgd q2 hbx h1 hb1 hlay HDJ
        simp only [if_true] at hgd HDJ ⊢
        rw [HDJ.out] at hgd ⊢
        have HGD := hide hgd
        have HB1 := hide hb1
        have HBX := hide hbx
        clear hgd hb1 hbx h1 hjb hv hao HDJ hkw hjb1 hjb2 h hfl hj hA0 e2 e4
        generalize hjj : getJ d.jobs k = jj at *
        obtain ⟨⟨ja, jn⟩, jw, js, jno, jst⟩ := jj
        simp only [bkV] at q0 q1 q2 q3 q4 hst hw HGD HB1 HBX hlay ⊢
        generalize hJJ : d.jobs.length = J at *
        go_enter Tryz.func48, Tryz.ntmps48
        go_wp2_with fail
        refine ha0.mono ?_
        rintro e y ⟨rfl, rfl⟩
        go_wp2_with fail
        refine hlay.mono ?_
        rintro e y2 ⟨rfl, ⟨vi', hy2, hvi⟩, ky2⟩
        subst hw
        simp only [World.size_alloc] at hvi
        have hB2 : Keeps (RS m vj) y y2 := (Below.keeps (S := RS m vj) HB1.out).trans ky2 (fun q _ e => .inl e)
        have bx2 := HBX.out.keep ky2 (by omega)
        have K3 : Keeps (fun q => q = y.heap.size) y2 (y2.setCell ⟨y.heap.size, 3, none⟩ (.string ⟨#[]⟩)) := (Keeps.refl (fun q => q = y.heap.size) y2).setCell ⟨y.heap.size, 3, none⟩ (fun _ => rfl) _
        have hy3 := hy2.keep' K3 (by omega) (fun q e e' => by have := hvi q e; omega) (fun q e e' => by rw [hgb] at e; cases e; omega)
        have bx3 := bx2.setS ⟨#[]⟩
        have hB3 : Keeps (RS m vj) y (y2.setCell ⟨y.heap.size, 3, none⟩ (.string ⟨#[]⟩)) := hB2.trans K3 (fun q hq e => by omega)
        have HVI := hide (fun q (e : vi'.ownBlock = some q) => hvi q e)
        have b3f := bx2.f3
        have b3c := bx2.c3
        have HY3 := hide hy3
        have HB3 := hide hB3
        have HX3 := hide bx3
        clear HB1 HBX hlay ha0 ky2 bx2 K3 hy3 bx3 hB3 hB2 hy2 c0 q0 q1 q2 q3 q4 q5 q5' qf c2 hvi hst
        go_wp2
        generalize y2.setCell ⟨y.heap.size, 3, none⟩ (.string ⟨#[]⟩) = y3 at *
        obtain ⟨s0, s1, s2, s3, s4, s5, -, -⟩ := HX3.out
        simp only at s0 s1 s2 s3 s4 s5
        obtain ⟨ao3, cap3, hv3, -, -, hjb3⟩ := HY3.out.job
        simp only [hJJ] at hv3 hjb3
        obtain ⟨g3, hao3, hgb3, t0, t1, t2, t3, t4, t5, tf⟩ := hjb3 k hkl
        rw [hgb] at hgb3
        cases hgb3
        have c2 := HY3.out.c2
        rw [hv3, hao3] at c2
        have tf0 := tf 0 (by omega)
        have tf1 := tf 1 (by omega)
        have tf2 := tf 2 (by omega)
        have tf3 := tf 3 (by omega)
        have tf4 := tf 4 (by omega)
        have tf5 := tf 5 (by omega)
        rw [Nat.add_zero] at tf0
        have hfin := (HY3.out.drew 1).setJob hgb k (by simp only; omega) ⟨(ja, jn), true, ⟨#[]⟩, jno, 1⟩ HGD.out
        have hfb : Keeps (RS m vj) y (set6 (y3.drewN 1) g (k * 6) ⟨(ja, jn), true, ⟨#[]⟩, jno, 1⟩) := (HB3.out.drewN 1).trans (set6_keeps (y3.drewN 1) g (k * 6) ⟨(ja, jn), true, ⟨#[]⟩, jno, 1⟩) (fun q _ e => .inr (e ▸ hgb))
        obtain ⟨X, hX0⟩ : ∃ X, X = set6 (y3.drewN 1) g (k * 6) ⟨(ja, jn), true, ⟨#[]⟩, jno, 1⟩ := ⟨_, rfl⟩
        rw [← hX0] at hfin hfb
        have hX : ((((((y3.setCell ⟨g, k * 6, none⟩ (.int .i64 ja)).setCell ⟨g, k * 6 + 1, none⟩ (.int .i64 jn)).setCell ⟨g, k * 6 + 2, none⟩ (.bool true)).setCell ⟨g, k * 6 + 3, none⟩ (.string ⟨#[]⟩)).setCell ⟨g, k * 6 + 4, none⟩ (.bool jno)).setCell ⟨g, k * 6 + 5, none⟩ (.int .i64 1)).drew = X := by rw [hX0]; exact set6_drew _ _ _ _ _ _ _ _
        have HF := hide (⟨hfin, hfb⟩ : _ ∧ _)
        have HX9 := hide hX
        clear hX hX0
        have hwk := wrap_small k (by omega)
        clear hfin hfb hjb3 hv3 tf HX3 HB3
        go_region_law (fail)
        all_goals
          rw [HX9.out]
          go_wp2
          go_ret
          exact ⟨rfl, ⟨_, by first | exact HF.out.1 | (have hh := HF.out.1; rw [ho] at hh; exact hh), fun q e => .inr (by have := HVI.out q e; omega)⟩, HF.out.2⟩
      | false =>
        have hpk := ref_peek h1 (getJ d.jobs k).b
        rw [hw] at hgd q2 hbx h1 hb1 hpk HDJ
        simp only [Bool.false_eq_true, if_false] at hgd HDJ ⊢
        rw [HDJ.out] at hgd ⊢
        have HGD := hide hgd
        have HB1 := hide hb1
        have HBX := hide hbx
        have HR1 := hide h1
        clear hgd hb1 hbx h1 hjb hv hao HDJ hkw hjb1 hjb2 h hfl hj hA0 e2 e4
        generalize hjj : getJ d.jobs k = jj at *
        obtain ⟨⟨ja, jn⟩, jw, js, jno, jst⟩ := jj
        simp only [bkV] at q0 q1 q2 q3 q4 hst hw HGD HB1 HBX hpk HR1 ⊢
        have hnone : (lookL d.items (ja, jn)).isNone = !(lookL d.items (ja, jn)).isSome := by cases lookL d.items (ja, jn) <;> rfl
        rw [hnone] at HGD ⊢
        generalize hlk : (lookL d.items (ja, jn)).getD ⟨#[]⟩ = ls at *
        generalize hls : (lookL d.items (ja, jn)).isSome = lo at *
        generalize hJJ : d.jobs.length = J at *
        go_enter Tryz.func48, Tryz.ntmps48
        go_wp2_with fail
        refine ha0.mono ?_
        rintro e y ⟨rfl, rfl⟩
        go_wp2_with fail
        refine hpk.mono ?_
        rintro e y2 ⟨rfl, by2⟩
        subst hw
        have hB2 : Keeps (RS m vj) y y2 := (Below.keeps (S := RS m vj) HB1.out).trans (Below.keeps (S := RS m vj) by2) (fun q _ e => e)
        have hy2 := HR1.out.below by2
        have bx2 := HBX.out.keep (Below.keeps (S := fun _ => False) by2) (fun h => h)
        have K3 : Keeps (fun q => q = y.heap.size) y2 ((y2.setCell ⟨y.heap.size, 3, none⟩ (.string ls)).setCell ⟨y.heap.size, 4, none⟩ (.bool (!lo))) := ((Keeps.refl (fun q => q = y.heap.size) y2).setCell ⟨y.heap.size, 3, none⟩ (fun _ => rfl) _).setCell ⟨y.heap.size, 4, none⟩ (fun _ => rfl) _
        have hgi : ∀ q, vi.ownBlock = some q → q < y.heap.size := HGI.out
        have hy3 := hy2.keep' K3 (by omega) (fun q e e' => by have := hgi q e; omega) (fun q e e' => by rw [hgb] at e; cases e; omega)
        have bx3 := (bx2.setS ls).setN (!lo)
        have hB3 : Keeps (RS m vj) y ((y2.setCell ⟨y.heap.size, 3, none⟩ (.string ls)).setCell ⟨y.heap.size, 4, none⟩ (.bool (!lo))) := hB2.trans K3 (fun q hq e => by omega)
        have b3f := bx2.f3
        have b3c := bx2.c3
        have b4f := (bx2.setS ls).f4
        have b4c := (bx2.setS ls).c4
        have HY3 := hide hy3
        have HB3 := hide hB3
        have HX3 := hide bx3
        clear HB1 HBX hpk ha0 by2 bx2 K3 hy3 bx3 hB3 hB2 hy2 c0 q0 q1 q2 q3 q4 q5 q5' qf c2 hst HR1 hgi
        go_wp2
        generalize (y2.setCell ⟨y.heap.size, 3, none⟩ (.string ls)).setCell ⟨y.heap.size, 4, none⟩ (.bool (!lo)) = y3 at *
        obtain ⟨s0, s1, s2, s3, s4, s5, -, -⟩ := HX3.out
        simp only at s0 s1 s2 s3 s4 s5
        obtain ⟨ao3, cap3, hv3, -, -, hjb3⟩ := HY3.out.job
        simp only [hJJ] at hv3 hjb3
        obtain ⟨g3, hao3, hgb3, t0, t1, t2, t3, t4, t5, tf⟩ := hjb3 k hkl
        rw [hgb] at hgb3
        cases hgb3
        have c2 := HY3.out.c2
        rw [hv3, hao3] at c2
        have tf0 := tf 0 (by omega)
        have tf1 := tf 1 (by omega)
        have tf2 := tf 2 (by omega)
        have tf3 := tf 3 (by omega)
        have tf4 := tf 4 (by omega)
        have tf5 := tf 5 (by omega)
        rw [Nat.add_zero] at tf0
        have hfin := (HY3.out.drew 1).setJob hgb k (by omega) ⟨(ja, jn), false, ls, !lo, 1⟩ HGD.out
        have hfb : Keeps (RS m vj) y (set6 (y3.drewN 1) g (k * 6) ⟨(ja, jn), false, ls, !lo, 1⟩) := (HB3.out.drewN 1).trans (set6_keeps (y3.drewN 1) g (k * 6) ⟨(ja, jn), false, ls, !lo, 1⟩) (fun q _ e => .inr (e ▸ hgb))
        obtain ⟨X, hX0⟩ : ∃ X, X = set6 (y3.drewN 1) g (k * 6) ⟨(ja, jn), false, ls, !lo, 1⟩ := ⟨_, rfl⟩
        rw [← hX0] at hfin hfb
        have hX : ((((((y3.setCell ⟨g, k * 6, none⟩ (.int .i64 ja)).setCell ⟨g, k * 6 + 1, none⟩ (.int .i64 jn)).setCell ⟨g, k * 6 + 2, none⟩ (.bool false)).setCell ⟨g, k * 6 + 3, none⟩ (.string ls)).setCell ⟨g, k * 6 + 4, none⟩ (.bool (!lo))).setCell ⟨g, k * 6 + 5, none⟩ (.int .i64 1)).drew = X := by rw [hX0]; exact set6_drew _ _ _ _ _ _ _ _
        have HF := hide (⟨hfin, hfb⟩ : _ ∧ _)
        have HX9 := hide hX
        clear hX hX0
        have hwk := wrap_small k (by omega)
        clear hfin hfb hjb3 hv3 tf HX3 HB3
        go_region_law (fail)
        all_goals
          rw [HX9.out]
          go_wp2
          go_ret
          exact ⟨rfl, ⟨_, by first | exact HF.out.1 | (have hh := HF.out.1; rw [ho] at hh; exact hh), fun q e => .inl e⟩, HF.out.2⟩
theorem ref_do {w : World} {m : Nat} {d : Dv} {vi vj : Value} (h : RefD w m d vi vj) (x : Int) (hx : okI x) :
    Calls Tryz.prog 48 #[.pointer (some ⟨m, 0, none⟩), .int .i64 x] w fun e w' => e = .returned (.int .i64 (doE d x)) ∧ (∃ vi', RefD w' m (doD d x) vi' vj) ∧ Keeps (RS m vj) w w' :=
  (ref_do' h x hx).mono fun _ _ q => ⟨q.1, ⟨q.2.1.choose, q.2.1.choose_spec.1⟩, q.2.2⟩
end Go.Proofs.YtfghfbmmaclcnaaGreat
