/- Parts of the proof: Ju Jz. -/
import Derived.Test.YtikpphbgjbfddaaJ1
import Derived.Test.YtikpphbgjbfddaaJ6
import Derived.Test.YtikpphbgjbfddaaJ15
import Derived.ChangeArms
import Derived.ChangeSame
import Derived.OpenShut
import Derived.Deep.Slices
namespace Go.Proofs.Ytikpphbgjbfddaa
set_option maxRecDepth 20000
open Go.ChangeShapes Go.WideShapes Go.ChangeAt Go.RowKit
structure Ow where
  kd : Int
  s : ByteArray
  n : Int
instance : Inhabited Ow := ⟨⟨0, ByteArray.empty, 0⟩⟩
def Ow.cells (x : Ow) : List Value := [.int .i64 x.kd, .string x.s, .int .u64 x.n]
structure OwOk (x : Ow) : Prop where
  kd : -9223372036854775808 ≤ x.kd ∧ x.kd ≤ 9223372036854775807
  s : x.s.size ≤ 9223372036854775807
  n : 0 ≤ x.n ∧ x.n ≤ 18446744073709551615
theorem Owcells_3 : Try.prog.cellsOf 3 = 1 := by kernel_rfl
theorem Owcells_9 : Try.prog.cellsOf 9 = 1 := by kernel_rfl
theorem Owcells_43 : Try.prog.cellsOf 43 = 1 := by kernel_rfl
theorem Owcells : Try.prog.cellsOf 56 = 3 := by kernel_rfl
theorem Owlist {α : Type} {l : List α} (h : l.length = 3) : ∃ c0 c1 c2, l = [c0, c1, c2] := by
  match l, h with
  | [c0, c1, c2], _ => exact ⟨c0, c1, c2, rfl⟩
theorem Ow_of_trod {H : Type} {enc : TypeId × Value → H} {W : World} {base : Nat} {sp : Nat → Bool} {held : Bool} {fuel : Nat} {cs : List Value} {x : DataW H × List MemPlace}
    (h : DataW.trod enc Try.prog W base sp held fuel 56 cs = some x) (hl : cs.length = 3) : ∃ a : Ow, OwOk a ∧ cs = a.cells := by
  obtain ⟨c0, c1, c2, rfl⟩ := Owlist hl
  obtain ⟨xs, m, _, hx, _, hlen, hfs⟩ := DataW.trod_struct Try.underlying56 h
  obtain ⟨y0, y1, y2, rfl⟩ := Owlist (l := xs) hlen
  have f0 := hfs 0 _ rfl
  have f1 := hfs 1 _ rfl
  have f2 := hfs 2 _ rfl
  simp [Owcells_3] at f0
  simp [Owcells_9] at f1
  simp [Owcells_43] at f2
  obtain ⟨v0, e0, _, w0⟩ := DataW.trod_int Try.underlying3 f0
  obtain ⟨v1, e1, _, w1⟩ := DataW.trod_string Try.underlying9 f1
  obtain ⟨v2, e2, _, w2⟩ := DataW.trod_int Try.underlying43 f2
  cases e0; cases e1; cases e2
  exact ⟨⟨v0, v1, v2⟩, ⟨bounds_i64 w0, by first | exact w1 | (unfold maxLen at w1; exact w1), bounds_u64 w2⟩, rfl⟩
/-- A call as an argument. -/
def IsOw (_ : World) (v : Value) : Prop := ∃ x : Ow, OwOk x ∧ v = .agg #[.int .i64 x.kd, .string x.s, .int .u64 x.n]
set_option maxRecDepth 100000 in
theorem open_Ow {H : Type} {enc : TypeId × Value → H} {W : World} {base : Nat} {v : Value} {d : DataW H} {p : List MemPlace} (hv : Value.okWide Try.prog W .any base 56 v)
    (h : DataW.Trod enc Try.prog W 0 (fun _ => true) true 56 v d p) : IsOw W v := by
  obtain ⟨cs, rfl, hsz⟩ := okWide_struct Try.underlying56 hv
  rw [Owcells] at hsz
  obtain ⟨l⟩ := cs
  obtain ⟨fuel, hf⟩ := h
  obtain ⟨x, hx, e⟩ := Ow_of_trod (cs := l) (by simpa [Value.cells] using hf) (by simpa using hsz)
  exact ⟨x, hx, by rw [e]; rfl⟩
/-- A call in memory. -/
structure OwAt (w : World) (b off : Nat) (x : Ow) : Prop where
  c0 : w.cell? ⟨b, off, none⟩ = some (.int .i64 x.kd)
  c1 : w.cell? ⟨b, off + 1, none⟩ = some (.string x.s)
  c2 : w.cell? ⟨b, off + 2, none⟩ = some (.int .u64 x.n)
theorem OwAt.lt {w : World} {b off : Nat} {x : Ow} (h : OwAt w b off x) : b < w.heap.size := World.block_lt_of_cell? w _ h.c0
theorem OwAt.below {w w' : World} {b off : Nat} {x : Ow} (h : OwAt w b off x) (hb : Below w.heap.size w w') : OwAt w' b off x :=
  ⟨by rw [hb.cell h.lt]; exact h.c0, by rw [hb.cell h.lt]; exact h.c1, by rw [hb.cell h.lt]; exact h.c2⟩
theorem OwAt.under {w w' : World} {b off B : Nat} {x : Ow} (h : OwAt w b off x) (hb : Below B w w') (hB : b < B) : OwAt w' b off x :=
  ⟨by rw [hb.cell hB]; exact h.c0, by rw [hb.cell hB]; exact h.c1, by rw [hb.cell hB]; exact h.c2⟩
/-- A slice of calls that is read. -/
def Ows (w : World) (ao : Option Addr) (n : Nat) (z : Nat → Ow) : Prop := ∀ j, j < n → OwOk (z j) ∧ ∃ b off, ao = some ⟨b, off, none⟩ ∧ OwAt w b (off + j * 3) (z j)
theorem Ows.below {w w' : World} {ao : Option Addr} {n : Nat} {z : Nat → Ow} (h : Ows w ao n z) (hb : Below w.heap.size w w') : Ows w' ao n z := fun j hj => by
  obtain ⟨h0, b, off, h1, h2⟩ := h j hj
  exact ⟨h0, b, off, h1, h2.below hb⟩
def IsOws (w : World) (v : Value) : Prop := ∃ ao len cap z, v = .slice ao len cap ∧ len ≤ 9223372036854775807 ∧ Ows w ao len z
set_option maxRecDepth 100000 in
theorem open_Ows {H : Type} {enc : TypeId × Value → H} {W : World} {base : Nat} {v : Value} {d : DataW H} {p : List MemPlace} (hv : Value.okWide Try.prog W .any base 22 v)
    (h : DataW.Trod enc Try.prog W 0 (fun _ => true) true 22 v d p) : IsOws W v := by
  obtain ⟨ao, len, cap, rfl⟩ := okWide_slice Try.underlying22 hv
  obtain ⟨fuel, hf⟩ := h
  rcases Go.Deep.open_slice Try.underlying22 hf with ⟨hcs, _⟩ | ⟨a, l, c, m, n, D, Pl, hcs, _, hl, hm, hmm, _, hc⟩
  · simp [Value.cells] at hcs
    obtain ⟨rfl, rfl, rfl⟩ := hcs
    exact ⟨_, _, _, fun _ => default, rfl, by decide, fun j hj => by omega⟩
  · simp [Value.cells] at hcs
    obtain ⟨rfl, rfl, rfl⟩ := hcs
    simp only [if_true] at hmm
    subst hmm
    rw [Owcells] at hc
    obtain ⟨b, off, spot⟩ := a
    have hone : ∀ i, i < m → ∃ z : Ow, OwOk z ∧ W.cell? ((Addr.add ⟨b, off, spot⟩ (i * 3)).add 0) = some (.int .i64 z.kd) ∧ W.cell? ((Addr.add ⟨b, off, spot⟩ (i * 3)).add 1) = some (.string z.s) ∧ W.cell? ((Addr.add ⟨b, off, spot⟩ (i * 3)).add 2) = some (.int .u64 z.n) := by
      intro i hi
      obtain ⟨cs', h1, h2⟩ := hc i hi
      obtain ⟨_, hlen, hget⟩ := World.cells?_some h1
      obtain ⟨z, hz, rfl⟩ := Ow_of_trod h2 hlen
      exact ⟨z, hz, hget 0 (by decide), hget 1 (by decide), hget 2 (by decide)⟩
    by_cases h0 : len = 0
    · subst h0
      exact ⟨_, _, _, fun _ => default, rfl, by decide, fun j hj => by omega⟩
    · have hspot : spot = none := by
        obtain ⟨z, _, h1, _⟩ := hone 0 (by omega)
        simpa [Addr.add] using World.cell?_spot h1
      subst hspot
      obtain ⟨z, hz⟩ := Go.Deep.choose_lt hone
      refine ⟨_, _, _, z, rfl, by unfold maxLen at hm; omega, fun j hj => ?_⟩
      obtain ⟨k0, k1⟩ := hz j (by omega)
      refine ⟨k0, b, off, rfl, ?_⟩
      simp only [Go.WideShapes.add_plain, Nat.add_zero] at k1
      obtain ⟨a0, a1, a2⟩ := k1
      exact ⟨a0, a1, a2⟩
/-- Somebody that begins. -/
def WkFresh (N : Nat) (x : Wk) : Prop := x = wkR ∨ (N = 1 ∧ ∃ n, n < 18446744073709551616 ∧ x = wkA n) ∨ ∃ l, l.length = N ∧ AllW l ∧ x = wkW l
theorem WkFresh.ok {N : Nat} {x : Wk} (h : WkFresh N x) : WkOk N x ∧ x.holds = false := by
  have nil : AllW [] := fun x hx => by simp at hx
  rcases h with rfl | ⟨rfl, n, hn, rfl⟩ | ⟨l, hl, ha, rfl⟩
  · exact ⟨⟨show (0 : Nat) < _ by decide, nil, nil, show (0 : Nat) < _ by decide, by simp [wkR], fun _ => by simp [wkR], fun _ h => by simp [wkR] at h, by simp [wkR], fun _ h => by simp [wkR] at h, fun h => by simp [wkR] at h, fun h => by simp [wkR] at h⟩, rfl⟩
  · exact ⟨⟨hn, nil, nil, show (0 : Nat) < _ by decide, by simp [wkA], fun h => by simp [wkA] at h, fun h => by simp [wkA] at h, by simp [wkA], fun h => by simp [wkA] at h, fun _ h => by simp [wkA] at h, fun _ => by simp [wkA]⟩, rfl⟩
  · exact ⟨⟨show (0 : Nat) < _ by decide, ha, nil, show (0 : Nat) < _ by decide, by simp [wkW], fun h => by simp [wkW] at h, fun h => by simp [wkW] at h, by simp [wkW], fun h => by simp [wkW] at h, fun _ _ => ⟨hl, by simp [wkW]⟩, fun h => by simp [wkW] at h⟩, rfl⟩
theorem scOk_fresh {N : Nat} {c : Ce} {xs : Nat → Wk} {K : Nat} (hc : CeOk N c) (hl : c.lk = false) (h : ∀ j, j < K → WkFresh N (xs j)) : ScOk N c xs K := by
  refine ⟨hc, fun j hj => (h j hj).ok.1, fun i hi j hj h1 => ?_, ?_, fun j hj h1 => ?_⟩
  · rw [(h i hi).ok.2] at h1; cases h1
  · rw [hl]
    exact ⟨fun e => (by cases e), fun ⟨j, hj, h1⟩ => (by rw [(h j hj).ok.2] at h1; cases h1)⟩
  · rw [(h j hj).ok.2] at h1; cases h1
theorem own_wider {w : World} {B B' : Nat} {e : TypeId} {v : Value} {n : Nat} {xs : List Value} (h : w.ownsRow B e 1 v n xs) (hB : B' ≤ B) : w.ownsRow B' e 1 v n xs := by
  refine ⟨h.1, ?_⟩
  rcases h.2 with h1 | ⟨g, cap, cur, h1, h2, h3⟩
  · exact .inl h1
  · exact .inr ⟨g, cap, cur, h1, Nat.le_trans hB h2, h3⟩
theorem RcIs.wider {w : World} {B B' m : Nat} {v : Value} {c : Ce} (h : RcIs w B m v c) (hB : B' ≤ B) : RcIs w B' m v c :=
  ⟨h.c0, h.f0, h.c1, h.f1, h.c2, own_wider h.own hB, h.ne⟩
open Classical in
noncomputable def oBeg (S Q : Nat → Prop) (sx : Nat) : Nat → Nat := fun i => if S i then 1 else if Q i then 2 else if i = sx then 3 else 0
/-- Nobody is at it. -/
theorem scA_begin {X : InPred} {w : World} {B sx t m k N n : Nat} {v : Value} {S : Nat → Prop} {c : Ce} (hb : InBuf w S t k N c) (hc : RcIs w B m v c) (hS : ∀ i, S i → B ≤ i ∧ i < w.heap.size) (hm : B ≤ m ∧ ¬ S m) (hv : ∀ g, v.ownBlock = some g → B ≤ g ∧ ¬ S g)
    (hx : B ≤ sx ∧ ¬ S sx ∧ sx ≠ m ∧ v.ownBlock ≠ some sx) (h0 : w.cell? ⟨sx, 0, none⟩ = some (.pointer (some ⟨t, 0, none⟩))) (h1 : w.cell? ⟨sx, 1, none⟩ = some (.pointer (some ⟨m, 0, none⟩))) (h2 : ∀ i, i < 3 → w.cell? ⟨sx, 2 + i, none⟩ = some (.slice none 0 0) ∧ w.frozen? ⟨sx, 2 + i, none⟩ = false) (xs : Nat → Wk) (pw q : Nat → Nat) (rd : Nat → Bool) (vls vgs : Nat → Value) (hB : B ≤ w.heap.size) :
    ∃ o, ScA X w o B ⟨sx, t, m, N, n, 0, v, .slice none 0 0, .slice none 0 0, .slice none 0 0, pw, q, rd⟩ k vls vgs c xs c xs := by
  obtain ⟨Q, HQ⟩ : ∃ Q : Nat → Prop, Q = fun i => i = m ∨ v.ownBlock = some i := ⟨_, rfl⟩
  have hQ : ∀ i, Q i → B ≤ i ∧ i < w.heap.size ∧ ¬ S i ∧ i ≠ sx := fun i e => by
    subst HQ
    rcases e with e | e
    · subst e; exact ⟨hm.1, hc.lt, hm.2, fun e => hx.2.2.1 e.symm⟩
    · exact ⟨(hv i e).1, (World.ownsRow.lt hc.own i e).2, (hv i e).2, fun e' => by subst e'; exact hx.2.2.2 e⟩
  have hsx : sx < w.heap.size := World.block_lt_of_cell? w _ h0
  have of : ∀ i, (S i ∧ oBeg S Q sx i = 1) ∨ (¬ S i ∧ Q i ∧ oBeg S Q sx i = 2) ∨ (¬ S i ∧ ¬ Q i ∧ i = sx ∧ oBeg S Q sx i = 3) ∨ (¬ S i ∧ ¬ Q i ∧ i ≠ sx ∧ oBeg S Q sx i = 0) := fun i => by
    unfold oBeg
    by_cases e1 : S i
    · rw [if_pos e1]; exact .inl ⟨e1, rfl⟩
    · rw [if_neg e1]
      by_cases e2 : Q i
      · rw [if_pos e2]; exact .inr (.inl ⟨e1, e2, rfl⟩)
      · rw [if_neg e2]
        by_cases e3 : i = sx
        · rw [if_pos e3]; exact .inr (.inr (.inl ⟨e1, e2, e3, rfl⟩))
        · rw [if_neg e3]; exact .inr (.inr (.inr ⟨e1, e2, e3, rfl⟩))
  generalize oBeg S Q sx = o at of
  have s1 : (fun i => o i = 1) = S := by
    funext i
    apply propext
    rcases of i with ⟨a, e⟩ | ⟨a, _, e⟩ | ⟨a, _, _, e⟩ | ⟨a, _, _, e⟩ <;> rw [e]
    · exact ⟨fun _ => a, fun _ => rfl⟩
    · exact ⟨fun e => by omega, fun e => absurd e a⟩
    · exact ⟨fun e => by omega, fun e => absurd e a⟩
    · exact ⟨fun e => by omega, fun e => absurd e a⟩
  have s2 : ∀ i, Q i → o i = 2 := fun i hi => by
    rcases of i with ⟨a, e⟩ | ⟨_, _, e⟩ | ⟨_, a, _⟩ | ⟨_, a, _⟩
    · exact absurd a (hQ i hi).2.2.1
    · exact e
    · exact absurd hi a
    · exact absurd hi a
  refine ⟨o, ⟨by rw [s1]; exact hb, fun j hj => absurd hj (Nat.not_lt_zero j)⟩, ⟨hc, s2 m (by subst HQ; exact .inl rfl), fun g hg => s2 g (by subst HQ; exact .inr hg), fun j hj => absurd hj (Nat.not_lt_zero j), fun j hj => absurd hj (Nat.not_lt_zero j), fun j hj => absurd hj (Nat.not_lt_zero j), fun j hj => absurd hj (Nat.not_lt_zero j), fun j hj => absurd hj (Nat.not_lt_zero j)⟩, ⟨h0, h1, (h2 0 (by omega)).1, (h2 1 (by omega)).1, (h2 2 (by omega)).1, (h2 0 (by omega)).2, (h2 1 (by omega)).2, (h2 2 (by omega)).2, World.ownsRow_nil _ _ _ _, World.ownsRow_nil _ _ _ _, World.ownsRow_nil _ _ _ _, ⟨fun e => (by cases e), fun e => (by cases e), fun e => (by cases e)⟩, fun g e => (by cases e), fun g e => (by cases e)⟩, ?_, fun g e => ?_, ⟨fun i hi => ?_, hB⟩, fun i => ?_⟩
  · rcases of sx with ⟨a, _⟩ | ⟨_, a, _⟩ | ⟨_, _, _, e⟩ | ⟨_, _, a, _⟩
    · exact absurd a hx.2.1
    · exact absurd rfl (hQ sx a).2.2.2
    · exact e
    · exact absurd rfl a
  · rcases e with e | e | e <;> cases e
  · rcases of i with ⟨a, _⟩ | ⟨_, a, _⟩ | ⟨_, _, a, _⟩ | ⟨_, _, _, e⟩
    · exact hS i a
    · exact ⟨(hQ i a).1, (hQ i a).2.1⟩
    · subst a; exact ⟨hx.1, hsx⟩
    · exact absurd e hi
  · show o i < 4 + 2 * 0
    rcases of i with ⟨_, e⟩ | ⟨_, _, e⟩ | ⟨_, _, _, e⟩ | ⟨_, _, _, e⟩ <;> rw [e] <;> omega
end Go.Proofs.Ytikpphbgjbfddaa
namespace Go.Proofs.Ytikpphbgjbfddaa
set_option maxRecDepth 20000
open Go.RowKit
/-- Of a list of words. -/
def EmL (n N : Nat) (l : List Nat) : Prop := Empty (fun j => l.getD j 0) n N
theorem emL_nil (n N : Nat) : EmL n N [] := fun k _ _ => by simp [byteAt]
theorem EmL.set {n N i : Nat} {c l : List Nat} (h : EmL n N c) (k : EmL n N l) : EmL n N (c.set i (l.getD i 0)) := by
  intro j h1 h2
  have a := h j h1 h2
  have b := k j h1 h2
  unfold byteAt at a b ⊢
  simp only [List.getD_eq_getElem?_getD, List.getElem?_set] at a b ⊢
  by_cases e : i = j / 8
  · subst e
    rw [if_pos rfl]
    by_cases q : j / 8 < c.length
    · rw [if_pos q]; simpa using b
    · rw [if_neg q]; simp
  · rw [if_neg e]; exact a
theorem EmL.snoc {n N i : Nat} {g c : List Nat} (h : EmL n N g) (k : EmL n N c) (hi : g.length = i) : EmL n N (g ++ [c.getD i 0]) := by
  intro j h1 h2
  have a := h j h1 h2
  have b := k j h1 h2
  unfold byteAt at a b ⊢
  simp only [List.getD_eq_getElem?_getD] at a b ⊢
  by_cases e : j / 8 < g.length
  · rw [List.getElem?_append_left e]; exact a
  · rw [List.getElem?_append_right (by omega)]
    by_cases q : j / 8 = i
    · rw [q, hi, Nat.sub_self]; rw [q] at b; simpa using b
    · rw [List.getElem?_eq_none (by simp; omega)]; simp
theorem emL_words (s : ByteArray) : EmL s.size (wordsFor s.size) (wordsL s.data.toList (wordsFor s.size)) := by
  intro j h1 h2
  have h := empty_words s.data.toList (wordsFor s.size) j h1 h2
  unfold byteAt at h ⊢
  have hg : (wordsL s.data.toList (wordsFor s.size)).getD (j / 8) 0 = wordAt s.data.toList (j / 8) := by
    have : j / 8 < wordsFor s.size := by omega
    simp [wordsL, List.getD_eq_getElem?_getD, this]
  simp only [hg]; exact h
theorem WkFresh.gt0 {N : Nat} {x : Wk} (h : WkFresh N x) : [] = x.gt := by
  rcases h with e | ⟨_, n, _, e⟩ | ⟨l, _, _, e⟩ <;> subst e <;> rfl
theorem wk_em {n N : Nat} {c : Ce} {x : Wk} (hx : WkOk N x) (h1 : EmL n N c.l) (h2 : EmL n N x.l) (h3 : EmL n N x.gt) : EmL n N (wkMove c x).2.1.l ∧ EmL n N (wkMove c x).2.2.gt := by
  unfold wkMove
  split
  · exact ⟨h1, h3⟩
  · split
    · rename_i hr
      split
      · split
        · exact ⟨h1, h3⟩
        · exact ⟨h1, emL_nil _ _⟩
      · rename_i h0
        split
        · exact ⟨h1, h3.snoc h1 (by have := hx.rgt hr (by omega); omega)⟩
        · split
          · exact ⟨h1, h3⟩
          · exact ⟨h1, h3⟩
    · split
      · split
        · exact ⟨h1, h3⟩
        · exact ⟨h1, h3⟩
      · split
        · exact ⟨h1, h3⟩
        · split
          · exact ⟨h1.set h2, h3⟩
          · exact ⟨h1, h3⟩
end Go.Proofs.Ytikpphbgjbfddaa
