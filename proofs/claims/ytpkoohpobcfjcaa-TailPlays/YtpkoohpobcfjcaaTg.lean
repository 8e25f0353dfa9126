/- Calls of tail as arguments; rooms as rows of memory. -/
import Derived.Test.YtpkoohpobcfjcaaTf
import Derived.Deep.Slices
import Derived.Deep.AppendLies
import Derived.ChangeArms
import Derived.ChangeSame
import Derived.ProofKit
namespace Go.Proofs.Ytpkoohpobcfjcaa
open Go.ChangeShapes Go.WideShapes Go.ChangeAt Go.RowKit
structure Tk where
  kind : Int
  n : Int
instance : Inhabited Tk := ⟨⟨0, 0⟩⟩
def Tk.cells (x : Tk) : List Value := [.int .i64 x.kind, .int .i64 x.n]
structure TkOk (x : Tk) : Prop where
  kind : -9223372036854775808 ≤ x.kind ∧ x.kind ≤ 9223372036854775807
  n : -9223372036854775808 ≤ x.n ∧ x.n ≤ 9223372036854775807
theorem Tkcells_3 : Try.prog.cellsOf 3 = 1 := by kernel_rfl
theorem Tkcells : Try.prog.cellsOf 32 = 2 := by kernel_rfl
theorem Tklist {α : Type} {l : List α} (h : l.length = 2) : ∃ c0 c1, l = [c0, c1] := by
  match l, h with
  | [c0, c1], _ => exact ⟨c0, c1, rfl⟩
theorem Tk_of_trod {H : Type} {enc : TypeId × Value → H} {W : World} {base : Nat} {sp : Nat → Bool} {held : Bool} {fuel : Nat} {cs : List Value} {x : DataW H × List MemPlace}
    (h : DataW.trod enc Try.prog W base sp held fuel 32 cs = some x) (hl : cs.length = 2) : ∃ a : Tk, TkOk a ∧ cs = a.cells := by
  obtain ⟨c0, c1, rfl⟩ := Tklist hl
  obtain ⟨xs, m, _, hx, _, hlen, hfs⟩ := DataW.trod_struct Try.underlying32 h
  obtain ⟨y0, y1, rfl⟩ := Tklist (l := xs) hlen
  have f0 := hfs 0 _ rfl
  have f1 := hfs 1 _ rfl
  simp [Tkcells_3] at f0
  simp [Tkcells_3] at f1
  obtain ⟨v0, e0, _, w0⟩ := DataW.trod_int Try.underlying3 f0
  obtain ⟨v1, e1, _, w1⟩ := DataW.trod_int Try.underlying3 f1
  cases e0; cases e1
  exact ⟨⟨v0, v1⟩, ⟨bounds_i64 w0, bounds_i64 w1⟩, rfl⟩
/-- A call as an argument. -/
def IsTk (_ : World) (v : Value) : Prop := ∃ x : Tk, TkOk x ∧ v = .agg #[.int .i64 x.kind, .int .i64 x.n]
set_option maxRecDepth 100000 in
theorem open_Tk {H : Type} {enc : TypeId × Value → H} {W : World} {base : Nat} {v : Value} {d : DataW H} {p : List MemPlace} (hv : Value.okWide Try.prog W .any base 32 v)
    (h : DataW.Trod enc Try.prog W 0 (fun _ => true) true 32 v d p) : IsTk W v := by
  obtain ⟨cs, rfl, hsz⟩ := okWide_struct Try.underlying32 hv
  rw [Tkcells] at hsz
  obtain ⟨l⟩ := cs
  obtain ⟨fuel, hf⟩ := h
  obtain ⟨x, hx, e⟩ := Tk_of_trod (cs := l) (by simpa [Value.cells] using hf) (by simpa using hsz)
  exact ⟨x, hx, by rw [e]; rfl⟩
/-- A call in memory. -/
structure TkAt (w : World) (b off : Nat) (x : Tk) : Prop where
  c0 : w.cell? ⟨b, off, none⟩ = some (.int .i64 x.kind)
  c1 : w.cell? ⟨b, off + 1, none⟩ = some (.int .i64 x.n)
theorem TkAt.lt {w : World} {b off : Nat} {x : Tk} (h : TkAt w b off x) : b < w.heap.size := World.block_lt_of_cell? w _ h.c0
theorem TkAt.below {w w' : World} {b off : Nat} {x : Tk} (h : TkAt w b off x) (hb : Below w.heap.size w w') : TkAt w' b off x :=
  ⟨by rw [hb.cell h.lt]; exact h.c0, by rw [hb.cell h.lt]; exact h.c1⟩
theorem TkAt.under {w w' : World} {b off B : Nat} {x : Tk} (h : TkAt w b off x) (hb : Below B w w') (hB : b < B) : TkAt w' b off x :=
  ⟨by rw [hb.cell hB]; exact h.c0, by rw [hb.cell hB]; exact h.c1⟩
/-- A slice of calls that is read. -/
def Tks (w : World) (ao : Option Addr) (n : Nat) (z : Nat → Tk) : Prop := ∀ j, j < n → TkOk (z j) ∧ ∃ b off, ao = some ⟨b, off, none⟩ ∧ TkAt w b (off + j * 2) (z j)
theorem Tks.below {w w' : World} {ao : Option Addr} {n : Nat} {z : Nat → Tk} (h : Tks w ao n z) (hb : Below w.heap.size w w') : Tks w' ao n z := fun j hj => by
  obtain ⟨h0, b, off, h1, h2⟩ := h j hj
  exact ⟨h0, b, off, h1, h2.below hb⟩
def IsTks (w : World) (v : Value) : Prop := ∃ ao len cap z, v = .slice ao len cap ∧ len ≤ 9223372036854775807 ∧ Tks w ao len z
set_option maxRecDepth 100000 in
theorem open_Tks {H : Type} {enc : TypeId × Value → H} {W : World} {base : Nat} {v : Value} {d : DataW H} {p : List MemPlace} (hv : Value.okWide Try.prog W .any base 22 v)
    (h : DataW.Trod enc Try.prog W 0 (fun _ => true) true 22 v d p) : IsTks W v := by
  obtain ⟨ao, len, cap, rfl⟩ := okWide_slice Try.underlying22 hv
  obtain ⟨fuel, hf⟩ := h
  rcases Go.Deep.open_slice Try.underlying22 hf with ⟨hcs, _⟩ | ⟨a, l, c, m, n, D, Pl, hcs, _, hl, hm, hmm, _, hc⟩
  · simp [Value.cells] at hcs
    obtain ⟨rfl, rfl, rfl⟩ := hcs
    exact ⟨_, _, _, fun _ => default, rfl, by decide, fun j hj => by omega⟩
  · simp [Value.cells] at hcs
    obtain ⟨rfl, rfl, rfl⟩ := hcs
    simp only [if_true] at hmm
    subst hmm
    rw [Tkcells] at hc
    obtain ⟨b, off, spot⟩ := a
    have hone : ∀ i, i < m → ∃ z : Tk, TkOk z ∧ W.cell? ((Addr.add ⟨b, off, spot⟩ (i * 2)).add 0) = some (.int .i64 z.kind) ∧ W.cell? ((Addr.add ⟨b, off, spot⟩ (i * 2)).add 1) = some (.int .i64 z.n) := by
      intro i hi
      obtain ⟨cs', h1, h2⟩ := hc i hi
      obtain ⟨_, hlen, hget⟩ := World.cells?_some h1
      obtain ⟨z, hz, rfl⟩ := Tk_of_trod h2 hlen
      exact ⟨z, hz, hget 0 (by decide), hget 1 (by decide)⟩
    by_cases h0 : len = 0
    · subst h0
      exact ⟨_, _, _, fun _ => default, rfl, by decide, fun j hj => by omega⟩
    · have hspot : spot = none := by
        obtain ⟨z, _, h1, _⟩ := hone 0 (by omega)
        simpa [Addr.add] using World.cell?_spot h1
      subst hspot
      obtain ⟨z, hz⟩ := Go.Deep.choose_lt hone
      refine ⟨_, _, _, z, rfl, by unfold maxLen at hm; omega, fun j hj => ?_⟩
      obtain ⟨k0, k1⟩ := hz j (by omega)
      refine ⟨k0, b, off, rfl, ?_⟩
      simp only [Go.WideShapes.add_plain, Nat.add_zero] at k1
      obtain ⟨a0, a1⟩ := k1
      exact ⟨a0, a1⟩
/-- A room: where it begins, and what is behind it. -/
structure R2 where
  f : Nat
  t : Nat
instance : Inhabited R2 := ⟨⟨0, 0⟩⟩
def R2.cells (a : R2) : List Value := [.int .u64 (a.f : Int), .int .u64 (a.t : Int)]
def roomsV (l : List R2) : List Value := l.flatMap R2.cells
theorem roomsV_snoc (l : List R2) (a : R2) : roomsV (l ++ [a]) = roomsV l ++ [.int .u64 (a.f : Int), .int .u64 (a.t : Int)] := by simp [roomsV, R2.cells]
def getR (l : List R2) (j : Nat) : R2 := l.getD j ⟨0, 0⟩
theorem roomsV_get (l : List R2) (j : Nat) (h : j < l.length) :
    (roomsV l)[j * 2]? = some (.int .u64 ((getR l j).f : Int)) ∧ (roomsV l)[j * 2 + 1]? = some (.int .u64 ((getR l j).t : Int)) := by
  induction l generalizing j with
  | nil => simp at h
  | cons a l ih =>
    match j with
    | 0 => simp [roomsV, R2.cells, getR]
    | j + 1 =>
      have := ih j (by simpa using h)
      have e : roomsV (a :: l) = .int .u64 (a.f : Int) :: .int .u64 (a.t : Int) :: roomsV l := rfl
      have g : getR (a :: l) (j + 1) = getR l j := by simp [getR]
      rw [e, g, show (j + 1) * 2 = j * 2 + 1 + 1 by omega]
      simpa using this
theorem getR_snoc (l : List R2) (a : R2) (j : Nat) (h : j < l.length + 1) : getR (l ++ [a]) j = if j < l.length then getR l j else a := by
  unfold getR
  split
  · rename_i h'
    simp [List.getD_eq_getElem?_getD, List.getElem?_append_left h']
  · have e : j = l.length := by omega
    subst e
    simp [List.getD_eq_getElem?_getD]
/-- A row of rooms that is owned. -/
def Own2 (w : World) (v : Value) (l : List R2) : Prop := w.ownsRow 0 47 2 v l.length (roomsV l)
theorem Own2.form {w : World} {v : Value} {l : List R2} (h : Own2 w v l) : ∃ ao cap, v = .slice ao l.length cap ∧ (∀ j, j < l.length → ∃ g, v.ownBlock = some g ∧ ao = some ⟨g, 0, none⟩ ∧ w.cell? ⟨g, j * 2, none⟩ = some (.int .u64 ((getR l j).f : Int)) ∧ w.cell? ⟨g, j * 2 + 1, none⟩ = some (.int .u64 ((getR l j).t : Int))) ∧ l.length ≤ cap ∧ cap ≤ 9223372036854775807 := by
  have h' := h
  rcases h.2 with ⟨h1, h0⟩ | ⟨g, cap, cur, hv, _, hg, hc, hm, _⟩
  · exact ⟨none, 0, by rw [h1, h0], fun j hj => by omega, by omega, by omega⟩
  · refine ⟨_, _, hv, fun j hj => ?_, hc, by unfold maxLen at hm; exact hm⟩
    have hcell := h'.cells (g := g) (by rw [hv]; rfl)
    have hadd : ∀ i, (⟨g, 0, none⟩ : Addr).add i = ⟨g, i, none⟩ := fun i => by unfold Addr.add; split <;> simp_all
    obtain ⟨g1, g2⟩ := roomsV_get l j hj
    have c1 := hcell _ _ g1
    have c2 := hcell _ _ g2
    rw [hadd] at c1 c2
    exact ⟨g, by rw [hv]; rfl, rfl, c1, c2⟩
theorem Own2.keep {w w' : World} {v : Value} {l : List R2} {S : Nat → Prop} (h : Own2 w v l) (hk : Keeps S w w') (hS : ∀ g, v.ownBlock = some g → ¬ S g) : Own2 w' v l := own_keep h hk hS
theorem Own2.below {w w' : World} {v : Value} {l : List R2} (h : Own2 w v l) (hb : Below w.heap.size w w') : Own2 w' v l := own_below h hb
theorem two_words {a b : Int} : ∀ u ∈ [Value.int .u64 a, Value.int .u64 b], u.oneCell' = true := by
  intro u hu; simp at hu; rcases hu with rfl | rfl <;> rfl
theorem cell_pair (w : World) (a b : Value) (t : TypeId) : ∀ j u, [a, b][j]? = some u → (w.alloc (.cells #[a, b] t)).cell? ((⟨w.heap.size, 0, none⟩ : Addr).add j) = some u := by
  intro j u hj
  match j, hj with
  | 0, hj => simp at hj; subst hj; simp [Addr.add]
  | 1, hj => simp at hj; subst hj; simp [Addr.add]
theorem Try.infoRoom : (Try.prog.info? 47).map (fun i => (i.zero, i.size, i.bytes)) = some (some (.agg #[.int .u64 0, .int .u64 0]), 2, 16) := by kernel_rfl
theorem Try.infoTnt : (Try.prog.info? 3).map (fun i => (i.zero, i.size, i.bytes)) = some (some (.int .i64 0), 1, 8) := by kernel_rfl
end Go.Proofs.Ytpkoohpobcfjcaa
