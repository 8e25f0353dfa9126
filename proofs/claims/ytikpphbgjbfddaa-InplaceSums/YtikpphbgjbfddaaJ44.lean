/- Parts of the proof: Sb. -/
import Derived.Test.YtikpphbgjbfddaaJ8
import Derived.Test.YtikpphbgjbfddaaJ43
import Derived.Deep.AppendLies
import Derived.Deep.OwnRows
namespace Go.Proofs.Ytikpphbgjbfddaa
set_option maxRecDepth 20000
open Go.RowKit
theorem Try.infoOw : (Try.prog.info? 56).map (fun i => (i.zero, i.size, i.bytes)) = some (some (.agg #[.int .i64 0, .string ⟨#[]⟩, .int .u64 0]), 3, 32) := by kernel_rfl
theorem Try.infoBool : (Try.prog.info? 4).map (fun i => (i.zero, i.size, i.bytes)) = some (some (.bool false), 1, 1) := by kernel_rfl
def owsV (l : List Ow) : List Value := l.flatMap Ow.cells
theorem owsV_length (l : List Ow) : (owsV l).length = l.length * 3 := by
  induction l with
  | nil => rfl
  | cons a l ih => simp [owsV, Ow.cells] at ih ⊢; omega
theorem owsV_snoc (l : List Ow) (a : Ow) : owsV (l ++ [a]) = owsV l ++ [.int .i64 a.kd, .string a.s, .int .u64 a.n] := by simp [owsV, Ow.cells]
def getO (l : List Ow) (j : Nat) : Ow := l.getD j ⟨0, ⟨#[]⟩, 0⟩
theorem owsV_get (l : List Ow) (j : Nat) (h : j < l.length) :
    (owsV l)[j * 3]? = some (.int .i64 (getO l j).kd) ∧ (owsV l)[j * 3 + 1]? = some (.string (getO l j).s) ∧ (owsV l)[j * 3 + 2]? = some (.int .u64 (getO l j).n) := by
  induction l generalizing j with
  | nil => simp at h
  | cons a l ih =>
    match j with
    | 0 => simp [owsV, Ow.cells, getO]
    | j + 1 =>
      have := ih j (by simpa using h)
      have e : owsV (a :: l) = .int .i64 a.kd :: .string a.s :: .int .u64 a.n :: owsV l := rfl
      have g : getO (a :: l) (j + 1) = getO l j := by simp [getO]
      rw [e, g, show (j + 1) * 3 = j * 3 + 1 + 1 + 1 by omega]
      simpa using this
/-- A row of works of one's own. -/
def OwnO (w : World) (B : Nat) (v : Value) (l : List Ow) : Prop := w.ownsRow B 56 3 v l.length (owsV l)
theorem OwnO.ows {w : World} {B : Nat} {v : Value} {l : List Ow} (h : OwnO w B v l) (hok : ∀ x ∈ l, OwOk x) : ∃ ao cap, v = .slice ao l.length cap ∧ Ows w ao l.length (getO l) := by
  obtain ⟨ao, cap, rfl, h1, h2, h3⟩ := own_slice h
  refine ⟨ao, cap, rfl, fun j hj => ⟨?_, ?_⟩⟩
  · refine hok _ ?_
    unfold getO
    rw [List.getD_eq_getElem?_getD, List.getElem?_eq_getElem hj]
    exact List.getElem_mem hj
  · obtain ⟨q0, q1, q2⟩ := owsV_get l j hj
    obtain ⟨g, e, _, c0, _⟩ := h3 _ _ q0
    obtain ⟨g', e', _, c1, _⟩ := h3 _ _ q1
    obtain ⟨g'', e'', _, c2, _⟩ := h3 _ _ q2
    subst e
    cases e'
    cases e''
    exact ⟨g, 0, rfl, by rw [Nat.zero_add]; exact c0, by rw [Nat.zero_add]; exact c1, by rw [Nat.zero_add]; exact c2⟩
theorem OwnO.below {w w' : World} {B : Nat} {v : Value} {l : List Ow} (h : OwnO w B v l) (hb : Below w.heap.size w w') : OwnO w' B v l := own_below h hb
theorem own_nilO (w : World) : OwnO (w.alloc (.cells #[] 56)) w.heap.size (.slice (some ⟨w.heap.size, 0, none⟩) 0 0) [] := World.ownsRow_made (base := w.heap.size) (e := 56) (size := 3) w #[] 0 (Nat.le_refl _) (by decide) (by simp)
theorem own_madeB (w : World) (K : Nat) : (∀ j, j < K → (w.alloc (.cells (madeCells #[.bool false] K) 4)).cell? ⟨w.heap.size, j, none⟩ = some (.bool false)) ∧ (∀ j, (w.alloc (.cells (madeCells #[.bool false] K) 4)).frozen? ⟨w.heap.size, j, none⟩ = false) := by
  refine ⟨fun j hj => ?_, fun j => by simp⟩
  have h : (madeCells #[Value.bool false] K)[j]? = some (.bool false) := by
    rw [← Array.getElem?_toList, toList_madeCells_one, List.getElem?_replicate, if_pos hj]
  simp [h]
theorem three_ow {a c : Int} {b : ByteArray} : ∀ u ∈ [Value.int .i64 a, Value.string b, Value.int .u64 c], u.oneCell' = true := by
  intro u hu; simp at hu; rcases hu with rfl | rfl | rfl <;> rfl
theorem cell_threeO (w : World) (a b c : Value) (t : TypeId) : ∀ j u, [a, b, c][j]? = some u → (w.alloc (.cells #[a, b, c] t)).cell? ((⟨w.heap.size, 0, none⟩ : Addr).add j) = some u := by
  intro j u hj
  match j, hj with
  | 0, hj => simp at hj; subst hj; simp [Addr.add]
  | 1, hj => simp at hj; subst hj; simp [Addr.add]
  | 2, hj => simp at hj; subst hj; simp [Addr.add]
/-- What a round of appending does to the rest. -/
theorem grow_stepO {W w w1 : World} {o : Obj} {B : Nat} {v : Value} {l : List Ow} (hown : OwnO w B v l) (hB : B ≤ w.heap.size)
    (hb : Below B W w) (hg : (w.alloc o).grownBy w1 v.ownBlock) : Below B W w1 :=
  ((hb.alloc hB o).grown hg (by simp; omega) (fun k hk => (hown.lt k hk).1))
/-- The works: additions of so many of a row, then readers. -/
def wlO (z : Nat → Int) (i r : Nat) : List Ow := (List.range i).map (fun j => ⟨2, ⟨#[]⟩, z j⟩) ++ List.replicate r ⟨3, ⟨#[]⟩, 0⟩
theorem wlO_length (z : Nat → Int) (i r : Nat) : (wlO z i r).length = i + r := by simp [wlO]
theorem wlO_add (z : Nat → Int) (i : Nat) : wlO z (i + 1) 0 = wlO z i 0 ++ [⟨2, ⟨#[]⟩, z i⟩] := by simp [wlO, List.range_succ]
theorem wlO_read (z : Nat → Int) (i r : Nat) : wlO z i (r + 1) = wlO z i r ++ [⟨3, ⟨#[]⟩, 0⟩] := by simp [wlO, List.replicate_succ']
theorem wlO_mem {z : Nat → Int} {i r : Nat} {x : Ow} (h : x ∈ wlO z i r) : (∃ j, j < i ∧ x = ⟨2, ⟨#[]⟩, z j⟩) ∨ x = ⟨3, ⟨#[]⟩, 0⟩ := by
  rcases List.mem_append.1 h with e | e
  · obtain ⟨j, hj, rfl⟩ := List.mem_map.1 e
    exact .inl ⟨j, List.mem_range.1 hj, rfl⟩
  · exact .inr (List.mem_replicate.1 e).2
theorem wlO_ok {z : Nat → Int} {i r : Nat} (hz : ∀ j, j < i → 0 ≤ z j ∧ z j ≤ 18446744073709551615) : ∀ x ∈ wlO z i r, OwOk x := fun x hx => by
  rcases wlO_mem hx with ⟨j, hj, rfl⟩ | rfl
  · exact ⟨show (-9223372036854775808 : Int) ≤ 2 ∧ (2 : Int) ≤ 9223372036854775807 by decide, Nat.zero_le _, hz j hj⟩
  · exact ⟨by decide, by decide, by decide⟩
theorem wlO_kd {z : Nat → Int} {i r : Nat} : ∀ j, j < i + r → (getO (wlO z i r) j).kd ≠ 1 := fun j hj => by
  have hl : j < (wlO z i r).length := by rw [wlO_length]; exact hj
  have hm : getO (wlO z i r) j ∈ wlO z i r := by
    unfold getO
    rw [List.getD_eq_getElem?_getD, List.getElem?_eq_getElem hl]
    exact List.getElem_mem hl
  rcases wlO_mem hm with ⟨_, _, e⟩ | e
  · rw [e]; show (2 : Int) ≠ 1; decide
  · rw [e]; decide
end Go.Proofs.Ytikpphbgjbfddaa
