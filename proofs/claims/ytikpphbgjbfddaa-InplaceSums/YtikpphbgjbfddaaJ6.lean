/- Parts of the proof: Wy. -/
import Derived.Test.YtikpphbgjbfddaaJ1
import Derived.Laws.AppendOwnNone
namespace Go.Proofs.Ytikpphbgjbfddaa
set_option maxRecDepth 20000
open Go.RowKit
/-- A slice of words as the source of an append: nil, or cells that are read. -/
def SrcU (w : World) (x : Value) (zs : List Nat) : Prop :=
  x = .slice none 0 0 ∧ zs = [] ∨ ∃ (ad : Addr) (c : Nat), x = .slice (some ad) zs.length c ∧ ∀ j, j < zs.length → w.cell? (ad.add j) = some (.int .u64 (zs[j]?.getD 0 : Nat))
theorem SrcU.below {w w' : World} {x : Value} {zs : List Nat} (h : SrcU w x zs) (hb : Below w.heap.size w w') : SrcU w' x zs := by
  rcases h with h | ⟨ad, c, h1, h2⟩
  · exact .inl h
  · exact .inr ⟨ad, c, h1, fun j hj => (hb.cell (World.block_lt_of_cell? w _ (h2 j hj))).trans (h2 j hj)⟩
theorem own_srcU {w : World} {base n : Nat} {e : TypeId} {v : Value} {zs : List Nat} (h : w.ownsRow base e 1 v n (uintsN zs)) (hl : zs.length = n) : SrcU w v zs := by
  rcases h.2 with ⟨h1, h2⟩ | ⟨g, cap, cur, h1, _⟩
  · exact .inl ⟨h1, List.eq_nil_of_length_eq_zero (by omega)⟩
  · subst h1
    exact .inr ⟨⟨g, 0, none⟩, cap, by rw [hl], fun j hj => by rw [Go.WideShapes.add_plain, Nat.zero_add]; exact own_cellsU h hl j (by omega)⟩
theorem uints_one {zs : List Nat} : ∀ u ∈ uintsN zs, u.oneCell' = true := by
  intro u hu
  simp only [uintsN, List.mem_map] at hu
  obtain ⟨a, _, rfl⟩ := hu
  rfl
theorem uintsN_append (a b : List Nat) : uintsN (a ++ b) = uintsN a ++ uintsN b := by simp [uintsN]
/-- Words appended to a row of the call's own. -/
theorem append_src {w : World} {ops : Array Oper} {rest : List Oper} {o : Oper} {a : Act} {Q : Exit → Act → World → Prop} (hgd : o.guard = none) (s x : Operand)
    (ho : o.op = .call { callee := .builtin .append, args := #[s, x], argTypes := #[41, 41] })
    (base : Nat) (v : Value) (ys : List Nat) (hs : a.eval s = v) (hown : w.ownsRow base 43 1 v ys.length (uintsN ys))
    (u : Value) (zs : List Nat) (hx : a.eval x = u) (hsrc : SrcU w u zs) (h63 : ys.length + zs.length ≤ 1000000) (hbase : base ≤ w.heap.size)
    (h : ∀ v' w' l, Hid (l = ys ++ zs) → w'.ownsRow base 43 1 v' l.length (uintsN l) → w.grownBy w' v.ownBlock → wpList Try.prog ops Q rest (a.put o.dst v') w') : wpList Try.prog ops Q (o :: rest) a w := by
  obtain ⟨i0, hi, hz0, hz1, hz2⟩ := info_parts Try.infoU64
  rcases hsrc with ⟨h1, rfl⟩ | ⟨ad, c, h1, hc⟩
  · refine wpList_append_own_none hgd s x 41 ho base 43 i0 1 Try.underlying41 hi v _ _ hs hown (by rw [hx, h1]) (h v w ys (by simp [Hid]) hown ⟨rfl, rfl, rfl, Nat.le_refl _, fun _ _ _ => rfl⟩)
  · refine wpList_append_own _ hgd s x 41 ho base 43 i0 (.int .u64 0) 1 8 Try.underlying41 hi hz0 hz1 hz2 rfl (by decide) v _ _ hs hown ad zs.length c (uintsN zs) (by rw [hx, h1]) (by rw [uintsN_length, Nat.mul_one]) ?_ uints_one (by unfold maxLen; omega) (by omega) hbase ?_
    · intro j y hj
      have hjl : j < zs.length := by
        have := (List.getElem?_eq_some_iff.1 hj).1
        rwa [uintsN_length] at this
      rw [uintsN_get _ _ hjl] at hj
      cases hj
      exact hc j hjl
    · intro v' w' h2 h3 _
      exact h v' w' _ rfl (by rw [List.length_append, uintsN_append]; exact h2) h3
theorem own_base {w : World} {base base' : Nat} {e : TypeId} {size : Nat} {v : Value} {n : Nat} {xs : List Value} (h : w.ownsRow base e size v n xs) (hb : base' ≤ base) : w.ownsRow base' e size v n xs := by
  obtain ⟨h1, h2⟩ := h
  refine ⟨h1, ?_⟩
  rcases h2 with h2 | ⟨g, cap, cur, hv, hg, r⟩
  · exact .inl h2
  · exact .inr ⟨g, cap, cur, hv, Nat.le_trans hb hg, r⟩
/-- What one round of appending does to the rest, the source's block made before. -/
theorem grow_src {W w w1 : World} {B : Nat} {e : TypeId} {v : Value} {n : Nat} {xs : List Value} (hown : w.ownsRow B e 1 v n xs) (hB : W.heap.size ≤ B) (hw : B ≤ w.heap.size)
    (hb : Below W.heap.size W w) (hg : w.grownBy w1 v.ownBlock) : Below W.heap.size W w1 :=
  hb.grown hg (by omega) (fun k hk => Nat.le_trans hB (hown.lt k hk).1)
end Go.Proofs.Ytikpphbgjbfddaa
