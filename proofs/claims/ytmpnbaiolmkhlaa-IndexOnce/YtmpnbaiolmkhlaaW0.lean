/- What every walk uses: spelling of endings, hidden equations. -/
import Derived.Test.YtmpnbaiolmkhlaaRows
import Derived.WalkKit
import Derived.WalkSpells
import Derived.WalkLawsBesides
import Derived.Deep.QuietTactic
import Derived.BigQuiet
import Derived.WalkSmall
import Derived.OpenShut
import Derived.ChangeOld
import Derived.Below
namespace Go.Proofs.Ytmpnbaiolmkhlaa
set_option maxRecDepth 20000
open Go.RowKit
theorem nat_of_wf {a : Int} (h : (Lit.int .u64 a).wf = true) : ∃ n : Nat, a = (n : Int) ∧ n < 18446744073709551616 := by
  have := bounds_u64 h
  exact ⟨a.toNat, by omega, by omega⟩
theorem below_drewN' {w w' : World} (h : ∃ k, w' = w.drewN k) : Below w.heap.size w w' := by
  obtain ⟨k, rfl⟩ := h
  exact below_drewN (Below.refl _ _) k
theorem drewN_drewN (w : World) (a b : Nat) : (w.drewN a).drewN b = w.drewN (a + b) := by simp
theorem ret_int {k : IntKind} {a b : Int} (h : a = b) : Ending.returned (.int k a) = .returned (.int k b) := by rw [h]
theorem hide {p : Prop} (h : p) : Hid p := h
theorem ret_two {k l : IntKind} {a b c d : Int} (h : a = b) (h' : c = d) : Ending.returned (.tuple #[.int k a, .int l c]) = .returned (.tuple #[.int k b, .int l d]) := by rw [h, h']
theorem ret_bool {a b : Bool} (h : a = b) : Ending.returned (.bool a) = .returned (.bool b) := by rw [h]
theorem take_snoc (s : ByteArray) (k : Nat) (h : k < s.size) : s.data.toList.take (k + 1) = s.data.toList.take k ++ [s[k]] := by
  rw [List.take_succ_eq_append_getElem (by simpa using h)]; rfl
/-- A slice that is read: its first n numbers are z 0, z 1, .. -/
def Sl (k : IntKind) (w : World) (ao : Option Addr) (n : Nat) (z : Nat → Int) : Prop :=
  ∀ j, j < n → ∃ b off, ao = some ⟨b, off, none⟩ ∧ w.cell? ⟨b, off + j, none⟩ = some (.int k (z j))
theorem Sl.below {k : IntKind} {w w' : World} {ao : Option Addr} {n : Nat} {z : Nat → Int} (h : Sl k w ao n z) (hb : Below w.heap.size w w') : Sl k w' ao n z := by
  intro j hj
  obtain ⟨b, off, h1, h2⟩ := h j hj
  exact ⟨b, off, h1, by rw [hb.cell (p := ⟨b, off + j, none⟩) (World.block_lt_of_cell? w _ h2)]; exact h2⟩
theorem Sl.drew {k : IntKind} {w : World} {ao : Option Addr} {n : Nat} {z : Nat → Int} (h : Sl k w ao n z) (m : Nat) : Sl k (w.drewN m) ao n z := h
theorem Sl.mono {k : IntKind} {w : World} {ao : Option Addr} {n m : Nat} {z : Nat → Int} (h : Sl k w ao n z) (hm : m ≤ n) : Sl k w ao m z := fun j hj => h j (by omega)
theorem own_form {w : World} {base : Nat} {e : TypeId} {v : Value} {n : Nat} {xs : List Value} (h : w.ownsRow base e 1 v n xs) (hn : 0 < n) :
    ∃ g cap, v = .slice (some ⟨g, 0, none⟩) n cap ∧ base ≤ g ∧ g < w.heap.size := by
  rcases h.2 with ⟨_, h0⟩ | ⟨g, cap, cur, hv, hb, hg, _⟩
  · omega
  · exact ⟨g, cap, hv, hb, (Array.getElem?_eq_some_iff.1 hg).1⟩
theorem cell_one (w : World) (a : Value) (t : TypeId) : ∀ j u, [a][j]? = some u → (w.alloc (.cells #[a] t)).cell? ((⟨w.heap.size, 0, none⟩ : Addr).add j) = some u := by
  intro j u hj
  match j, hj with
  | 0, hj => simp at hj; subst hj; simp [Addr.add]
theorem one_int {k : IntKind} {z : Int} : ∀ u ∈ [Value.int k z], u.oneCell' = true := by
  intro u hu; simp at hu; subst hu; rfl
/-- What one round of appending does to the rest. -/
theorem grow_step {W w w1 : World} {o : Obj} {B : Nat} {e : TypeId} {v : Value} {n : Nat} {xs : List Value} (hown : w.ownsRow B e 1 v n xs) (hB : B ≤ w.heap.size)
    (hb : Below B W w) (hg : (w.alloc o).grownBy w1 v.ownBlock) : Below B W w1 :=
  ((hb.alloc hB o).grown hg (by simp; omega) (fun k hk => (hown.lt k hk).1))
/-- What is owned stays owned in every later world that keeps what lay there. -/
theorem own_below {w w' : World} {base : Nat} {e : TypeId} {size : Nat} {v : Value} {n : Nat} {xs : List Value} (h : w.ownsRow base e size v n xs) (hb : Below w.heap.size w w') : w'.ownsRow base e size v n xs := by
  obtain ⟨h1, h2⟩ := h
  refine ⟨h1, ?_⟩
  rcases h2 with h2 | ⟨g, cap, cur, hv, hg, hh, r⟩
  · exact .inl h2
  · exact .inr ⟨g, cap, cur, hv, hg, by rw [hb.block g (Array.getElem?_eq_some_iff.1 hh).1]; exact hh, r⟩

theorem Try.infoInt : (Try.prog.info? 3).map (fun i => (i.zero, i.size, i.bytes)) = some (some (.int .i64 0), 1, 8) := by kernel_rfl
def intsN (l : List Nat) : List Value := l.map fun (b : Nat) => Value.int .i64 (b : Int)
theorem intsN_length (l : List Nat) : (intsN l).length = l.length := by simp [intsN]
theorem intsN_snoc (l : List Nat) (b : Nat) : intsN (l ++ [b]) = intsN l ++ [Value.int .i64 (b : Int)] := by simp [intsN]
theorem intsN_get (l : List Nat) (j : Nat) (h : j < l.length) : (intsN l)[j]? = some (.int .i64 (l[j]?.getD 0 : Nat)) := by simp [intsN, h]
theorem own_cap {w : World} {base g cap n : Nat} {e : TypeId} {xs : List Value} (h : w.ownsRow base e 1 (.slice (some ⟨g, 0, none⟩) n cap) n xs) : n ≤ cap ∧ base ≤ g ∧ g < w.heap.size ∧ cap ≤ 9223372036854775807 := by
  rcases h.2 with ⟨h', _⟩ | ⟨g', cap', cur, h', hb, hg, hnc, hm, _⟩
  · simp at h'
  · simp only [Value.slice.injEq, Option.some.injEq, Addr.mk.injEq, and_true, true_and] at h'
    obtain ⟨rfl, rfl⟩ := h'
    exact ⟨hnc, hb, (Array.getElem?_eq_some_iff.1 hg).1, by unfold maxLen at hm; exact hm⟩
theorem own_cellsN {w : World} {base g cap n : Nat} {e : TypeId} {zs : List Nat} (h : w.ownsRow base e 1 (.slice (some ⟨g, 0, none⟩) n cap) n (intsN zs)) (hl : zs.length = n) (j : Nat) (hj : j < n) :
    w.cell? ⟨g, j, none⟩ = some (.int .i64 (zs[j]?.getD 0 : Nat)) := by
  rw [h.cellAt j (by omega), intsN_get _ _ (by omega)]
/-- Of the blocks that were there, those below B and from C on are as they were. -/
structure Apart (B C : Nat) (w w' : World) : Prop where
  os : w'.os = w.os
  tape : w'.tape = w.tape
  output : w'.output = w.output
  size : w.heap.size ≤ w'.heap.size
  block : ∀ k, k < w.heap.size → (k < B ∨ C ≤ k) → w'.heap[k]? = w.heap[k]?
theorem Apart.refl (B C : Nat) (w : World) : Apart B C w w := ⟨rfl, rfl, rfl, Nat.le_refl _, fun _ _ _ => rfl⟩
theorem Apart.trans {B C : Nat} {a b c : World} (h : Apart B C a b) (k : Apart B C b c) : Apart B C a c :=
  ⟨k.os.trans h.os, k.tape.trans h.tape, k.output.trans h.output, Nat.le_trans h.size k.size, fun i hi ho => (k.block i (Nat.lt_of_lt_of_le hi h.size) ho).trans (h.block i hi ho)⟩
theorem Below.apart {B C : Nat} {w w' : World} (h : Below w.heap.size w w') : Apart B C w w' := ⟨h.os, h.tape, h.output, h.size, fun k hk _ => h.block k hk⟩
theorem Apart.below {B C : Nat} {w w' : World} (h : Apart B C w w') (hB : B ≤ w.heap.size) : Below B w w' := ⟨h.os, h.tape, h.output, h.size, fun k hk => h.block k (Nat.lt_of_lt_of_le hk hB) (.inl hk)⟩
theorem Apart.drewN {B C : Nat} {w w' : World} (h : Apart B C w w') (k : Nat) : Apart B C w (w'.drewN k) := h.trans (Below.apart (below_drewN (Below.refl _ _) k))
theorem Apart.setCell {B C : Nat} {w w' : World} (h : Apart B C w w') (p : Addr) (hp : B ≤ p.block ∧ p.block < C) (u : Value) : Apart B C w (w'.setCell p u) :=
  h.trans ⟨rfl, rfl, rfl, by simp [World.setCell], fun k _ ho => Below.heap_setCell _ _ _ _ (by omega)⟩
theorem Apart.cell {B C : Nat} {w w' : World} (h : Apart B C w w') {p : Addr} (hl : p.block < w.heap.size) (hp : p.block < B ∨ C ≤ p.block) : w'.cell? p = w.cell? p := World.cell?_of_block (w := w) (h.block p.block hl hp)
theorem Apart.frozen {B C : Nat} {w w' : World} (h : Apart B C w w') {p : Addr} (hl : p.block < w.heap.size) (hp : p.block < B ∨ C ≤ p.block) : w'.frozen? p = w.frozen? p := World.frozen?_of_block (w := w) (h.block p.block hl hp)
theorem Sl.apart {k : IntKind} {w w' : World} {ao : Option Addr} {n : Nat} {z : Nat → Int} {B C : Nat} (h : Sl k w ao n z) (hb : Apart B C w w') (hz : 0 < n → ∃ g off, ao = some ⟨g, off, none⟩ ∧ (g < B ∨ C ≤ g)) : Sl k w' ao n z := by
  intro j hj
  obtain ⟨b, off, h1, h2⟩ := h j hj
  obtain ⟨g, off', h3, h4⟩ := hz (by omega)
  rw [h3] at h1
  cases h1
  exact ⟨b, off, h3, by rw [hb.cell (p := ⟨b, off + j, none⟩) (World.block_lt_of_cell? w _ h2) h4]; exact h2⟩
theorem cell_alloc {w : World} {p : Addr} {u : Value} (h : w.cell? p = some u) (o : Obj) : (w.alloc o).cell? p = some u := by
  rw [((Below.refl w.heap.size w).alloc (Nat.le_refl _) o).cell (World.block_lt_of_cell? w _ h)]; exact h
theorem frozen_alloc {w : World} {p : Addr} {b : Bool} (h : w.frozen? p = b) (hp : p.block < w.heap.size) (o : Obj) : (w.alloc o).frozen? p = b := by
  rw [((Below.refl w.heap.size w).alloc (Nat.le_refl _) o).frozen hp]; exact h
theorem cell_arg {w x : World} {a b c : Value} {T : TypeId} (hb : Below (w.alloc (.cells #[a, b, c] T)).heap.size (w.alloc (.cells #[a, b, c] T)) x) :
    x.cell? ⟨w.heap.size, 0, none⟩ = some a ∧ x.cell? ⟨w.heap.size, 1, none⟩ = some b ∧ x.cell? ⟨w.heap.size, 2, none⟩ = some c := by
  refine ⟨?_, ?_, ?_⟩ <;> rw [hb.cell (by simp)] <;> simp
theorem list3 {α : Type} {l : List α} (h : l.length = 3) : ∃ a b c, l = [a, b, c] := by
  obtain _ | ⟨a, l⟩ := l; · simp at h
  obtain _ | ⟨b, l⟩ := l; · simp at h
  obtain _ | ⟨c, l⟩ := l; · simp at h
  obtain _ | ⟨g, l⟩ := l
  · exact ⟨a, b, c, rfl⟩
  · simp at h
theorem str_none {s : ByteArray} (h : s.size = 0) : s.toList.isEmpty = true := by
  have h1 : s.data.toList.length = 0 := by simpa using h
  rw [ByteArray.toList_eq, List.eq_nil_of_length_eq_zero h1]; rfl
theorem str_some {s : ByteArray} (h : s.size ≠ 0) : s.toList.isEmpty = false := by
  have h1 : s.data.toList.length ≠ 0 := by simpa using h
  rw [ByteArray.toList_eq]
  cases e : s.data.toList with
  | nil => rw [e] at h1; exact absurd rfl h1
  | cons _ _ => rfl
end Go.Proofs.Ytmpnbaiolmkhlaa
