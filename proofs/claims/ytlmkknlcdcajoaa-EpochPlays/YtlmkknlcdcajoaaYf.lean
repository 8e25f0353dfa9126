/- The reference's table of layer 6: New, Does, Safe. -/
import Derived.Test.YtlmkknlcdcajoaaMh
namespace Go.Proofs.Ytlmkknlcdcajoaa
open Go.RowKit
theorem Try.infoU64 : (Try.prog.info? 33).map (fun i => (i.zero, i.size, i.bytes)) = some (some (.int .u64 0), 1, 8) := by kernel_rfl
/-- The reference's table: its struct in block m, what each saw in block b. -/
structure RefAt (w : World) (m b n now : Nat) (v : Nat → Nat) : Prop where
  ne : b ≠ m
  c0 : w.cell? ⟨m, 0, none⟩ = some (.int .u64 (now : Int))
  f0 : w.frozen? ⟨m, 0, none⟩ = false
  c1 : w.cell? ⟨m, 1, none⟩ = some (.slice (some ⟨b, 0, none⟩) n n)
  cs : ∀ i, i < n → w.cell? ⟨b, i, none⟩ = some (.int .u64 (v i : Int))
  fs : ∀ i, i < n → w.frozen? ⟨b, i, none⟩ = false
theorem RefAt.drew {w : World} {m b n now : Nat} {v : Nat → Nat} (h : RefAt w m b n now v) (k : Nat) : RefAt (w.drewN k) m b n now v := ⟨h.ne, h.c0, h.f0, h.c1, h.cs, h.fs⟩
theorem RefAt.below {w w' : World} {m b n now : Nat} {v : Nat → Nat} (h : RefAt w m b n now v) (hb : Below w.heap.size w w') : RefAt w' m b n now v := by
  have hm : m < w.heap.size := World.block_lt_of_cell? w _ h.c0
  exact ⟨h.ne, by rw [hb.cell hm]; exact h.c0, by rw [hb.frozen hm]; exact h.f0, by rw [hb.cell hm]; exact h.c1,
    fun i hi => by rw [hb.cell (World.block_lt_of_cell? w _ (h.cs i hi))]; exact h.cs i hi, fun i hi => by rw [hb.frozen (World.block_lt_of_cell? w _ (h.cs i hi))]; exact h.fs i hi⟩
theorem RefAt.apart {w w' : World} {m b n now : Nat} {v : Nat → Nat} {B C : Nat} (h : RefAt w m b n now v) (hb : Apart B C w w') (h1 : C ≤ m) (h2 : C ≤ b) : RefAt w' m b n now v := by
  have hm : m < w.heap.size := World.block_lt_of_cell? w _ h.c0
  exact ⟨h.ne, by rw [hb.cell hm (.inr h1)]; exact h.c0, by rw [hb.frozen hm (.inr h1)]; exact h.f0, by rw [hb.cell hm (.inr h1)]; exact h.c1,
    fun i hi => by rw [hb.cell (World.block_lt_of_cell? w _ (h.cs i hi)) (.inr h2)]; exact h.cs i hi, fun i hi => by rw [hb.frozen (World.block_lt_of_cell? w _ (h.cs i hi)) (.inr h2)]; exact h.fs i hi⟩
theorem RefAt.now {w : World} {m b n now : Nat} {v : Nat → Nat} (h : RefAt w m b n now v) (y : Nat) : RefAt (w.setCell ⟨m, 0, none⟩ (.int .u64 (y : Int))) m b n y v := by
  refine ⟨h.ne, World.cell?_setCell_same _ _ _ h.c0, by rw [World.frozen?_setCell]; exact h.f0, ?_, fun i hi => ?_, fun i hi => by rw [World.frozen?_setCell]; exact h.fs i hi⟩
  · rw [cell_set_off _ _ _ _ (by decide)]; exact h.c1
  · rw [cell_set_block _ _ _ (fun e => h.ne e.symm)]; exact h.cs i hi
theorem RefAt.word {w : World} {m b n now : Nat} {v : Nat → Nat} (h : RefAt w m b n now v) (s : Nat) (hs : s < n) (y : Nat) : RefAt (w.setCell ⟨b, s, none⟩ (.int .u64 (y : Int))) m b n now (updN v s y) := by
  refine ⟨h.ne, ?_, by rw [World.frozen?_setCell]; exact h.f0, ?_, fun i hi => ?_, fun i hi => by rw [World.frozen?_setCell]; exact h.fs i hi⟩
  · rw [cell_set_block _ _ _ h.ne]; exact h.c0
  · rw [cell_set_block _ _ _ h.ne]; exact h.c1
  · by_cases e : i = s
    · subst e
      rw [World.cell?_setCell_same _ _ _ (h.cs i hi), updN_same]
    · rw [cell_set_off _ _ _ _ (fun c => e c.symm), h.cs i hi, updN_other _ _ _ _ e]
theorem updN_twice (v : Nat → Nat) (s x y : Nat) : updN (updN v s x) s y = updN v s y := by
  funext j; unfold updN; split <;> rfl
set_option maxHeartbeats 400000 in
theorem rnew_no (s : Int) (hs : s < 1 ∨ 8 < s) (w : World) :
    Calls Try.prog 9 #[.int .i64 s] w fun e w' => e = .returned (.tuple #[.pointer none, .int .i64 1]) ∧ w' = w := by
  by_cases h : s < 1
  · go_enter Try.func9, Try.ntmps9
    go_wp2
    go_ret2
    exact ⟨rfl, rfl⟩
  · have h2 : 8 < s := by omega
    clear hs
    go_enter Try.func9, Try.ntmps9
    go_wp2
    go_ret2
    exact ⟨rfl, rfl⟩
set_option maxHeartbeats 400000 in
theorem rnew_yes (n : Nat) (h1 : 1 ≤ n) (h2 : n ≤ 8) (w : World) :
    Calls Try.prog 9 #[.int .i64 (n : Int)] w fun e w' => ∃ m b, e = .returned (.tuple #[.pointer (some ⟨m, 0, none⟩), .int .i64 0]) ∧ RefAt w' m b n 1 (fun _ => 0) ∧ w.heap.size ≤ m ∧ w.heap.size ≤ b ∧ Below w.heap.size w w' := by
  obtain ⟨i0, hi, hz0, hz1, hz2⟩ := info_parts Try.infoU64
  go_enter Try.func9, Try.ntmps9
  go_wp2_with (at_make; refine wpList_make_full _ rfl _ _ 36 rfl w.heap.size 33 i0 (.int .u64 0) 1 Try.underlying36 hi hz0 hz1 _ _ _ _ n rfl rfl rfl rfl ?b1 ?b2 (Nat.le_refl _) ?_)
  case b1 => rw [hz2]; omega
  case b2 => unfold maxLen; omega
  intro w1 hown hgrow
  have hown1 : w1.ownsRow w.heap.size 33 1 (.slice (some ⟨w.heap.size, 0, none⟩) n n) n (List.replicate n (.int .u64 0)) := by
    simpa [Value.cells, toList_madeCells_one] using hown
  have hb1 : Below w.heap.size w w1 := (Below.refl _ _).grown hgrow (Nat.le_refl _) (by simp)
  generalize hgg : w.heap.size = g at *
  have HG : Hid (w.heap.size = g) := hgg
  clear hown hgrow hgg
  go_wp2
  go_ret2
  have hcs : ∀ i, i < n → w1.cell? ⟨g, i, none⟩ = some (.int .u64 0) := fun i hi => by
    rw [hown1.cellAt i (by omega)]; simp [hi]
  have hlt : g < w1.heap.size := World.block_lt_of_cell? w1 _ (hcs 0 (by omega))
  have hblk : ∀ k, k < w1.heap.size → (w1.alloc (Obj.cells #[.int .u64 1, .slice (some ⟨g, 0, none⟩) n n] 38)).heap[k]? = w1.heap[k]? := fun k hk => Below.heap_alloc _ _ _ hk
  refine ⟨w1.heap.size, g, rfl, ⟨by omega, ?_, ?_, ?_, ?_, ?_⟩, by rw [HG.out]; omega, by rw [HG.out]; exact Nat.le_refl _, by rw [HG.out]; exact hb1.alloc (by omega) _⟩
  · simp
  · simp
  · simp
  · intro i hi
    rw [World.cell?_of_block (w := w1) (hblk g hlt)]; exact hcs i hi
  · intro i hi
    rw [World.frozen?_of_block (w := w1) (hblk g hlt)]; exact hown1.frozenAt i
end Go.Proofs.Ytlmkknlcdcajoaa
