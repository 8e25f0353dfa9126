/- The reference's index: New. -/
import Derived.Test.YtmpnbaiolmkhlaaIf
namespace Go.Proofs.Ytmpnbaiolmkhlaa
set_option maxRecDepth 20000
open Go.RowKit
theorem Try.infoBucket : (Try.prog.info? 84).map (fun i => (i.zero, i.size, i.bytes)) = some (some (.agg #[.int .u64 0, .int .u64 0, .int .u64 0, .int .u64 0, .int .u64 0, .int .u64 0, .int .u64 0, .int .u64 0]), 8, 64) := by kernel_rfl
theorem made_eight (u : Value) (m j : Nat) (hj : j < m) : (madeCells #[u, u, u, u, u, u, u, u] m).toList[j]? = some u := by
  have h2 : j % 8 < 8 := Nat.mod_lt _ (by decide)
  simp only [madeCells, Array.toList_map, List.getElem?_map, Array.getElem?_toList]
  rw [Array.getElem?_eq_getElem (by simpa using hj)]
  simp
  rcases (show j % 8 = 0 ∨ j % 8 = 1 ∨ j % 8 = 2 ∨ j % 8 = 3 ∨ j % 8 = 4 ∨ j % 8 = 5 ∨ j % 8 = 6 ∨ j % 8 = 7 by omega) with e | e | e | e | e | e | e | e <;> simp [e]
/-- Words of buckets in block r. -/
structure RyIs (w : World) (r n : Nat) (g : Nat → Nat) : Prop where
  cs : ∀ b, b < n → ∀ k, k < 8 → w.cell? ⟨r, b * 8 + k, none⟩ = some (.int .u64 (g (8 * b + k) : Int))
  fs : ∀ b, b < n → ∀ k, k < 8 → w.frozen? ⟨r, b * 8 + k, none⟩ = false
theorem RyIs.lt {w : World} {r n : Nat} {g : Nat → Nat} (h : RyIs w r n g) (hn : 0 < n) : r < w.heap.size := World.block_lt_of_cell? w _ (h.cs 0 hn 0 (by omega))
theorem RyIs.below {w w' : World} {r n : Nat} {g : Nat → Nat} (h : RyIs w r n g) (hb : Below w.heap.size w w') : RyIs w' r n g :=
  ⟨fun b hb' k hk => by rw [hb.cell (World.block_lt_of_cell? w _ (h.cs b hb' k hk))]; exact h.cs b hb' k hk, fun b hb' k hk => by rw [hb.frozen (World.block_lt_of_cell? w _ (h.cs b hb' k hk))]; exact h.fs b hb' k hk⟩
theorem RyIs.word {w : World} {r n : Nat} {g : Nat → Nat} (h : RyIs w r n g) {b k : Nat} (_ : b < n) (hk : k < 8) (x : Nat) : RyIs (w.setCell ⟨r, b * 8 + k, none⟩ (.int .u64 (x : Int))) r n (ixUpd g (8 * b + k) x) := by
  refine ⟨fun b' hb' k' hk' => ?_, fun b' hb' k' hk' => by rw [World.frozen?_setCell]; exact h.fs b' hb' k' hk'⟩
  by_cases e : 8 * b' + k' = 8 * b + k
  · obtain ⟨rfl, rfl⟩ : b' = b ∧ k' = k := by omega
    rw [ixUpd_same, World.cell?_setCell_same _ _ _ (h.cs b' hb' k' hk')]
  · rw [ixUpd_ne e, ix_set_off _ _ _ _ (by omega)]; exact h.cs b' hb' k' hk'
theorem ry_made {w1 : World} {n : Nat} {base : Nat} {g : Nat} (hown : w1.ownsRow base 84 8 (.slice (some ⟨g, 0, none⟩) n n) n (madeCells #[.int .u64 0, .int .u64 0, .int .u64 0, .int .u64 0, .int .u64 0, .int .u64 0, .int .u64 0, .int .u64 0] (n * 8)).toList) : RyIs w1 g n (fun _ => 0) := by
  refine ⟨fun b hb k hk => ?_, fun b hb k hk => ?_⟩
  · rw [hown.cellAt (b * 8 + k) (by omega), made_eight _ _ _ (by omega)]; rfl
  · exact hown.frozenAt (b * 8 + k)
set_option maxRecDepth 10000 in
set_option maxHeartbeats 1000000 in
theorem rx_new_yes (B S : Nat) (hB : powB (B : Int) = true) (hS : S ≤ 64) (w : World) :
    Calls Try.prog 7 #[.int .i64 (B : Int), .int .i64 (S : Int)] w fun e w' => ∃ m r, e = .returned (.tuple #[.pointer (some ⟨m, 0, none⟩), .int .i64 0]) ∧ RxIs w' m r B S (fun _ => 0) 0 0 0 ∧ w.heap.size ≤ m ∧ w.heap.size ≤ r ∧ Below w.heap.size w w' := by
  have hr := powB_range hB
  obtain ⟨i0, hi, hz0, hz1, hz2⟩ := info_parts Try.infoBucket
  go_enter Try.func7, Try.ntmps7
  go_wp2_with fail
  refine (rmmay_any (B : Int) _).mono ?_
  rintro e w0 ⟨rfl, rfl⟩
  rw [hB]
  go_wp2_with (at_make; refine wpList_make_full _ rfl _ _ 77 rfl w0.heap.size 84 i0 (.agg #[.int .u64 0, .int .u64 0, .int .u64 0, .int .u64 0, .int .u64 0, .int .u64 0, .int .u64 0, .int .u64 0]) 8 Try.underlying77 hi hz0 hz1 _ _ _ _ (B + S) rfl rfl ?a1 ?a2 ?b1 ?b2 (Nat.le_refl _) ?_)
  case a1 => omega
  case a2 => omega
  case b1 => rw [hz2]; omega
  case b2 => unfold maxLen; omega
  intro w1 hown hgrow
  have hry := ry_made (by simpa [Value.cells] using hown)
  have hb1 : Below w0.heap.size w0 w1 := (Below.refl _ _).grown hgrow (Nat.le_refl _) (by simp)
  generalize hgg : w0.heap.size = q at *
  have hlt := hry.lt (by omega)
  clear hown hgrow
  have hy : RyIs (w1.alloc (.cells #[.int .i64 (B : Int), .int .i64 (S : Int), .slice (some ⟨q, 0, none⟩) (B + S) (B + S), .int .i64 0, .int .i64 0, .int .i64 0] 79)) q (B + S) (fun _ => 0) := hry.below ((Below.refl _ w1).alloc (Nat.le_refl _) _)
  have HY := hide hy
  have hbs := hb1.size
  rw [hgg] at hbs
  clear hy hry
  go_wp2
  go_ret2
  refine ⟨w1.heap.size, q, rfl, ⟨by omega, ?_, ?_, ?_, ?_, ?_, ?_, ?_, ?_, ?_, ?_, HY.out.cs, HY.out.fs, by omega, by omega⟩, by rw [hgg]; exact hbs, by rw [hgg]; exact Nat.le_refl _, by rw [hgg]; exact hb1.alloc hbs _⟩
  all_goals simp
theorem rx_new_no (B S : Int) (h : powB B = false ∨ S < 0 ∨ 64 < S) (w : World) :
    Calls Try.prog 7 #[.int .i64 B, .int .i64 S] w fun e w' => e = .returned (.tuple #[.pointer none, .int .i64 1]) ∧ w' = w := by
  cases hB : powB B
  · go_enter Try.func7, Try.ntmps7
    go_wp2_with fail
    refine (rmmay_any B _).mono ?_
    rintro e w0 ⟨rfl, rfl⟩
    rw [hB]
    go_wp2
    go_ret2
    exact ⟨rfl, rfl⟩
  · have h2 : S < 0 ∨ 64 < S := by
      rcases h with h | h
      · rw [hB] at h; cases h
      · exact h
    clear h
    by_cases h0 : S < 0
    · clear h2
      go_enter Try.func7, Try.ntmps7
      go_wp2_with fail
      refine (rmmay_any B _).mono ?_
      rintro e w0 ⟨rfl, rfl⟩
      rw [hB]
      go_wp2
      go_ret2
      exact ⟨rfl, rfl⟩
    · have h1 : 64 < S := by omega
      clear h2
      go_enter Try.func7, Try.ntmps7
      go_wp2_with fail
      refine (rmmay_any B _).mono ?_
      rintro e w0 ⟨rfl, rfl⟩
      rw [hB]
      go_wp2
      go_ret2
      exact ⟨rfl, rfl⟩
end Go.Proofs.Ytmpnbaiolmkhlaa
