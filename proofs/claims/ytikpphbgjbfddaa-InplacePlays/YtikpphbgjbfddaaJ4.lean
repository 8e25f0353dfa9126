/- Parts of the proof: Xa Xb Xd Xc. -/
import Derived.Test.YtikpphbgjbfddaaJ1
import Derived.Laws.Pointers
import Derived.Laws.LoneSync
import Derived.Laws.Runes
import Derived.IntWalk
namespace Go.Proofs.Ytikpphbgjbfddaa
set_option maxRecDepth 20000
open Go.RowKit
theorem run_add_i64 (P : Program) (x y : Int) (w : World) (h : -9223372036854775808 ≤ x + y ∧ x + y ≤ 9223372036854775807) : (Op.intArith .add .i64 x y).run P w = .ok (.int .i64 (x + y)) w := by
  have : IntKind.i64.wrap (x + y) = x + y := by simp only [IntKind.wrap, IntKind.bits, IntKind.signed]; simp; omega
  simp [Op.intArith, this]
theorem run_add_u64 (P : Program) (x y : Int) (w : World) : (Op.intArith .add .u64 x y).run P w = .ok (.int .u64 ((x + y) % 18446744073709551616)) w := by
  have : IntKind.u64.wrap (x + y) = (x + y) % 18446744073709551616 := by simp [IntKind.wrap, IntKind.bits, IntKind.signed]
  simp [Op.intArith, this]
set_option maxHeartbeats 400000 in
theorem u64_load (b off : Nat) (x : Int) (w : World) (h0 : w.cell? ⟨b, off, none⟩ = some (.int .u64 x)) :
    Calls Try.prog 60 #[.pointer (some ⟨b, off, none⟩)] w fun e w' => e = .returned (.int .u64 x) ∧ w' = w := by
  have hc := run_call_load (P := Try.prog) Try.func82 (by kernel_rfl) (by kernel_rfl) (by kernel_rfl) .u64 (by kernel_rfl) h0
  go_enter Try.func60, Try.ntmps60
  go_wp2
  go_ret
  exact ⟨rfl, rfl⟩
set_option maxHeartbeats 400000 in
theorem u64_store (b off : Nat) (u : Value) (y : Int) (w : World) (h0 : w.cell? ⟨b, off, none⟩ = some u) (f0 : w.frozen? ⟨b, off, none⟩ = false) :
    Calls Try.prog 94 #[.pointer (some ⟨b, off, none⟩), .int .u64 y] w fun e w' => e = .returned (.tuple #[]) ∧ w' = w.setCell ⟨b, off, none⟩ (.int .u64 y) := by
  have hc := run_call_store (P := Try.prog) Try.func101 (by kernel_rfl) (by kernel_rfl) (by kernel_rfl) (by kernel_rfl) (k := .u64) (y := y) h0 f0
  go_enter Try.func94, Try.ntmps94
  go_wp2
  go_end0
  exact ⟨rfl, rfl⟩
set_option maxHeartbeats 400000 in
theorem u64_hit (b off : Nat) (x y : Int) (w : World) (h0 : w.cell? ⟨b, off, none⟩ = some (.int .u64 x)) (f0 : w.frozen? ⟨b, off, none⟩ = false) :
    Calls Try.prog 99 #[.pointer (some ⟨b, off, none⟩), .int .u64 x, .int .u64 y] w fun e w' => e = .returned (.bool true) ∧ w' = w.setCell ⟨b, off, none⟩ (.int .u64 y) := by
  have hc := run_call_cas_hit (P := Try.prog) Try.func104 (by kernel_rfl) (by kernel_rfl) (by kernel_rfl) .u64 (by kernel_rfl) (y := y) h0 f0
  go_enter Try.func99, Try.ntmps99
  go_wp2
  go_ret
  exact ⟨rfl, rfl⟩
set_option maxHeartbeats 400000 in
theorem u64_miss (b off : Nat) (x o y : Int) (w : World) (h0 : w.cell? ⟨b, off, none⟩ = some (.int .u64 x)) (f0 : w.frozen? ⟨b, off, none⟩ = false) (hn : ¬ x = o) :
    Calls Try.prog 99 #[.pointer (some ⟨b, off, none⟩), .int .u64 o, .int .u64 y] w fun e w' => e = .returned (.bool false) ∧ w' = w := by
  have hc := run_call_cas_miss (P := Try.prog) Try.func104 (by kernel_rfl) (by kernel_rfl) (by kernel_rfl) .u64 (by kernel_rfl) (y := y) h0 f0 hn
  go_enter Try.func99, Try.ntmps99
  go_wp2
  go_ret
  exact ⟨rfl, rfl⟩
set_option maxHeartbeats 400000 in
theorem i64_add (b off : Nat) (x y : Int) (w : World) (h0 : w.cell? ⟨b, off, none⟩ = some (.int .i64 x)) (f0 : w.frozen? ⟨b, off, none⟩ = false) (hb : -9223372036854775808 ≤ x + y ∧ x + y ≤ 9223372036854775807) :
    Calls Try.prog 100 #[.pointer (some ⟨b, off, none⟩), .int .i64 y] w fun e w' => e = .returned (.int .i64 (x + y)) ∧ w' = w.setCell ⟨b, off, none⟩ (.int .i64 (x + y)) := by
  have hc := run_call_add (P := Try.prog) Try.func105 (by kernel_rfl) (by kernel_rfl) (by kernel_rfl) .i64 (by kernel_rfl) h0 f0 (run_add_i64 _ x y w hb)
  go_enter Try.func100, Try.ntmps100
  go_wp2
  go_ret
  exact ⟨rfl, rfl⟩
end Go.Proofs.Ytikpphbgjbfddaa
namespace Go.Proofs.Ytikpphbgjbfddaa
set_option maxRecDepth 20000
open Go.RowKit
theorem cell_set_block {w : World} (p q : Addr) (v : Value) (h : p.block ≠ q.block) : (w.setCell p v).cell? q = w.cell? q := World.cell?_setCell_other _ _ _ _ (fun e => h (by rw [e]))
theorem cell_set_off {w : World} (g i j : Nat) (v : Value) (h : i ≠ j) : (w.setCell ⟨g, i, none⟩ v).cell? ⟨g, j, none⟩ = w.cell? ⟨g, j, none⟩ := World.cell?_setCell_other _ _ _ _ (fun e => h (by cases e; rfl))
set_option maxHeartbeats 400000 in
theorem len_any (r : Nat) (ao : Option Addr) (n cap : Nat) (w : World) (h0 : w.cell? ⟨r, 0, none⟩ = some (.slice ao n cap)) :
    Calls Try.prog 81 #[.pointer (some ⟨r, 0, none⟩)] w fun e w' => e = .returned (.int .i64 (n : Int)) ∧ w' = w := by
  go_enter Try.func81, Try.ntmps81
  go_wp2
  go_ret
  exact ⟨rfl, rfl⟩
set_option maxHeartbeats 400000 in
theorem len_nil (w : World) :
    Calls Try.prog 81 #[.pointer none] w fun e w' => e = .returned (.int .i64 0) ∧ w' = w := by
  go_enter Try.func81, Try.ntmps81
  go_wp2
  go_ret
  exact ⟨rfl, rfl⟩
set_option maxHeartbeats 400000 in
theorem has_yes (r : Nat) (ao : Option Addr) (n cap i : Nat) (hi : i < n) (w : World) (h0 : w.cell? ⟨r, 0, none⟩ = some (.slice ao n cap)) :
    Calls Try.prog 59 #[.pointer (some ⟨r, 0, none⟩), .int .i64 (i : Int)] w fun e w' => e = .returned (.bool true) ∧ w' = w := by
  go_enter Try.func59, Try.ntmps59
  go_wp2_with fail
  refine (len_any r ao n cap _ h0).mono ?_
  rintro e x ⟨rfl, rfl⟩
  go_wp2
  go_ret
  exact ⟨ret_bool (by simp), rfl⟩
set_option maxHeartbeats 400000 in
theorem one_yes (r : Nat) (ao : Option Addr) (n cap i : Nat) (hi : i < n) (w : World) (h0 : w.cell? ⟨r, 0, none⟩ = some (.slice ao n cap)) :
    Calls Try.prog 98 #[.pointer (some ⟨r, 0, none⟩), .int .i64 (i : Int)] w fun e w' => e = .returned (.int .i64 0) ∧ w' = w := by
  go_enter Try.func98, Try.ntmps98
  go_wp2_with fail
  refine (has_yes r ao n cap i hi _ h0).mono ?_
  rintro e x ⟨rfl, rfl⟩
  go_wp2
  go_ret
  exact ⟨rfl, rfl⟩
set_option maxHeartbeats 400000 in
theorem load_yes (r b : Nat) (n cap i : Nat) (v : Int) (hi : i < n) (w : World) (h0 : w.cell? ⟨r, 0, none⟩ = some (.slice (some ⟨b, 0, none⟩) n cap)) (h1 : w.cell? ⟨b, i, none⟩ = some (.int .u64 v)) :
    Calls Try.prog 34 #[.pointer (some ⟨r, 0, none⟩), .int .i64 (i : Int)] w fun e w' => e = .returned (.int .u64 v) ∧ w' = w := by
  go_enter Try.func34, Try.ntmps34
  go_wp2_with fail
  refine (has_yes r _ n cap i hi _ h0).mono ?_
  rintro e x ⟨rfl, rfl⟩
  go_wp2_with fail
  refine (u64_load b i v _ h1).mono ?_
  rintro e x ⟨rfl, rfl⟩
  go_wp2
  go_ret
  exact ⟨rfl, rfl⟩
set_option maxHeartbeats 400000 in
theorem store_yes (r b : Nat) (n cap i : Nat) (u : Value) (y : Int) (hi : i < n) (w : World) (h0 : w.cell? ⟨r, 0, none⟩ = some (.slice (some ⟨b, 0, none⟩) n cap)) (h1 : w.cell? ⟨b, i, none⟩ = some u) (f1 : w.frozen? ⟨b, i, none⟩ = false) :
    Calls Try.prog 92 #[.pointer (some ⟨r, 0, none⟩), .int .i64 (i : Int), .int .u64 y] w fun e w' => e = .returned (.int .i64 0) ∧ w' = w.setCell ⟨b, i, none⟩ (.int .u64 y) := by
  go_enter Try.func92, Try.ntmps92
  go_wp2_with fail
  refine (one_yes r _ n cap i hi _ h0).mono ?_
  rintro e x ⟨rfl, rfl⟩
  go_wp2_with fail
  refine (u64_store b i u y _ h1 f1).mono ?_
  rintro e x ⟨rfl, rfl⟩
  go_wp2
  go_ret
  exact ⟨rfl, rfl⟩
set_option maxHeartbeats 400000 in
theorem cas_hit (r b : Nat) (n cap i : Nat) (x y won : Int) (hi : i < n) (hne : r ≠ b) (hw : 0 ≤ won ∧ won ≤ 1000000) (w : World) (h0 : w.cell? ⟨r, 0, none⟩ = some (.slice (some ⟨b, 0, none⟩) n cap)) (h1 : w.cell? ⟨b, i, none⟩ = some (.int .u64 x)) (f1 : w.frozen? ⟨b, i, none⟩ = false)
    (h2 : w.cell? ⟨r, 1, none⟩ = some (.int .i64 won)) (f2 : w.frozen? ⟨r, 1, none⟩ = false) :
    Calls Try.prog 91 #[.pointer (some ⟨r, 0, none⟩), .int .i64 (i : Int), .int .u64 x, .int .u64 y] w fun e w' => e = .returned (.tuple #[.bool true, .int .i64 0]) ∧ w' = (w.setCell ⟨b, i, none⟩ (.int .u64 y)).setCell ⟨r, 1, none⟩ (.int .i64 (won + 1)) := by
  go_enter Try.func91, Try.ntmps91
  go_wp2_with fail
  refine (one_yes r _ n cap i hi _ h0).mono ?_
  rintro e w1 ⟨rfl, rfl⟩
  go_wp2_with fail
  refine (u64_hit b i x y _ h1 f1).mono ?_
  rintro e w1 ⟨rfl, rfl⟩
  go_wp2_with fail
  refine (i64_add r 1 won 1 _ ?_ ?_ (by omega)).mono ?_
  · rw [cell_set_block _ _ _ (fun e => hne e.symm)]; exact h2
  · rw [World.frozen?_setCell]; exact f2
  rintro e w1 ⟨rfl, rfl⟩
  go_wp2
  go_ret2
  exact ⟨rfl, rfl⟩
set_option maxHeartbeats 400000 in
theorem cas_miss (r b : Nat) (n cap i : Nat) (x o y lost : Int) (hi : i < n) (hw : 0 ≤ lost ∧ lost ≤ 1000000) (w : World) (h0 : w.cell? ⟨r, 0, none⟩ = some (.slice (some ⟨b, 0, none⟩) n cap)) (h1 : w.cell? ⟨b, i, none⟩ = some (.int .u64 x)) (f1 : w.frozen? ⟨b, i, none⟩ = false) (hxo : ¬ x = o)
    (h2 : w.cell? ⟨r, 2, none⟩ = some (.int .i64 lost)) (f2 : w.frozen? ⟨r, 2, none⟩ = false) :
    Calls Try.prog 91 #[.pointer (some ⟨r, 0, none⟩), .int .i64 (i : Int), .int .u64 o, .int .u64 y] w fun e w' => e = .returned (.tuple #[.bool false, .int .i64 0]) ∧ w' = w.setCell ⟨r, 2, none⟩ (.int .i64 (lost + 1)) := by
  go_enter Try.func91, Try.ntmps91
  go_wp2_with fail
  refine (one_yes r _ n cap i hi _ h0).mono ?_
  rintro e w1 ⟨rfl, rfl⟩
  go_wp2_with fail
  refine (u64_miss b i x o y _ h1 f1 hxo).mono ?_
  rintro e w1 ⟨rfl, rfl⟩
  go_wp2_with fail
  refine (i64_add r 2 lost 1 _ h2 f2 (by omega)).mono ?_
  rintro e w1 ⟨rfl, rfl⟩
  go_wp2
  go_ret2
  exact ⟨rfl, rfl⟩
theorem Try.infoA64 : (Try.prog.info? 113).map (fun i => (i.zero, i.size, i.bytes)) = some (some (.agg #[.int .u64 0]), 1, 8) := by kernel_rfl
/-- A row that is there: its struct in block r, its n cells in block b, their words, and its counts. -/
structure RowIs (w : World) (r b n : Nat) (v : Nat → Int) (won lost : Int) : Prop where
  ne : r ≠ b
  c0 : w.cell? ⟨r, 0, none⟩ = some (.slice (some ⟨b, 0, none⟩) n n)
  c1 : w.cell? ⟨r, 1, none⟩ = some (.int .i64 won)
  f1 : w.frozen? ⟨r, 1, none⟩ = false
  c2 : w.cell? ⟨r, 2, none⟩ = some (.int .i64 lost)
  f2 : w.frozen? ⟨r, 2, none⟩ = false
  cs : ∀ i, i < n → w.cell? ⟨b, i, none⟩ = some (.int .u64 (v i))
  fs : ∀ i, i < n → w.frozen? ⟨b, i, none⟩ = false
theorem RowIs.drew {w : World} {r b n : Nat} {v : Nat → Int} {won lost : Int} (h : RowIs w r b n v won lost) (k : Nat) : RowIs (w.drewN k) r b n v won lost := ⟨h.ne, h.c0, h.c1, h.f1, h.c2, h.f2, h.cs, h.fs⟩
def updV (v : Nat → Int) (i : Nat) (y : Int) : Nat → Int := fun j => if j = i then y else v j
theorem updV_same (v : Nat → Int) (i : Nat) (y : Int) : updV v i y i = y := by simp [updV]
theorem RowIs.word {w : World} {r b n : Nat} {v : Nat → Int} {won lost : Int} (h : RowIs w r b n v won lost) (i : Nat) (hi : i < n) (y : Int) : RowIs (w.setCell ⟨b, i, none⟩ (.int .u64 y)) r b n (updV v i y) won lost := by
  have hn : b ≠ r := fun e => h.ne e.symm
  refine ⟨h.ne, ?_, ?_, ?_, ?_, ?_, ?_, ?_⟩
  · rw [cell_set_block _ _ _ hn]; exact h.c0
  · rw [cell_set_block _ _ _ hn]; exact h.c1
  · rw [World.frozen?_setCell]; exact h.f1
  · rw [cell_set_block _ _ _ hn]; exact h.c2
  · rw [World.frozen?_setCell]; exact h.f2
  · intro j hj
    by_cases e : j = i
    · subst e
      rw [World.cell?_setCell_same _ _ _ (h.cs j hj), updV_same]
    · rw [cell_set_off _ _ _ _ (fun c => e c.symm), h.cs j hj, updV, if_neg e]
  · intro j hj
    rw [World.frozen?_setCell]; exact h.fs j hj
theorem RowIs.wins {w : World} {r b n : Nat} {v : Nat → Int} {won lost : Int} (h : RowIs w r b n v won lost) (y : Int) : RowIs (w.setCell ⟨r, 1, none⟩ (.int .i64 y)) r b n v y lost := by
  refine ⟨h.ne, ?_, ?_, ?_, ?_, ?_, ?_, ?_⟩
  · rw [cell_set_off _ _ _ _ (by decide)]; exact h.c0
  · exact World.cell?_setCell_same _ _ _ h.c1
  · rw [World.frozen?_setCell]; exact h.f1
  · rw [cell_set_off _ _ _ _ (by decide)]; exact h.c2
  · rw [World.frozen?_setCell]; exact h.f2
  · intro j hj
    rw [cell_set_block _ _ _ h.ne]; exact h.cs j hj
  · intro j hj
    rw [World.frozen?_setCell]; exact h.fs j hj
theorem RowIs.loses {w : World} {r b n : Nat} {v : Nat → Int} {won lost : Int} (h : RowIs w r b n v won lost) (y : Int) : RowIs (w.setCell ⟨r, 2, none⟩ (.int .i64 y)) r b n v won y := by
  refine ⟨h.ne, ?_, ?_, ?_, ?_, ?_, ?_, ?_⟩
  · rw [cell_set_off _ _ _ _ (by decide)]; exact h.c0
  · rw [cell_set_off _ _ _ _ (by decide)]; exact h.c1
  · rw [World.frozen?_setCell]; exact h.f1
  · exact World.cell?_setCell_same _ _ _ h.c2
  · rw [World.frozen?_setCell]; exact h.f2
  · intro j hj
    rw [cell_set_block _ _ _ h.ne]; exact h.cs j hj
  · intro j hj
    rw [World.frozen?_setCell]; exact h.fs j hj
set_option maxRecDepth 10000 in
set_option maxHeartbeats 400000 in
theorem new_yes (n : Nat) (h1 : 1 ≤ n) (h2 : n ≤ 65536) (w : World) :
    Calls Try.prog 75 #[.int .i64 (n : Int)] w fun e w' => ∃ r b, e = .returned (.tuple #[.pointer (some ⟨r, 0, none⟩), .int .i64 0]) ∧ RowIs w' r b n (fun _ => 0) 0 0 ∧ w.heap.size ≤ r ∧ w.heap.size ≤ b ∧ Below w.heap.size w w' := by
  obtain ⟨i0, hi, hz0, hz1, hz2⟩ := info_parts Try.infoA64
  go_enter Try.func75, Try.ntmps75
  go_wp2_with (at_make; refine wpList_make_full _ rfl _ _ 114 rfl w.heap.size 113 i0 (.agg #[.int .u64 0]) 1 Try.underlying114 hi hz0 hz1 _ _ _ _ n rfl rfl rfl rfl ?b1 ?b2 (Nat.le_refl _) ?_)
  case b1 => rw [hz2]; omega
  case b2 => unfold maxLen; omega
  intro w1 hown hgrow
  have hown1 : w1.ownsRow w.heap.size 113 1 (.slice (some ⟨w.heap.size, 0, none⟩) n n) n (List.replicate n (.int .u64 0)) := by
    simpa [Value.cells, toList_madeCells_one] using hown
  have hb1 : Below w.heap.size w w1 := (Below.refl _ _).grown hgrow (Nat.le_refl _) (by simp)
  generalize hgg : w.heap.size = g at *
  have HG : Hid (w.heap.size = g) := hgg
  clear hown hgrow hgg
  go_wp2
  go_ret2
  have hcs : ∀ i, i < n → w1.cell? ⟨g, i, none⟩ = some (.int .u64 0) := fun i hi => by
    rw [hown1.cellAt i (by omega)]; simp [hi]
  have hlt : g < w1.heap.size := World.block_lt_of_cell? w1 _ (hcs 0 (by omega))
  have hblk : ∀ k, k < w1.heap.size → (w1.alloc (Obj.cells #[.slice (some ⟨g, 0, none⟩) n n, .int .i64 0, .int .i64 0] 118)).heap[k]? = w1.heap[k]? := fun k hk => Below.heap_alloc _ _ _ hk
  refine ⟨w1.heap.size, g, rfl, ⟨by omega, ?_, ?_, ?_, ?_, ?_, ?_, ?_⟩, by rw [HG.out]; omega, by rw [HG.out]; exact Nat.le_refl _, by rw [HG.out]; exact hb1.alloc (by omega) _⟩
  · simp
  · simp
  · simp
  · simp
  · simp
  · intro i hi
    rw [World.cell?_of_block (w := w1) (hblk g hlt)]; exact hcs i hi
  · intro i hi
    rw [World.frozen?_of_block (w := w1) (hblk g hlt)]; exact hown1.frozenAt i
theorem rload {r b n : Nat} {v : Nat → Int} {won lost : Int} {w : World} (h : RowIs w r b n v won lost) (i : Nat) (hi : i < n) (x : Int) (hx : v i = x) :
    Calls Try.prog 34 #[.pointer (some ⟨r, 0, none⟩), .int .i64 (i : Int)] w fun e w' => e = .returned (.int .u64 x) ∧ w' = w := by
  subst hx
  exact load_yes r b n n i (v i) hi w h.c0 (h.cs i hi)
theorem rstore {r b n : Nat} {v : Nat → Int} {won lost : Int} {w : World} (h : RowIs w r b n v won lost) (i : Nat) (hi : i < n) (y : Int) :
    Calls Try.prog 92 #[.pointer (some ⟨r, 0, none⟩), .int .i64 (i : Int), .int .u64 y] w fun e w' => e = .returned (.int .i64 0) ∧ RowIs w' r b n (updV v i y) won lost ∧ ∀ B, B ≤ r → B ≤ b → Below B w w' := by
  refine (store_yes r b n n i _ y hi w h.c0 (h.cs i hi) (h.fs i hi)).mono ?_
  rintro e w' ⟨rfl, rfl⟩
  exact ⟨rfl, h.word i hi y, fun B _ hb => (Below.refl _ _).setCell hb _⟩
theorem rcas_hit {r b n : Nat} {v : Nat → Int} {won lost : Int} {w : World} (h : RowIs w r b n v won lost) (i : Nat) (hi : i < n) (x : Int) (hx : v i = x) (y : Int) (hw : 0 ≤ won ∧ won ≤ 1000000) :
    Calls Try.prog 91 #[.pointer (some ⟨r, 0, none⟩), .int .i64 (i : Int), .int .u64 x, .int .u64 y] w fun e w' => e = .returned (.tuple #[.bool true, .int .i64 0]) ∧ RowIs w' r b n (updV v i y) (won + 1) lost ∧ ∀ B, B ≤ r → B ≤ b → Below B w w' := by
  subst hx
  refine (cas_hit r b n n i (v i) y won hi h.ne hw w h.c0 (h.cs i hi) (h.fs i hi) h.c1 h.f1).mono ?_
  rintro e w' ⟨rfl, rfl⟩
  exact ⟨rfl, (h.word i hi y).wins _, fun B hr hb => ((Below.refl _ _).setCell hb _).setCell hr _⟩
theorem rcas_miss {r b n : Nat} {v : Nat → Int} {won lost : Int} {w : World} (h : RowIs w r b n v won lost) (i : Nat) (hi : i < n) (o : Int) (hx : ¬ v i = o) (y : Int) (hw : 0 ≤ lost ∧ lost ≤ 1000000) :
    Calls Try.prog 91 #[.pointer (some ⟨r, 0, none⟩), .int .i64 (i : Int), .int .u64 o, .int .u64 y] w fun e w' => e = .returned (.tuple #[.bool false, .int .i64 0]) ∧ RowIs w' r b n v won (lost + 1) ∧ ∀ B, B ≤ r → B ≤ b → Below B w w' := by
  refine (cas_miss r b n n i (v i) o y lost hi hw w h.c0 (h.cs i hi) (h.fs i hi) hx h.c2 h.f2).mono ?_
  rintro e w' ⟨rfl, rfl⟩
  exact ⟨rfl, h.loses _, fun B hr _ => (Below.refl _ _).setCell hr _⟩
end Go.Proofs.Ytikpphbgjbfddaa
namespace Go.Proofs.Ytikpphbgjbfddaa
set_option maxRecDepth 20000
open Go.RowKit
set_option maxHeartbeats 400000 in
theorem has_no (r : Nat) (ao : Option Addr) (n cap : Nat) (i : Int) (hi : i < 0 ∨ (n : Int) ≤ i) (w : World) (h0 : w.cell? ⟨r, 0, none⟩ = some (.slice ao n cap)) :
    Calls Try.prog 59 #[.pointer (some ⟨r, 0, none⟩), .int .i64 i] w fun e w' => e = .returned (.bool false) ∧ w' = w := by
  by_cases h : 0 ≤ i
  · go_enter Try.func59, Try.ntmps59
    go_wp2_with fail
    refine (len_any r ao n cap _ h0).mono ?_
    rintro e x ⟨rfl, rfl⟩
    go_wp2
    go_ret
    exact ⟨ret_bool (by simp; omega), rfl⟩
  · go_enter Try.func59, Try.ntmps59
    go_wp2
    go_ret
    exact ⟨ret_bool (by simp), rfl⟩
set_option maxHeartbeats 400000 in
theorem one_no (r : Nat) (ao : Option Addr) (n cap : Nat) (i : Int) (hi : i < 0 ∨ (n : Int) ≤ i) (w : World) (h0 : w.cell? ⟨r, 0, none⟩ = some (.slice ao n cap)) :
    Calls Try.prog 98 #[.pointer (some ⟨r, 0, none⟩), .int .i64 i] w fun e w' => e = .returned (.int .i64 1) ∧ w' = w := by
  go_enter Try.func98, Try.ntmps98
  go_wp2_with fail
  refine (has_no r ao n cap i hi _ h0).mono ?_
  rintro e x ⟨rfl, rfl⟩
  go_wp2
  go_ret
  exact ⟨rfl, rfl⟩
set_option maxHeartbeats 400000 in
theorem load_no (r : Nat) (ao : Option Addr) (n cap : Nat) (i : Int) (hi : i < 0 ∨ (n : Int) ≤ i) (w : World) (h0 : w.cell? ⟨r, 0, none⟩ = some (.slice ao n cap)) :
    Calls Try.prog 34 #[.pointer (some ⟨r, 0, none⟩), .int .i64 i] w fun e w' => e = .returned (.int .u64 0) ∧ w' = w := by
  go_enter Try.func34, Try.ntmps34
  go_wp2_with fail
  refine (has_no r ao n cap i hi _ h0).mono ?_
  rintro e x ⟨rfl, rfl⟩
  go_wp2
  go_ret
  exact ⟨rfl, rfl⟩
set_option maxHeartbeats 400000 in
theorem cas_no (r : Nat) (ao : Option Addr) (n cap : Nat) (i o y : Int) (hi : i < 0 ∨ (n : Int) ≤ i) (w : World) (h0 : w.cell? ⟨r, 0, none⟩ = some (.slice ao n cap)) :
    Calls Try.prog 91 #[.pointer (some ⟨r, 0, none⟩), .int .i64 i, .int .u64 o, .int .u64 y] w fun e w' => e = .returned (.tuple #[.bool false, .int .i64 1]) ∧ w' = w := by
  go_enter Try.func91, Try.ntmps91
  go_wp2_with fail
  refine (one_no r ao n cap i hi _ h0).mono ?_
  rintro e x ⟨rfl, rfl⟩
  go_wp2
  go_ret2
  exact ⟨rfl, rfl⟩
end Go.Proofs.Ytikpphbgjbfddaa
namespace Go.Proofs.Ytikpphbgjbfddaa
set_option maxRecDepth 20000
open Go.RowKit
set_option maxHeartbeats 400000 in
theorem has_nil (i : Int) (w : World) :
    Calls Try.prog 59 #[.pointer none, .int .i64 i] w fun e w' => e = .returned (.bool false) ∧ w' = w := by
  by_cases h : 0 ≤ i
  · go_enter Try.func59, Try.ntmps59
    go_wp2_with fail
    refine (len_nil _).mono ?_
    rintro e x ⟨rfl, rfl⟩
    go_wp2
    go_ret
    exact ⟨ret_bool (by simp; omega), rfl⟩
  · go_enter Try.func59, Try.ntmps59
    go_wp2
    go_ret
    exact ⟨ret_bool (by simp), rfl⟩
set_option maxHeartbeats 400000 in
theorem one_nil (i : Int) (w : World) :
    Calls Try.prog 98 #[.pointer none, .int .i64 i] w fun e w' => e = .returned (.int .i64 2) ∧ w' = w := by
  go_enter Try.func98, Try.ntmps98
  go_wp2
  go_ret
  exact ⟨rfl, rfl⟩
set_option maxHeartbeats 400000 in
theorem many_nil (i n : Int) (w : World) :
    Calls Try.prog 79 #[.pointer none, .int .i64 i, .int .i64 n] w fun e w' => e = .returned (.int .i64 2) ∧ w' = w := by
  go_enter Try.func79, Try.ntmps79
  go_wp2
  go_ret
  exact ⟨rfl, rfl⟩
set_option maxHeartbeats 400000 in
theorem load_nil (i : Int) (w : World) :
    Calls Try.prog 34 #[.pointer none, .int .i64 i] w fun e w' => e = .returned (.int .u64 0) ∧ w' = w := by
  go_enter Try.func34, Try.ntmps34
  go_wp2_with fail
  refine (has_nil i _).mono ?_
  rintro e x ⟨rfl, rfl⟩
  go_wp2
  go_ret
  exact ⟨rfl, rfl⟩
set_option maxHeartbeats 400000 in
theorem store_nil (i y : Int) (w : World) :
    Calls Try.prog 92 #[.pointer none, .int .i64 i, .int .u64 y] w fun e w' => e = .returned (.int .i64 2) ∧ w' = w := by
  go_enter Try.func92, Try.ntmps92
  go_wp2_with fail
  refine (one_nil i _).mono ?_
  rintro e x ⟨rfl, rfl⟩
  go_wp2
  go_ret
  exact ⟨rfl, rfl⟩
set_option maxHeartbeats 400000 in
theorem cas_nil (i o y : Int) (w : World) :
    Calls Try.prog 91 #[.pointer none, .int .i64 i, .int .u64 o, .int .u64 y] w fun e w' => e = .returned (.tuple #[.bool false, .int .i64 2]) ∧ w' = w := by
  go_enter Try.func91, Try.ntmps91
  go_wp2_with fail
  refine (one_nil i _).mono ?_
  rintro e x ⟨rfl, rfl⟩
  go_wp2
  go_ret2
  exact ⟨rfl, rfl⟩
set_option maxHeartbeats 400000 in
theorem words_nil (i n : Int) (w : World) :
    Calls Try.prog 52 #[.pointer none, .int .i64 i, .int .i64 n] w fun e w' => e = .returned (.tuple #[.slice none 0 0, .int .i64 2]) ∧ w' = w := by
  go_enter Try.func52, Try.ntmps52
  go_wp2_with fail
  refine (many_nil i n _).mono ?_
  rintro e x ⟨rfl, rfl⟩
  go_wp2
  go_ret2
  exact ⟨rfl, rfl⟩
set_option maxHeartbeats 400000 in
theorem fill_nil (i : Int) (ao : Option Addr) (n cap : Nat) (w : World) :
    Calls Try.prog 77 #[.pointer none, .int .i64 i, .slice ao n cap] w fun e w' => e = .returned (.int .i64 2) ∧ w' = w := by
  go_enter Try.func77, Try.ntmps77
  go_wp2_with fail
  refine (many_nil i (n : Int) _).mono ?_
  rintro e x ⟨rfl, rfl⟩
  go_wp2
  go_ret
  exact ⟨rfl, rfl⟩
end Go.Proofs.Ytikpphbgjbfddaa
