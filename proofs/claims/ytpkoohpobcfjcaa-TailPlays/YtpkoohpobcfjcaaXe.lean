/- Rows of cells among other things in memory; many cells at once: Words, Fill. -/
import Derived.Test.YtpkoohpobcfjcaaXd
import Derived.Test.YtpkoohpobcfjcaaWx
namespace Go.Proofs.Ytpkoohpobcfjcaa
open Go.RowKit
theorem Try.infoW64 : (Try.prog.info? 33).map (fun i => (i.zero, i.size, i.bytes)) = some (some (.int .u64 0), 1, 8) := by kernel_rfl
theorem RowIs.keep {w w' : World} {T : Nat → Prop} {r b n : Nat} {v : Nat → Int} {won lost : Int} (h : RowIs w r b n v won lost) (hk : Keeps T w w') (hr : ¬ T r) (hb : ¬ T b) : RowIs w' r b n v won lost := by
  have hl : r < w.heap.size := World.block_lt_of_cell? w _ h.c0
  refine ⟨h.ne, ?_, ?_, ?_, ?_, ?_, ?_, ?_⟩
  · rw [hk.cell hl hr]; exact h.c0
  · rw [hk.cell hl hr]; exact h.c1
  · rw [hk.frozen hl hr]; exact h.f1
  · rw [hk.cell hl hr]; exact h.c2
  · rw [hk.frozen hl hr]; exact h.f2
  · intro j hj
    rw [hk.cell (World.block_lt_of_cell? w _ (h.cs j hj)) hb]; exact h.cs j hj
  · intro j hj
    rw [hk.frozen (World.block_lt_of_cell? w _ (h.cs j hj)) hb]; exact h.fs j hj
theorem RowIs.under {w w' : World} {r b n : Nat} {v : Nat → Int} {won lost : Int} (h : RowIs w r b n v won lost) (hb : Below w.heap.size w w') : RowIs w' r b n v won lost := h.keep (Below.keeps (S := fun _ => False) hb) id id
theorem RowIs.same {w : World} {r b n : Nat} {v u : Nat → Int} {won lost : Int} (h : RowIs w r b n v won lost) (e : ∀ i, i < n → v i = u i) : RowIs w r b n u won lost :=
  ⟨h.ne, h.c0, h.c1, h.f1, h.c2, h.f2, fun i hi => by rw [h.cs i hi, e i hi], h.fs⟩
/-- The blocks of a row. -/
def InRow (r b : Nat) : Nat → Prop := fun k => k = r ∨ k = b
theorem kstore {r b n : Nat} {v : Nat → Int} {won lost : Int} {w : World} (h : RowIs w r b n v won lost) (i : Nat) (hi : i < n) (y : Int) :
    Calls Try.prog 34 #[.pointer (some ⟨r, 0, none⟩), .int .i64 (i : Int), .int .u64 y] w fun e w' => e = .returned (.int .i64 0) ∧ RowIs w' r b n (updV v i y) won lost ∧ Keeps (InRow r b) w w' := by
  refine (store_yes r b n n i _ y hi w h.c0 (h.cs i hi) (h.fs i hi)).mono ?_
  rintro e w' ⟨rfl, rfl⟩
  exact ⟨rfl, h.word i hi y, (Keeps.refl _ _).setCell _ (fun _ => .inr rfl) _⟩
theorem kadd {r b n : Nat} {v : Nat → Int} {won lost : Int} {w : World} (h : RowIs w r b n v won lost) (i : Nat) (hi : i < n) (x : Int) (hx : v i = x) (y : Int) (hx0 : 0 ≤ x) (hy : 0 ≤ y) (hxy : x + y < 18446744073709551616) :
    Calls Try.prog 30 #[.pointer (some ⟨r, 0, none⟩), .int .i64 (i : Int), .int .u64 y] w fun e w' => e = .returned (.tuple #[.int .u64 x, .int .i64 0]) ∧ RowIs w' r b n (updV v i (x + y)) won lost ∧ Keeps (InRow r b) w w' := by
  subst hx
  refine (add_yes r b n n i (v i) y hi hx0 hy hxy w h.c0 (h.cs i hi) (h.fs i hi)).mono ?_
  rintro e w' ⟨rfl, rfl⟩
  exact ⟨rfl, h.word i hi _, (Keeps.refl _ _).setCell _ (fun _ => .inr rfl) _⟩
theorem kcas_hit {r b n : Nat} {v : Nat → Int} {won lost : Int} {w : World} (h : RowIs w r b n v won lost) (i : Nat) (hi : i < n) (x : Int) (hx : v i = x) (y : Int) (hw : 0 ≤ won ∧ won ≤ 1000000) :
    Calls Try.prog 44 #[.pointer (some ⟨r, 0, none⟩), .int .i64 (i : Int), .int .u64 x, .int .u64 y] w fun e w' => e = .returned (.tuple #[.bool true, .int .i64 0]) ∧ RowIs w' r b n (updV v i y) (won + 1) lost ∧ Keeps (InRow r b) w w' := by
  subst hx
  refine (cas_hit r b n n i (v i) y won hi h.ne hw w h.c0 (h.cs i hi) (h.fs i hi) h.c1 h.f1).mono ?_
  rintro e w' ⟨rfl, rfl⟩
  exact ⟨rfl, (h.word i hi y).wins _, ((Keeps.refl _ _).setCell _ (fun _ => .inr rfl) _).setCell _ (fun _ => .inl rfl) _⟩
theorem kcas_miss {r b n : Nat} {v : Nat → Int} {won lost : Int} {w : World} (h : RowIs w r b n v won lost) (i : Nat) (hi : i < n) (o : Int) (hx : ¬ v i = o) (y : Int) (hw : 0 ≤ lost ∧ lost ≤ 1000000) :
    Calls Try.prog 44 #[.pointer (some ⟨r, 0, none⟩), .int .i64 (i : Int), .int .u64 o, .int .u64 y] w fun e w' => e = .returned (.tuple #[.bool false, .int .i64 0]) ∧ RowIs w' r b n v won (lost + 1) ∧ Keeps (InRow r b) w w' := by
  refine (cas_miss r b n n i (v i) o y lost hi hw w h.c0 (h.cs i hi) (h.fs i hi) hx h.c2 h.f2).mono ?_
  rintro e w' ⟨rfl, rfl⟩
  exact ⟨rfl, h.loses _, (Keeps.refl _ _).setCell _ (fun _ => .inl rfl) _⟩
end Go.Proofs.Ytpkoohpobcfjcaa
