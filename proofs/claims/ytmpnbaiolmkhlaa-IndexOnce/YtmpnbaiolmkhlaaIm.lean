/- The program's index in memory: its struct, its row of cells, its row of one cell (spare buckets taken), its lock; its small functions. -/
import Derived.Test.YtmpnbaiolmkhlaaIi
import Derived.Test.YtmpnbaiolmkhlaaXe
import Derived.Test.YtmpnbaiolmkhlaaIv
namespace Go.Proofs.Ytmpnbaiolmkhlaa
set_option maxRecDepth 20000
open Go.RowKit
def ixI (g : Nat → Nat) : Nat → Int := fun i => (g i : Int)
theorem ixI_upd (g : Nat → Nat) (i y : Nat) : updV (ixI g) i (y : Int) = ixI (ixUpd g i y) := by
  funext j
  unfold updV ixI ixUpd
  by_cases e : j = i <;> simp [e]
/-- The program's index: its struct in block x, its row's in rr, its words in rb; the count of spare buckets taken in tr and tb; the lock free. -/
structure PxIs (w : World) (x rr rb tr tb B S : Nat) (g : Nat → Nat) (T won lost : Nat) (lk : Int) : Prop where
  c0 : w.cell? ⟨x, 0, none⟩ = some (.int .i64 (B : Int))
  c1 : w.cell? ⟨x, 1, none⟩ = some (.int .i64 (S : Int))
  c2 : w.cell? ⟨x, 2, none⟩ = some (.pointer (some ⟨rr, 0, none⟩))
  c3 : w.cell? ⟨x, 3, none⟩ = some (.pointer (some ⟨tr, 0, none⟩))
  c4 : w.cell? ⟨x, 4, none⟩ = some (.int .i32 lk)
  f4 : w.frozen? ⟨x, 4, none⟩ = false
  row : RowIs w rr rb (8 * (B + S)) (ixI g) (won : Int) (lost : Int)
  tk : ∃ c : Int, RowIs w tr tb 1 (fun _ => (T : Int)) c 0
  ne : x ≠ rr ∧ x ≠ rb ∧ x ≠ tr ∧ x ≠ tb
  n2 : tr ≠ rr ∧ tr ≠ rb ∧ tb ≠ rr ∧ tb ≠ rb
  bs : 1 ≤ B ∧ B ≤ 1024 ∧ S ≤ 64
  few : T ≤ S ∧ won ≤ 1000000 ∧ lost ≤ 1000000
/-- The program's own blocks. -/
def PxOwn (x rr rb tr tb : Nat) : Nat → Prop := fun i => i = x ∨ i = rr ∨ i = rb ∨ i = tr ∨ i = tb
section
variable {w w' : World} {x rr rb tr tb B S : Nat} {g : Nat → Nat} {T won lost : Nat} {lk : Int}
theorem PxIs.lt (h : PxIs w x rr rb tr tb B S g T won lost lk) : x < w.heap.size ∧ rr < w.heap.size ∧ rb < w.heap.size ∧ tr < w.heap.size ∧ tb < w.heap.size :=
  ⟨World.block_lt_of_cell? w _ h.c0, World.block_lt_of_cell? w _ h.row.c0, World.block_lt_of_cell? w _ (h.row.cs 0 (by have := h.bs; omega)), (by obtain ⟨c, k⟩ := h.tk; exact World.block_lt_of_cell? w _ k.c0), (by obtain ⟨c, k⟩ := h.tk; exact World.block_lt_of_cell? w _ (k.cs 0 (by omega)))⟩
theorem PxIs.keep (h : PxIs w x rr rb tr tb B S g T won lost lk) {M : Nat → Prop} (hk : Keeps M w w') (hn : ∀ i, PxOwn x rr rb tr tb i → ¬ M i) : PxIs w' x rr rb tr tb B S g T won lost lk := by
  obtain ⟨l1, l2, l3, l4, l5⟩ := h.lt
  have h1 := hn x (.inl rfl)
  have h2 := hn rr (.inr (.inl rfl))
  have h3 := hn rb (.inr (.inr (.inl rfl)))
  have h4 := hn tr (.inr (.inr (.inr (.inl rfl))))
  have h5 := hn tb (.inr (.inr (.inr (.inr rfl))))
  exact ⟨by rw [hk.cell l1 h1]; exact h.c0, by rw [hk.cell l1 h1]; exact h.c1, by rw [hk.cell l1 h1]; exact h.c2, by rw [hk.cell l1 h1]; exact h.c3, by rw [hk.cell l1 h1]; exact h.c4, by rw [hk.frozen l1 h1]; exact h.f4, h.row.keep hk h2 h3, (by obtain ⟨c, k⟩ := h.tk; exact ⟨c, k.keep hk h4 h5⟩), h.ne, h.n2, h.bs, h.few⟩
theorem PxIs.below (h : PxIs w x rr rb tr tb B S g T won lost lk) (hb : Below w.heap.size w w') : PxIs w' x rr rb tr tb B S g T won lost lk := h.keep (M := fun _ => False) (Below.keeps hb) (fun _ _ => id)
theorem PxIs.drew (h : PxIs w x rr rb tr tb B S g T won lost lk) (k : Nat) : PxIs (w.drewN k) x rr rb tr tb B S g T won lost lk := h.below (below_drewN (Below.refl _ _) k)
end
set_option maxHeartbeats 1000000 in
theorem px_all {w : World} {x B S : Nat} (c0 : w.cell? ⟨x, 0, none⟩ = some (.int .i64 (B : Int))) (c1 : w.cell? ⟨x, 1, none⟩ = some (.int .i64 (S : Int))) (hbs : B ≤ 1024 ∧ S ≤ 64) :
    Calls Try.prog 63 #[.pointer (some ⟨x, 0, none⟩)] w fun e w' => e = .returned (.int .i64 ((B + S : Nat) : Int)) ∧ ∃ k, w' = w.drewN k := by
  have d1 : IntKind.i64.wrap ((B : Int) + (S : Int)) = ((B + S : Nat) : Int) := by rw [IntWalk.i64_in _ (by omega)]; omega
  go_enter Try.func63, Try.ntmps63
  go_wp2_with fail
  go_quiet ((fail))
  go_wp2
  go_ret
  exact ⟨ret_int (by first | exact d1 | omega), _, rfl⟩
set_option maxHeartbeats 1000000 in
theorem px_has {w : World} {x rr rb tr tb B S : Nat} {g : Nat → Nat} {T won lost : Nat} {lk : Int} (h : PxIs w x rr rb tr tb B S g T won lost lk) (b : Nat) (hb : b < B + S) :
    Calls Try.prog 56 #[.pointer (some ⟨x, 0, none⟩), .int .i64 (b : Int)] w fun e w' => e = .returned (.bool true) ∧ ∃ k, w' = w.drewN k := by
  have hbs := h.bs
  have HA := hide (fun n => px_all (w := w.drewN n) (x := x) (B := B) (S := S) h.c0 h.c1 (by omega))
  have d1 : (b : Int) < ((B + S : Nat) : Int) := by omega
  generalize B + S = n at *
  clear h
  go_enter Try.func56, Try.ntmps56
  go_wp2_with fail
  refine (HA.out 0).mono ?_
  rintro e w' ⟨rfl, k, rfl⟩
  go_wp2
  go_ret
  exact ⟨ret_bool (by first | (simp; done) | (simp; omega)), _, rfl⟩
theorem px_linkOf (b : Nat) (hb : b ≤ 2000) (w : World) :
    Calls Try.prog 60 #[.int .i64 (b : Int)] w fun e w' => e = .returned (.int .i64 ((8 * b + 7 : Nat) : Int)) ∧ w' = w := by
  go_enter Try.func60, Try.ntmps60
  go_wp2
  go_ret
  exact ⟨ret_int (by omega), rfl⟩
theorem px_linkTo (b : Nat) (hb : b ≤ 2000) (w : World) :
    Calls Try.prog 61 #[.int .i64 (b : Int)] w fun e w' => e = .returned (.int .u64 ((b + 1 : Nat) : Int)) ∧ w' = w := by
  go_enter Try.func61, Try.ntmps61
  go_wp2
  go_ret
  exact ⟨ret_int (by omega), rfl⟩
end Go.Proofs.Ytmpnbaiolmkhlaa
