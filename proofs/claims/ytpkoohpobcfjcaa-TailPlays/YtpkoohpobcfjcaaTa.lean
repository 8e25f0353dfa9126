/- Package tail: a tail that is there: where it is, what it tells. -/
import Derived.Test.YtpkoohpobcfjcaaXe
import Derived.Test.YtpkoohpobcfjcaaWq
import Derived.Handy
namespace Go.Proofs.Ytpkoohpobcfjcaa
open Go.RowKit
/-- A page and an offset, as a value. -/
def spV (P O : Nat) : Value := .agg #[.int .i64 (P : Int), .int .i64 (O : Int)]
/-- What stands in the cell. -/
def spN (P O : Nat) : Nat := P * 4294967296 + O
theorem i64_of_nat {n : Nat} (h : n ≤ 9223372036854775807) : IntKind.i64.wrap (n : Int) = (n : Int) := by
  simp only [IntKind.wrap, IntKind.bits, IntKind.signed]; simp; omega
theorem u64_of_nat {n : Nat} (h : n ≤ 9223372036854775807) : IntKind.u64.wrap (n : Int) = (n : Int) := by
  simp only [IntKind.wrap, IntKind.bits, IntKind.signed]; simp; omega
theorem spN_or (P O : Nat) (hP : P < 4294967296) (hO : O < 4294967296) : bits .or .u64 ((P : Int) * 4294967296) (O : Int) = (spN P O : Int) := by
  have h := u64_or_nat (P * 4294967296) O (by omega) (by omega)
  rw [Int.natCast_mul] at h
  have e : (P * 4294967296) ||| O = spN P O := by
    unfold spN
    have := Nat.two_pow_add_eq_or_of_lt (i := 32) (b := O) hO P
    rw [show (2 : Nat) ^ 32 = 4294967296 by decide, Nat.mul_comm] at this
    exact this.symm
  rw [e] at h
  exact h
set_option maxHeartbeats 400000 in
theorem tspotOf (P O : Nat) (hP : P < 4294967296) (hO : O < 4294967296) (w : World) :
    Calls Try.prog 31 #[.int .u64 (spN P O : Int)] w fun e w' => e = .returned (spV P O) ∧ Below w.heap.size w w' := by
  have h1 : Hid ((spN P O : Int) / 4294967296 = (P : Int)) := by simp only [Hid, spN]; omega
  have h2 : Hid ((spN P O : Int) % 4294967296 = (O : Int)) := by simp only [Hid, spN]; omega
  have h3 : spN P O < 18446744073709551616 := by unfold spN; omega
  unfold spV
  generalize spN P O = x at *
  go_enter Try.func31, Try.ntmps31
  go_wp2
  go_returns
  exact ⟨by rw [h1.out, h2.out], (Below.refl _ _).alloc (Nat.le_refl _) _⟩
set_option maxHeartbeats 400000 in
theorem tword (P O : Nat) (hP : P < 4294967296) (hO : O < 4294967296) (w : World) :
    Calls Try.prog 35 #[spV P O] w fun e w' => e = .returned (.int .u64 (spN P O : Int)) ∧ Below w.heap.size w w' := by
  have h1 := hide (spN_or P O hP hO)
  unfold spV
  go_enter Try.func35, Try.ntmps35
  go_wp2
  go_ret
  exact ⟨ret_int h1.out, (Below.refl _ _).alloc (Nat.le_refl _) _⟩
/-- A struct of two cells, handed on and written whole. -/
theorem cell_two {w x : World} {a b : Value} {T : TypeId} (hb : Below (w.alloc (.cells #[a, b] T)).heap.size (w.alloc (.cells #[a, b] T)) x) :
    (x.cell? ⟨w.heap.size, 0, none⟩ = some a ∧ x.cell? ⟨w.heap.size, 1, none⟩ = some b) ∧ x.frozen? ⟨w.heap.size, 0, none⟩ = false ∧ x.frozen? ⟨w.heap.size, 1, none⟩ = false := by
  refine ⟨⟨?_, ?_⟩, ?_, ?_⟩
  · rw [hb.cell (by simp)]; simp
  · rw [hb.cell (by simp)]; simp
  · rw [hb.frozen (by simp)]; simp
  · rw [hb.frozen (by simp)]; simp
theorem set_two {x : World} {b : Nat} {u0 u1 : Value} (d0 : x.cell? ⟨b, 0, none⟩ = some u0) (d1 : x.cell? ⟨b, 1, none⟩ = some u1) (a0 a1 : Value) :
    ((x.setCell ⟨b, 0, none⟩ a0).setCell ⟨b, 1, none⟩ a1).cell? ⟨b, 0, none⟩ = some a0 ∧ ((x.setCell ⟨b, 0, none⟩ a0).setCell ⟨b, 1, none⟩ a1).cell? ⟨b, 1, none⟩ = some a1 := by
  have n : (⟨b, 1, none⟩ : Addr) ≠ ⟨b, 0, none⟩ := by simp
  refine ⟨?_, ?_⟩
  · rw [World.cell?_setCell_other _ _ _ _ n]
    exact World.cell?_setCell_same _ _ _ d0
  · exact World.cell?_setCell_same _ _ _ (by rw [World.cell?_setCell_other _ _ _ _ n.symm]; exact d1)
/-- A tail that is there: its struct in block t, its row in blocks r and b. -/
structure TlAt (w : World) (t r b : Nat) (bs : Int) (sp P O won : Nat) : Prop where
  c0 : w.cell? ⟨t, 0, none⟩ = some (.int .i64 bs)
  c1 : w.cell? ⟨t, 1, none⟩ = some (.int .i64 (sp : Int))
  c2 : w.cell? ⟨t, 2, none⟩ = some (.pointer (some ⟨r, 0, none⟩))
  row : RowIs w r b 1 (fun _ => (spN P O : Int)) (won : Int) 0
  nb : b ≠ t
  nr : r ≠ t
  hb : 5 ≤ bs ∧ bs ≤ 9
  hs : 1 ≤ sp ∧ sp ≤ 64
  hp : P < sp
  ho : O ≤ 1024
theorem TlAt.keep {w w' : World} {T : Nat → Prop} {t r b : Nat} {bs : Int} {sp P O won : Nat} (h : TlAt w t r b bs sp P O won) (hk : Keeps T w w') (ht : ¬ T t) (hr : ¬ T r) (hb : ¬ T b) : TlAt w' t r b bs sp P O won := by
  have hl : t < w.heap.size := World.block_lt_of_cell? w _ h.c0
  exact ⟨by rw [hk.cell hl ht]; exact h.c0, by rw [hk.cell hl ht]; exact h.c1, by rw [hk.cell hl ht]; exact h.c2, h.row.keep hk hr hb, h.nb, h.nr, h.hb, h.hs, h.hp, h.ho⟩
theorem TlAt.below {w w' : World} {t r b : Nat} {bs : Int} {sp P O won : Nat} (h : TlAt w t r b bs sp P O won) (hb : Below w.heap.size w w') : TlAt w' t r b bs sp P O won := h.keep (Below.keeps (S := fun _ => False) hb) id id id
theorem TlAt.drew {w : World} {t r b : Nat} {bs : Int} {sp P O won : Nat} (h : TlAt w t r b bs sp P O won) (k : Nat) : TlAt (w.drewN k) t r b bs sp P O won := h.below (below_drewN (Below.refl _ _) k)
theorem TlAt.alloc {w : World} {t r b : Nat} {bs : Int} {sp P O won : Nat} (h : TlAt w t r b bs sp P O won) (o : Obj) : TlAt (w.alloc o) t r b bs sp P O won := h.below ((Below.refl _ _).alloc (Nat.le_refl _) _)
theorem TlAt.lt {w : World} {t r b : Nat} {bs : Int} {sp P O won : Nat} (h : TlAt w t r b bs sp P O won) : t < w.heap.size := World.block_lt_of_cell? w _ h.c0
section
variable {w : World} {t r b : Nat} {bs : Int} {sp P O won : Nat}
set_option maxHeartbeats 400000 in
theorem tat (h : TlAt w t r b bs sp P O won) :
    Calls Try.prog 28 #[.pointer (some ⟨t, 0, none⟩)] w fun e w' => e = .returned (spV P O) ∧ Below w.heap.size w w' := by
  have h1 := h.alloc (Obj.cells #[.int .i64 0, .int .i64 0] 56)
  have c2 := h1.c2
  have hl := rload h1.row 0 (by decide) _ rfl
  have hp := h.hp
  have hs := h.hs
  have ho := h.ho
  go_enter Try.func28, Try.ntmps28
  go_wp2_with fail
  refine hl.mono ?_
  rintro e x ⟨rfl, rfl⟩
  go_wp2_with fail
  refine (tspotOf P O (by omega) (by omega) _).mono ?_
  rintro e y ⟨rfl, b1⟩
  unfold spV
  obtain ⟨⟨d0, d1⟩, f0, f1⟩ := cell_two b1
  have hy : Below w.heap.size w y := ((Below.refl _ w).alloc (Nat.le_refl _) _).trans (b1.mono (by simp))
  clear b1 hl h1 c2
  go_wp2
  obtain ⟨s0, s1⟩ := set_two d0 d1 (.int .i64 (P : Int)) (.int .i64 (O : Int))
  replace hy : Below w.heap.size w ((y.setCell ⟨w.heap.size, 0, none⟩ (.int .i64 (P : Int))).setCell ⟨w.heap.size, 1, none⟩ (.int .i64 (O : Int))) := (hy.setCell (Nat.le_refl _) _).setCell (Nat.le_refl _) _
  generalize (y.setCell ⟨w.heap.size, 0, none⟩ (.int .i64 (P : Int))).setCell ⟨w.heap.size, 1, none⟩ (.int .i64 (O : Int)) = z at *
  (try simp only [Exit.inBlock, Exit.then])
  refine bodyPost_ret (by simp [results, Try.results28, go_sem, s0, s1]; try rfl) rfl ?_
  exact ⟨rfl, hy⟩
set_option maxHeartbeats 400000 in
theorem tsize (h : TlAt w t r b bs sp P O won) :
    Calls Try.prog 27 #[.pointer (some ⟨t, 0, none⟩)] w fun e w' => e = .returned (.int .i64 (sizeN bs : Int)) ∧ w' = w := by
  have c0 := h.c0
  go_enter Try.func27, Try.ntmps27
  go_wp2_with fail
  refine (psize_any _ _).mono ?_
  rintro e x ⟨rfl, rfl⟩
  go_wp2
  go_ret
  exact ⟨rfl, rfl⟩
set_option maxHeartbeats 400000 in
theorem tover (h : TlAt w t r b bs sp P O won) (P' O' : Nat) :
    Calls Try.prog 29 #[.pointer (some ⟨t, 0, none⟩), spV P' O'] w fun e w' => e = .returned (.bool (decide (sizeN bs < O'))) ∧ Below w.heap.size w w' := by
  unfold spV
  have hz := fun o k => tsize ((h.alloc o).drew k)
  have hn := sizeN_bounds bs
  generalize sizeN bs = S at *
  go_enter Try.func29, Try.ntmps29
  go_wp2
  go_quiet ((go_at_call 27; exact Calls.quiet_of_same (hz _ _)))
  go_wp2
  go_ret
  exact ⟨ret_bool (by simp), below_drewN ((Below.refl _ _).alloc (Nat.le_refl _) _) _⟩
set_option maxHeartbeats 400000 in
theorem tlast (h : TlAt w t r b bs sp P O won) (p : Nat) :
    Calls Try.prog 38 #[.pointer (some ⟨t, 0, none⟩), .int .i64 (p : Int)] w fun e w' => e = .returned (.bool (decide (sp ≤ p + 1))) ∧ w' = w := by
  have c1 := h.c1
  have hs := h.hs
  go_enter Try.func38, Try.ntmps38
  go_wp2
  go_ret
  exact ⟨ret_bool (by simp; omega), rfl⟩
set_option maxHeartbeats 400000 in
theorem toffset (h : TlAt w t r b bs sp P O won) (P' O' : Nat) :
    Calls Try.prog 36 #[.pointer (some ⟨t, 0, none⟩), spV P' O'] w fun e w' => e = .returned (.int .i64 ((min O' (sizeN bs) : Nat) : Int)) ∧ Below w.heap.size w w' := by
  unfold spV
  have hz := fun o k => tsize ((h.alloc o).drew k)
  have hn := sizeN_bounds bs
  generalize sizeN bs = S at *
  have hm : min (O' : Int) (S : Int) = ((min O' S : Nat) : Int) := by omega
  generalize min O' S = M at *
  go_enter Try.func36, Try.ntmps36
  go_wp2
  go_quiet ((go_at_call 27; exact Calls.quiet_of_same (hz _ _)))
  go_wp2
  all_goals
    go_ret
    exact ⟨ret_int (by omega), below_drewN ((Below.refl _ _).alloc (Nat.le_refl _) _) _⟩
end
end Go.Proofs.Ytpkoohpobcfjcaa
