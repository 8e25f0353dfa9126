/- Parts of the proof: Ta Tb Tc Td Te Tf Th. -/
import Derived.Test.YtfghfbmmaclcnaaGreatJ4
import Derived.Test.YtfghfbmmaclcnaaGreatJ6
import Derived.Handy
import Derived.Deep.RegionHeld3
namespace Go.Proofs.YtfghfbmmaclcnaaGreat
set_option maxRecDepth 20000
open Go.RowKit
/-- A page and an offset, as a value. -/
def spV (P O : Nat) : Value := .agg #[.int .i64 (P : Int), .int .i64 (O : Int)]
/-- What stands in the cell. -/
def spN (P O : Nat) : Nat := P * 4294967296 + O
theorem i64_of_natT {n : Nat} (h : n ≤ 9223372036854775807) : IntKind.i64.wrap (n : Int) = (n : Int) := by
  simp only [IntKind.wrap, IntKind.bits, IntKind.signed]; simp; omega
theorem u64_of_natT {n : Nat} (h : n ≤ 9223372036854775807) : IntKind.u64.wrap (n : Int) = (n : Int) := by
  simp only [IntKind.wrap, IntKind.bits, IntKind.signed]; simp; omega
theorem spN_or (P O : Nat) (hP : P < 4294967296) (hO : O < 4294967296) : bits .or .u64 ((P : Int) * 4294967296) (O : Int) = (spN P O : Int) := by
  have h := u64_or_nat (P * 4294967296) O (by omega) (by omega)
  rw [Int.natCast_mul] at h
  have e : (P * 4294967296) ||| O = spN P O := by
    unfold spN
    have := Nat.two_pow_add_eq_or_of_lt (i := 32) (b := O) hO P
    rw [show (2 : Nat) ^ 32 = 4294967296 by decide, Nat.mul_comm] at this
    exact this.symm
  rw [e] at h
  exact h
set_option maxHeartbeats 400000 in
theorem tspotOf (P O : Nat) (hP : P < 4294967296) (hO : O < 4294967296) (w : World) :
    Calls Tryz.prog 150 #[.int .u64 (spN P O : Int)] w fun e w' => e = .returned (spV P O) ∧ Below w.heap.size w w' := by
  have h1 : Hid ((spN P O : Int) / 4294967296 = (P : Int)) := by simp only [Hid, spN]; omega
  have h2 : Hid ((spN P O : Int) % 4294967296 = (O : Int)) := by simp only [Hid, spN]; omega
  have h3 : spN P O < 18446744073709551616 := by unfold spN; omega
  unfold spV
  generalize spN P O = x at *
  go_enter Tryz.func150, Tryz.ntmps150
  go_wp2
  go_returns
  exact ⟨by rw [h1.out, h2.out], (Below.refl _ _).alloc (Nat.le_refl _) _⟩
set_option maxHeartbeats 400000 in
theorem tword (P O : Nat) (hP : P < 4294967296) (hO : O < 4294967296) (w : World) :
    Calls Tryz.prog 164 #[spV P O] w fun e w' => e = .returned (.int .u64 (spN P O : Int)) ∧ Below w.heap.size w w' := by
  have h1 := hide (spN_or P O hP hO)
  unfold spV
  go_enter Tryz.func164, Tryz.ntmps164
  go_wp2
  go_ret
  exact ⟨ret_int h1.out, (Below.refl _ _).alloc (Nat.le_refl _) _⟩
/-- A struct of two cells, handed on and written whole. -/
theorem cell_twoT {w x : World} {a b : Value} {T : TypeId} (hb : Below (w.alloc (.cells #[a, b] T)).heap.size (w.alloc (.cells #[a, b] T)) x) :
    (x.cell? ⟨w.heap.size, 0, none⟩ = some a ∧ x.cell? ⟨w.heap.size, 1, none⟩ = some b) ∧ x.frozen? ⟨w.heap.size, 0, none⟩ = false ∧ x.frozen? ⟨w.heap.size, 1, none⟩ = false := by
  refine ⟨⟨?_, ?_⟩, ?_, ?_⟩
  · rw [hb.cell (by simp)]; simp
  · rw [hb.cell (by simp)]; simp
  · rw [hb.frozen (by simp)]; simp
  · rw [hb.frozen (by simp)]; simp
theorem set_two {x : World} {b : Nat} {u0 u1 : Value} (d0 : x.cell? ⟨b, 0, none⟩ = some u0) (d1 : x.cell? ⟨b, 1, none⟩ = some u1) (a0 a1 : Value) :
    ((x.setCell ⟨b, 0, none⟩ a0).setCell ⟨b, 1, none⟩ a1).cell? ⟨b, 0, none⟩ = some a0 ∧ ((x.setCell ⟨b, 0, none⟩ a0).setCell ⟨b, 1, none⟩ a1).cell? ⟨b, 1, none⟩ = some a1 := by
  have n : (⟨b, 1, none⟩ : Addr) ≠ ⟨b, 0, none⟩ := by simp
  refine ⟨?_, ?_⟩
  · rw [World.cell?_setCell_other _ _ _ _ n]
    exact World.cell?_setCell_same _ _ _ d0
  · exact World.cell?_setCell_same _ _ _ (by rw [World.cell?_setCell_other _ _ _ _ n.symm]; exact d1)
/-- A tail that is there: its struct in block t, its row in blocks r and b. -/
structure TlAt (w : World) (t r b : Nat) (bs : Int) (sp P O won : Nat) : Prop where
  c0 : w.cell? ⟨t, 0, none⟩ = some (.int .i64 bs)
  c1 : w.cell? ⟨t, 1, none⟩ = some (.int .i64 (sp : Int))
  c2 : w.cell? ⟨t, 2, none⟩ = some (.pointer (some ⟨r, 0, none⟩))
  row : RowIs w r b 1 (fun _ => (spN P O : Int)) (won : Int) 0
  nb : b ≠ t
  nr : r ≠ t
  hb : 5 ≤ bs ∧ bs ≤ 9
  hs : 1 ≤ sp ∧ sp ≤ 64
  hp : P < sp
  ho : O ≤ 1024
theorem TlAt.keep {w w' : World} {T : Nat → Prop} {t r b : Nat} {bs : Int} {sp P O won : Nat} (h : TlAt w t r b bs sp P O won) (hk : Keeps T w w') (ht : ¬ T t) (hr : ¬ T r) (hb : ¬ T b) : TlAt w' t r b bs sp P O won := by
  have hl : t < w.heap.size := World.block_lt_of_cell? w _ h.c0
  exact ⟨by rw [hk.cell hl ht]; exact h.c0, by rw [hk.cell hl ht]; exact h.c1, by rw [hk.cell hl ht]; exact h.c2, h.row.keep hk hr hb, h.nb, h.nr, h.hb, h.hs, h.hp, h.ho⟩
theorem TlAt.below {w w' : World} {t r b : Nat} {bs : Int} {sp P O won : Nat} (h : TlAt w t r b bs sp P O won) (hb : Below w.heap.size w w') : TlAt w' t r b bs sp P O won := h.keep (Below.keeps (S := fun _ => False) hb) id id id
theorem TlAt.drew {w : World} {t r b : Nat} {bs : Int} {sp P O won : Nat} (h : TlAt w t r b bs sp P O won) (k : Nat) : TlAt (w.drewN k) t r b bs sp P O won := h.below (below_drewN (Below.refl _ _) k)
theorem TlAt.alloc {w : World} {t r b : Nat} {bs : Int} {sp P O won : Nat} (h : TlAt w t r b bs sp P O won) (o : Obj) : TlAt (w.alloc o) t r b bs sp P O won := h.below ((Below.refl _ _).alloc (Nat.le_refl _) _)
theorem TlAt.lt {w : World} {t r b : Nat} {bs : Int} {sp P O won : Nat} (h : TlAt w t r b bs sp P O won) : t < w.heap.size := World.block_lt_of_cell? w _ h.c0
section
variable {w : World} {t r b : Nat} {bs : Int} {sp P O won : Nat}
set_option maxHeartbeats 400000 in
theorem tat (h : TlAt w t r b bs sp P O won) :
    Calls Tryz.prog 101 #[.pointer (some ⟨t, 0, none⟩)] w fun e w' => e = .returned (spV P O) ∧ Below w.heap.size w w' := by
  have h1 := h.alloc (Obj.cells #[.int .i64 0, .int .i64 0] 157)
  have c2 := h1.c2
  have hl := rload h1.row 0 (by decide) _ rfl
  have hp := h.hp
  have hs := h.hs
  have ho := h.ho
  go_enter Tryz.func101, Tryz.ntmps101
  go_wp2_with fail
  refine hl.mono ?_
  rintro e x ⟨rfl, rfl⟩
  go_wp2_with fail
  refine (tspotOf P O (by omega) (by omega) _).mono ?_
  rintro e y ⟨rfl, b1⟩
  unfold spV
  obtain ⟨⟨d0, d1⟩, f0, f1⟩ := cell_twoT b1
  have hy : Below w.heap.size w y := ((Below.refl _ w).alloc (Nat.le_refl _) _).trans (b1.mono (by simp))
  clear b1 hl h1 c2
  go_wp2
  obtain ⟨s0, s1⟩ := set_two d0 d1 (.int .i64 (P : Int)) (.int .i64 (O : Int))
  replace hy : Below w.heap.size w ((y.setCell ⟨w.heap.size, 0, none⟩ (.int .i64 (P : Int))).setCell ⟨w.heap.size, 1, none⟩ (.int .i64 (O : Int))) := (hy.setCell (Nat.le_refl _) _).setCell (Nat.le_refl _) _
  generalize (y.setCell ⟨w.heap.size, 0, none⟩ (.int .i64 (P : Int))).setCell ⟨w.heap.size, 1, none⟩ (.int .i64 (O : Int)) = z at *
  (try simp only [Exit.inBlock, Exit.then])
  refine bodyPost_ret (by simp [results, Tryz.results101, go_sem, s0, s1]; try rfl) rfl ?_
  exact ⟨rfl, hy⟩
set_option maxHeartbeats 400000 in
theorem tsize (h : TlAt w t r b bs sp P O won) :
    Calls Tryz.prog 147 #[.pointer (some ⟨t, 0, none⟩)] w fun e w' => e = .returned (.int .i64 (sizeN bs : Int)) ∧ w' = w := by
  have c0 := h.c0
  go_enter Tryz.func147, Tryz.ntmps147
  go_wp2_with fail
  refine (psize_any _ _).mono ?_
  rintro e x ⟨rfl, rfl⟩
  go_wp2
  go_ret
  exact ⟨rfl, rfl⟩
set_option maxHeartbeats 400000 in
theorem tover (h : TlAt w t r b bs sp P O won) (P' O' : Nat) :
    Calls Tryz.prog 148 #[.pointer (some ⟨t, 0, none⟩), spV P' O'] w fun e w' => e = .returned (.bool (decide (sizeN bs < O'))) ∧ Below w.heap.size w w' := by
  unfold spV
  have hz := fun o k => tsize ((h.alloc o).drew k)
  have hn := sizeN_bounds bs
  generalize sizeN bs = S at *
  go_enter Tryz.func148, Tryz.ntmps148
  go_wp2
  go_quiet ((go_at_call 147; exact Calls.quiet_of_same (hz _ _)))
  go_wp2
  go_ret
  exact ⟨ret_bool (by simp), below_drewN ((Below.refl _ _).alloc (Nat.le_refl _) _) _⟩
set_option maxHeartbeats 400000 in
theorem tlast (h : TlAt w t r b bs sp P O won) (p : Nat) :
    Calls Tryz.prog 170 #[.pointer (some ⟨t, 0, none⟩), .int .i64 (p : Int)] w fun e w' => e = .returned (.bool (decide (sp ≤ p + 1))) ∧ w' = w := by
  have c1 := h.c1
  have hs := h.hs
  go_enter Tryz.func170, Tryz.ntmps170
  go_wp2
  go_ret
  exact ⟨ret_bool (by simp; omega), rfl⟩
set_option maxHeartbeats 400000 in
theorem toffset (h : TlAt w t r b bs sp P O won) (P' O' : Nat) :
    Calls Tryz.prog 169 #[.pointer (some ⟨t, 0, none⟩), spV P' O'] w fun e w' => e = .returned (.int .i64 ((min O' (sizeN bs) : Nat) : Int)) ∧ Below w.heap.size w w' := by
  unfold spV
  have hz := fun o k => tsize ((h.alloc o).drew k)
  have hn := sizeN_bounds bs
  generalize sizeN bs = S at *
  have hm : min (O' : Int) (S : Int) = ((min O' S : Nat) : Int) := by omega
  generalize min O' S = M at *
  go_enter Tryz.func169, Tryz.ntmps169
  go_wp2
  go_quiet ((go_at_call 147; exact Calls.quiet_of_same (hz _ _)))
  go_wp2
  all_goals
    go_ret
    exact ⟨ret_int (by omega), below_drewN ((Below.refl _ _).alloc (Nat.le_refl _) _) _⟩
end
end Go.Proofs.YtfghfbmmaclcnaaGreat
namespace Go.Proofs.YtfghfbmmaclcnaaGreat
set_option maxRecDepth 20000
open Go.RowKit
theorem ofV_first (b : Int) (h : 5 ≤ b ∧ b ≤ 9) (p : Nat) (hp : p ≤ 1000) : ofV b (p : Int) 0 = p * sizeN b := by
  have hs := sizeN_bounds b
  have hq := sizeN_pos h
  have e : 2 ^ b.toNat = sizeN b := (sizeN_yes h).symm
  have hA : ofArg b (p : Int) 0 = false := by
    simp only [ofArg, decide_eq_false_iff_not, Decidable.not_not]
    exact ⟨h, by omega, by decide, by omega⟩
  have hm : p * sizeN b ≤ 1000 * 512 := Nat.mul_le_mul hp hs
  simp only [ofV, hA, Bool.false_eq_true, if_false, Int.toNat_natCast, e]
  rw [if_pos (by simp; omega)]
  simp
theorem fld_page (P O : Nat) : ∀ w : World, (Instr.field 157 (.agg #[.int .i64 (P : Int), .int .i64 (O : Int)]) 0).run Tryz.prog w = .ok (.int .i64 (P : Int)) w := fun _ => by kernel_rfl
section
variable {w : World} {t r b : Nat} {bs : Int} {sp P O won : Nat}
set_option maxHeartbeats 1000000 in
theorem taddr (h : TlAt w t r b bs sp P O won) (P' O' : Nat) (hP : P' ≤ 1000) (hO : O' ≤ 9223372036854775807) :
    Calls Tryz.prog 209 #[.pointer (some ⟨t, 0, none⟩), spV P' O'] w fun e w' => e = .returned (.int .u64 ((P' * sizeN bs + min O' (sizeN bs) : Nat) : Int)) ∧ Below w.heap.size w w' := by
  have hb := h.hb
  have hs := sizeN_bounds bs
  have hm : P' * sizeN bs ≤ 1000 * 512 := Nat.mul_le_mul hP hs
  have hF := fun (x : World) => first_any bs (P' : Int) x (by omega)
  rw [ofV_first bs hb P' hP] at hF
  have hT := fun (x : World) (hx : TlAt x t r b bs sp P O won) => toffset hx P' O'
  have hV : addV (P' * sizeN bs) ((min O' (sizeN bs) : Nat) : Int) = P' * sizeN bs + min O' (sizeN bs) := by
    simp only [addV, Int.toNat_natCast]
    rw [if_pos (by omega), if_pos (by omega)]
  have hE : addE (P' * sizeN bs) ((min O' (sizeN bs) : Nat) : Int) = 0 := by
    simp only [addE, Int.toNat_natCast]
    rw [if_pos (by omega), if_pos (by omega)]
  have hM : min O' (sizeN bs) ≤ 512 := by omega
  have hA := fun (x : World) => add_any (P' * sizeN bs) ((min O' (sizeN bs) : Nat) : Int) x (by omega)
  rw [hV, hE] at hA
  generalize P' * sizeN bs + min O' (sizeN bs) = A at *
  generalize P' * sizeN bs = F at *
  generalize min O' (sizeN bs) = M at *
  have h0 := h.alloc (Obj.cells #[.int .i64 (P' : Int), .int .i64 (O' : Int)] 157)
  have c0 := h0.c0
  have h1 := h0.drew 1
  have hB : Below w.heap.size w ((w.alloc (Obj.cells #[.int .i64 (P' : Int), .int .i64 (O' : Int)] 157)).drewN 1) := below_drewN ((Below.refl _ _).alloc (Nat.le_refl _) _) 1
  have hS : Hid (∀ y, Below ((w.alloc (Obj.cells #[.int .i64 (P' : Int), .int .i64 (O' : Int)] 157)).drewN 1).heap.size ((w.alloc (Obj.cells #[.int .i64 (P' : Int), .int .i64 (O' : Int)] 157)).drewN 1) y → y.cell? ⟨t, 0, none⟩ = some (.int .i64 bs) ∧ y.cell? ⟨w.heap.size, 0, none⟩ = some (.int .i64 (P' : Int)) ∧ y.cell? ⟨w.heap.size, 1, none⟩ = some (.int .i64 (O' : Int))) := fun y b1 =>
    ⟨by rw [b1.cell h1.lt]; exact h1.c0, by rw [b1.cell (by simp)]; simp, by rw [b1.cell (by simp)]; simp⟩
  clear hV hE hm hs
  unfold spV at *
  go_enter Tryz.func209, Tryz.ntmps209
  go_wp2
  go_region_held3 (fun W => W.cell? ⟨t, 0, none⟩ = some (.int .i64 bs) ∧ W.cell? ⟨w.heap.size, 0, none⟩ = some (.int .i64 (P' : Int)) ∧ W.cell? ⟨w.heap.size, 1, none⟩ = some (.int .i64 (O' : Int))) (first | assumption | go_keep | (simp; done)) (first | (go_at_call 227; refine (hF _).mono ?_; rintro e y1 ⟨rfl, b1⟩; have q1 := hS.out y1 b1) | (go_at_call 169; refine (hT y1 (h1.below b1)).mono ?_; rintro e y2 ⟨rfl, b2⟩; have b2' := b1.trans (b2.mono b1.size); have q2 := hS.out y2 b2') | (go_at_call 226; refine (hA _).mono ?_; rintro e y3 ⟨rfl, b3⟩; have b3' := b2'.trans (b3.mono b2'.size); have q3 := hS.out y3 b3'))
  go_wp2
  go_ret
  exact ⟨rfl, hB.trans (b3'.mono hB.size)⟩
set_option maxHeartbeats 400000 in
theorem tPage (h : TlAt w t r b bs sp P O won) :
    Calls Tryz.prog 39 #[.pointer (some ⟨t, 0, none⟩)] w fun e w' => e = .returned (.int .i64 (P : Int)) ∧ Below w.heap.size w w' := by
  go_enter Tryz.func39, Tryz.ntmps39
  go_wp2_with fail
  refine (tat h).mono ?_
  rintro e x ⟨rfl, b1⟩
  unfold spV
  have hfd := fld_page P O
  go_wp2
  go_ret
  exact ⟨rfl, b1⟩
set_option maxHeartbeats 400000 in
theorem tOffset (h : TlAt w t r b bs sp P O won) :
    Calls Tryz.prog 85 #[.pointer (some ⟨t, 0, none⟩)] w fun e w' => e = .returned (.int .i64 ((min O (sizeN bs) : Nat) : Int)) ∧ Below w.heap.size w w' := by
  go_enter Tryz.func85, Tryz.ntmps85
  go_wp2_with fail
  refine (tat h).mono ?_
  rintro e x ⟨rfl, b1⟩
  go_wp2_with fail
  refine (toffset (h.below b1) P O).mono ?_
  rintro e y ⟨rfl, b2⟩
  go_wp2
  go_ret
  exact ⟨rfl, b1.trans (b2.mono b1.size)⟩
set_option maxHeartbeats 400000 in
theorem tOver (h : TlAt w t r b bs sp P O won) :
    Calls Tryz.prog 82 #[.pointer (some ⟨t, 0, none⟩)] w fun e w' => e = .returned (.bool (decide (sizeN bs < O))) ∧ Below w.heap.size w w' := by
  have hv := fun (x : World) (hx : TlAt x t r b bs sp P O won) => tover hx P O
  generalize decide (sizeN bs < O) = d at *
  go_enter Tryz.func82, Tryz.ntmps82
  go_wp2_with fail
  refine (tat h).mono ?_
  rintro e x ⟨rfl, b1⟩
  go_wp2_with fail
  refine (hv _ (h.below b1)).mono ?_
  rintro e y ⟨rfl, b2⟩
  go_wp2
  go_ret
  exact ⟨rfl, b1.trans (b2.mono b1.size)⟩
set_option maxHeartbeats 400000 in
theorem tAddr (h : TlAt w t r b bs sp P O won) :
    Calls Tryz.prog 162 #[.pointer (some ⟨t, 0, none⟩)] w fun e w' => e = .returned (.int .u64 ((P * sizeN bs + min O (sizeN bs) : Nat) : Int)) ∧ Below w.heap.size w w' := by
  have hp := h.hp
  have hs := h.hs
  have ho := h.ho
  have hv := fun (x : World) (hx : TlAt x t r b bs sp P O won) => taddr hx P O (by omega) (by omega)
  generalize P * sizeN bs + min O (sizeN bs) = A at *
  go_enter Tryz.func162, Tryz.ntmps162
  go_wp2_with fail
  refine (tat h).mono ?_
  rintro e x ⟨rfl, b1⟩
  go_wp2_with fail
  refine (hv _ (h.below b1)).mono ?_
  rintro e y ⟨rfl, b2⟩
  go_wp2
  go_ret
  exact ⟨rfl, b1.trans (b2.mono b1.size)⟩
set_option maxHeartbeats 400000 in
theorem tLast (h : TlAt w t r b bs sp P O won) :
    Calls Tryz.prog 87 #[.pointer (some ⟨t, 0, none⟩)] w fun e w' => e = .returned (.bool (decide (sp ≤ P + 1))) ∧ Below w.heap.size w w' := by
  have hv := fun (x : World) (hx : TlAt x t r b bs sp P O won) => tlast hx P
  generalize decide (sp ≤ P + 1) = d at *
  go_enter Tryz.func87, Tryz.ntmps87
  go_wp2_with fail
  refine (tat h).mono ?_
  rintro e x ⟨rfl, b1⟩
  unfold spV
  have hfd := fld_page P O
  go_wp2_with fail
  refine (hv _ (h.below b1)).mono ?_
  rintro e y ⟨rfl, rfl⟩
  go_wp2
  go_ret
  exact ⟨rfl, b1⟩
/-- What comes of asking for n words at a place. -/
def roomK (S sp P O n : Nat) : Nat := if O + n ≤ S then 1 else if sp ≤ P + 1 then 4 else if S < O then 3 else 2
def roomA (S P O n : Nat) : Nat := if O + n ≤ S then P * S + O else 0
set_option maxHeartbeats 1000000 in
theorem troom (h : TlAt w t r b bs sp P O won) (P' O' n : Nat) (hP : P' ≤ 1000) (hO : O' ≤ 4294967296) (hn : n ≤ 4294967296) :
    Calls Tryz.prog 151 #[.pointer (some ⟨t, 0, none⟩), spV P' O', .int .i64 (n : Int)] w fun e w' => e = .returned (.tuple #[.int .u64 (roomA (sizeN bs) P' O' n : Int), .int .i64 (roomK (sizeN bs) sp P' O' n : Int)]) ∧ Below w.heap.size w w' := by
  have hb := h.hb
  have hs := sizeN_bounds bs
  have h0 := h.alloc (Obj.cells #[.int .i64 (P' : Int), .int .i64 (O' : Int)] 157)
  have hz := fun k => tsize (h0.drew k)
  have hB : Below w.heap.size w (w.alloc (Obj.cells #[.int .i64 (P' : Int), .int .i64 (O' : Int)] 157)) := (Below.refl _ _).alloc (Nat.le_refl _) _
  have hla := fun (x : World) (hx : TlAt x t r b bs sp P O won) => tlast hx P'
  have hov := fun (x : World) (hx : TlAt x t r b bs sp P O won) => tover hx P' O'
  have had := fun (x : World) (hx : TlAt x t r b bs sp P O won) => taddr hx P' O' hP (by omega)
  by_cases g1 : O' + n ≤ sizeN bs
  · have e1 : roomK (sizeN bs) sp P' O' n = 1 := by rw [roomK, if_pos g1]
    have e2 : roomA (sizeN bs) P' O' n = P' * sizeN bs + O' := by rw [roomA, if_pos g1]
    rw [e1, e2]
    rw [show min O' (sizeN bs) = O' by omega] at had
    generalize P' * sizeN bs + O' = A at *
    generalize sizeN bs = S at *
    clear e1 e2 hla hov h
    have HS := hide hs
    clear hs
    have g1' : decide ((O' : Int) + (n : Int) ≤ (S : Int)) = true := by simp; omega
    unfold spV at *
    go_enter Tryz.func151, Tryz.ntmps151
    go_wp2
    go_quiet ((go_at_call 147; exact Calls.quiet_of_same (hz _)))
    go_wp2_with fail
    refine (had _ (h0.drew _)).mono ?_
    rintro e y ⟨rfl, b2⟩
    go_wp2
    go_ret2
    exact ⟨rfl, (below_drewN hB _).trans (b2.mono (below_drewN hB _).size)⟩
  · have g1' : decide ((O' : Int) + (n : Int) ≤ (sizeN bs : Int)) = false := by simp; omega
    have e2 : roomA (sizeN bs) P' O' n = 0 := by rw [roomA, if_neg g1]
    rw [e2]
    have c0 : ∀ k, ((w.alloc (Obj.cells #[.int .i64 (P' : Int), .int .i64 (O' : Int)] 157)).drewN k).cell? ⟨w.heap.size, 0, none⟩ = some (.int .i64 (P' : Int)) := fun k => by simp
    by_cases g2 : sp ≤ P' + 1
    · have e1 : roomK (sizeN bs) sp P' O' n = 4 := by rw [roomK, if_neg g1, if_pos g2]
      rw [e1]
      have g2' : decide (sp ≤ P' + 1) = true := by simp; omega
      rw [g2'] at hla
      generalize sizeN bs = S at *
      clear e1 e2 h had hov hs
      unfold spV at *
      go_enter Tryz.func151, Tryz.ntmps151
      go_wp2
      go_quiet ((go_at_call 147; exact Calls.quiet_of_same (hz _)))
      go_wp2_with fail
      refine (hla _ (h0.drew _)).mono ?_
      rintro e y ⟨rfl, rfl⟩
      go_wp2
      go_ret2
      exact ⟨rfl, below_drewN hB _⟩
    have g2' : decide (sp ≤ P' + 1) = false := by simp; omega
    rw [g2'] at hla
    by_cases g3 : sizeN bs < O'
    · have e1 : roomK (sizeN bs) sp P' O' n = 3 := by rw [roomK, if_neg g1, if_neg g2, if_pos g3]
      rw [e1]
      have g3' : decide (sizeN bs < O') = true := by simp; omega
      rw [g3'] at hov
      generalize sizeN bs = S at *
      clear e1 e2 h had hs
      unfold spV at *
      go_enter Tryz.func151, Tryz.ntmps151
      go_wp2
      go_quiet ((go_at_call 147; exact Calls.quiet_of_same (hz _)))
      go_wp2_with fail
      refine (hla _ (h0.drew _)).mono ?_
      rintro e y ⟨rfl, rfl⟩
      go_wp2_with fail
      refine (hov _ (h0.drew _)).mono ?_
      rintro e y ⟨rfl, b2⟩
      go_wp2
      go_ret2
      exact ⟨rfl, (below_drewN hB _).trans (b2.mono (below_drewN hB _).size)⟩
    · have e1 : roomK (sizeN bs) sp P' O' n = 2 := by rw [roomK, if_neg g1, if_neg g2, if_neg g3]
      rw [e1]
      have g3' : decide (sizeN bs < O') = false := by simp; omega
      rw [g3'] at hov
      generalize sizeN bs = S at *
      clear e1 e2 h had hs
      unfold spV at *
      go_enter Tryz.func151, Tryz.ntmps151
      go_wp2
      go_quiet ((go_at_call 147; exact Calls.quiet_of_same (hz _)))
      go_wp2_with fail
      refine (hla _ (h0.drew _)).mono ?_
      rintro e y ⟨rfl, rfl⟩
      go_wp2_with fail
      refine (hov _ (h0.drew _)).mono ?_
      rintro e y ⟨rfl, b2⟩
      go_wp2
      go_ret2
      exact ⟨rfl, (below_drewN hB _).trans (b2.mono (below_drewN hB _).size)⟩
end
end Go.Proofs.YtfghfbmmaclcnaaGreat
namespace Go.Proofs.YtfghfbmmaclcnaaGreat
set_option maxRecDepth 20000
open Go.RowKit
theorem spI_nat (P O : Nat) : (P : Int) * 4294967296 + (O : Int) = (spN P O : Int) := by unfold spN; omega
theorem tword_any (P O : Int) (hP : 0 ≤ P ∧ P < 4294967296) (hO : 0 ≤ O ∧ O < 4294967296) (w : World) :
    Calls Tryz.prog 164 #[.agg #[.int .i64 P, .int .i64 O]] w fun e w' => e = .returned (.int .u64 (P * 4294967296 + O)) ∧ Below w.heap.size w w' := by
  obtain ⟨p, rfl⟩ := Int.eq_ofNat_of_zero_le hP.1
  obtain ⟨o, rfl⟩ := Int.eq_ofNat_of_zero_le hO.1
  rw [spI_nat]
  exact tword p o (by omega) (by omega) w
theorem TlAt.out {w : World} {t r b : Nat} {bs : Int} {sp P O won : Nat} (h : TlAt w t r b bs sp P O won) : ¬ InRow r b t := fun e => by
  rcases e with e | e
  · exact h.nr e.symm
  · exact h.nb e.symm
theorem TlAt.turned {w w' : World} {t r b : Nat} {bs : Int} {sp P O won P' O' won' : Nat} (h : TlAt w t r b bs sp P O won) (hk : Keeps (InRow r b) w w')
    (hr : RowIs w' r b 1 (updV (fun _ => (spN P O : Int)) 0 (spN P' O' : Int)) (won' : Int) 0) (hp : P' < sp) (ho : O' ≤ 1024) : TlAt w' t r b bs sp P' O' won' := by
  have hl := h.lt
  have ht := h.out
  exact ⟨by rw [hk.cell hl ht]; exact h.c0, by rw [hk.cell hl ht]; exact h.c1, by rw [hk.cell hl ht]; exact h.c2, hr.same (fun i hi => by rw [show i = 0 by omega, updV_same]), h.nb, h.nr, h.hb, h.hs, hp, ho⟩
section
variable {w : World} {t r b : Nat} {bs : Int} {sp P O won : Nat}
set_option maxHeartbeats 1000000 in
theorem tnext_last (h : TlAt w t r b bs sp P O won) (hl : sp ≤ P + 1) :
    Calls Tryz.prog 168 #[.pointer (some ⟨t, 0, none⟩), spV P O] w fun e w' => e = .returned (.tuple #[.bool true, .int .i64 9]) ∧ Below w.heap.size w w' := by
  have hla := tlast (h.alloc (Obj.cells #[.int .i64 (P : Int), .int .i64 (O : Int)] 157)) P
  rw [show decide (sp ≤ P + 1) = true by simp; omega] at hla
  clear h
  unfold spV
  go_enter Tryz.func168, Tryz.ntmps168
  go_wp2_with fail
  refine hla.mono ?_
  rintro e y ⟨rfl, rfl⟩
  go_wp2
  go_ret2
  exact ⟨rfl, (Below.refl _ _).alloc (Nat.le_refl _) _⟩
set_option maxHeartbeats 1000000 in
theorem tnext_on (h : TlAt w t r b bs sp P O won) (hl : ¬ sp ≤ P + 1) (hw : won ≤ 1000000) :
    Calls Tryz.prog 168 #[.pointer (some ⟨t, 0, none⟩), spV P O] w fun e w' => e = .returned (.tuple #[.bool true, .int .i64 0]) ∧ TlAt w' t r b bs sp (P + 1) 0 (won + 1) ∧ Keeps (InRow r b) w w' := by
  have h0 := h.alloc (Obj.cells #[.int .i64 (P : Int), .int .i64 (O : Int)] 157)
  have hla := tlast h0 P
  rw [show decide (sp ≤ P + 1) = false by simp; omega] at hla
  have hp := h.hp
  have hs := h.hs
  have ho := h.ho
  have c2 := h0.c2
  have h1 := h0.drew 1
  have hX := hide (spI_nat P O)
  have hY : Hid (((P : Int) + 1) * 4294967296 + 0 = (spN (P + 1) 0 : Int)) := by rw [← spI_nat]; simp [Hid]
  have hB : Below w.heap.size w ((w.alloc (Obj.cells #[.int .i64 (P : Int), .int .i64 (O : Int)] 157)).drewN 1) := below_drewN ((Below.refl _ _).alloc (Nat.le_refl _) _) 1
  have hS : Hid (∀ y, Below ((w.alloc (Obj.cells #[.int .i64 (P : Int), .int .i64 (O : Int)] 157)).drewN 1).heap.size ((w.alloc (Obj.cells #[.int .i64 (P : Int), .int .i64 (O : Int)] 157)).drewN 1) y → y.cell? ⟨t, 2, none⟩ = some (.pointer (some ⟨r, 0, none⟩)) ∧ y.cell? ⟨w.heap.size, 0, none⟩ = some (.int .i64 (P : Int)) ∧ y.cell? ⟨w.heap.size, 1, none⟩ = some (.int .i64 (O : Int))) := fun y b1 =>
    ⟨by rw [b1.cell h1.lt]; exact h1.c2, by rw [b1.cell (by simp)]; simp, by rw [b1.cell (by simp)]; simp⟩
  have hnt : ¬ InRow r b t := h.out
  have hwr : Hid (IntKind.i64.wrap ((P : Int) + 1) = (P : Int) + 1) := by
    have := i64_of_natT (n := P + 1) (by omega)
    rw [show ((P + 1 : Nat) : Int) = (P : Int) + 1 by omega] at this
    exact this
  have hnw : ¬ InRow r b w.heap.size := fun e => by
    have hbl : b < w.heap.size := World.block_lt_of_cell? w _ (h.row.cs 0 (by decide))
    have hrl : r < w.heap.size := World.block_lt_of_cell? w _ h.row.c0
    rcases e with e | e <;> omega
  clear h
  unfold spV
  go_enter Tryz.func168, Tryz.ntmps168
  go_wp2_with fail
  refine hla.mono ?_
  rintro e y ⟨rfl, rfl⟩
  go_wp2
  go_region_held3 (fun W => W.cell? ⟨t, 2, none⟩ = some (.pointer (some ⟨r, 0, none⟩)) ∧ W.cell? ⟨w.heap.size, 0, none⟩ = some (.int .i64 (P : Int)) ∧ W.cell? ⟨w.heap.size, 1, none⟩ = some (.int .i64 (O : Int))) (first | assumption | go_keep | (simp; done)) (first | (go_at_call 164; refine (tword_any _ _ (by omega) (by omega) _).mono ?_; rintro e y1 ⟨rfl, b1⟩; rw [hX.out]; have q1 := hS.out y1 b1) | (go_at_call 164; rw [hwr.out]; refine (tword_any _ _ (by omega) (by omega) _).mono ?_; rintro e y2 ⟨rfl, b2⟩; rw [hY.out]; have b2' := b1.trans (b2.mono b1.size); have q2 := hS.out y2 b2'; have h2 := h1.below b2') | (go_at_call 124; refine (kcas_hit h2.row 0 (by decide) ((spN P O : Nat) : Int) rfl ((spN (P + 1) 0 : Nat) : Int) (by omega)).mono ?_; rintro e y3 ⟨rfl, hr3, k3⟩; have q3 : y3.cell? ⟨t, 2, none⟩ = some (.pointer (some ⟨r, 0, none⟩)) ∧ y3.cell? ⟨w.heap.size, 0, none⟩ = some (.int .i64 (P : Int)) ∧ y3.cell? ⟨w.heap.size, 1, none⟩ = some (.int .i64 (O : Int)) := ⟨by rw [k3.cell h2.lt hnt]; exact q2.1, by rw [k3.cell (World.block_lt_of_cell? y2 _ q2.2.1) hnw]; exact q2.2.1, by rw [k3.cell (World.block_lt_of_cell? y2 _ q2.2.2) hnw]; exact q2.2.2⟩))
  go_wp2
  go_ret2
  have h3 : TlAt y3 t r b bs sp (P + 1) 0 (won + 1) := h2.turned k3 (by rw [show ((won + 1 : Nat) : Int) = (won : Int) + 1 by omega]; exact hr3) (by omega) (by omega)
  have hB2 := hB.trans (b2'.mono hB.size)
  exact ⟨rfl, h3, (Below.keeps hB2).trans k3 (fun _ _ h => h)⟩
end
end Go.Proofs.YtfghfbmmaclcnaaGreat
namespace Go.Proofs.YtfghfbmmaclcnaaGreat
set_option maxRecDepth 20000
open Go.RowKit
section
variable {w : World} {t r b : Nat} {bs : Int} {sp P O won : Nat}
set_option maxHeartbeats 1000000 in
theorem tTurn_no (h : TlAt w t r b bs sp P O won) (hl : O ≤ sizeN bs) :
    Calls Tryz.prog 84 #[.pointer (some ⟨t, 0, none⟩)] w fun e w' => e = .returned (.int .i64 7) ∧ Below w.heap.size w w' := by
  have hov := fun (x : World) (hx : TlAt x t r b bs sp P O won) => tover hx P O
  rw [show decide (sizeN bs < O) = false by simp; omega] at hov
  go_enter Tryz.func84, Tryz.ntmps84
  go_wp2_with fail
  refine (tat h).mono ?_
  rintro e y ⟨rfl, b1⟩
  have h1 := (h.below b1).alloc (Obj.cells #[.int .i64 (P : Int), .int .i64 (O : Int)] 157)
  have hB : Below w.heap.size w (y.alloc (Obj.cells #[.int .i64 (P : Int), .int .i64 (O : Int)] 157)) := b1.alloc b1.size _
  clear h b1
  unfold spV at *
  go_wp2
  go_loopw [3] (fun i wr => i = .pointer (some ⟨y.heap.size, 0, none⟩) ∧ wr = y.alloc (Obj.cells #[.int .i64 (P : Int), .int .i64 (O : Int)] 157)) (fun _ _ => 0)
  case atStart => exact ⟨rfl, rfl⟩
  case round =>
    obtain ⟨rfl, rfl⟩ := hrel
    go_wp2_with fail
    refine (hov _ h1).mono ?_
    rintro e z ⟨rfl, b2⟩
    go_wp2
    go_ret
    exact ⟨rfl, hB.trans (b2.mono hB.size)⟩
set_option maxHeartbeats 1000000 in
theorem tTurn_last (h : TlAt w t r b bs sp P O won) (hl : sizeN bs < O) (hp : sp ≤ P + 1) :
    Calls Tryz.prog 84 #[.pointer (some ⟨t, 0, none⟩)] w fun e w' => e = .returned (.int .i64 9) ∧ Below w.heap.size w w' := by
  have hov := fun (x : World) (hx : TlAt x t r b bs sp P O won) => tover hx P O
  rw [show decide (sizeN bs < O) = true by simp; omega] at hov
  have hnx := fun (x : World) (hx : TlAt x t r b bs sp P O won) => tnext_last hx hp
  go_enter Tryz.func84, Tryz.ntmps84
  go_wp2_with fail
  refine (tat h).mono ?_
  rintro e y ⟨rfl, b1⟩
  have h1 := (h.below b1).alloc (Obj.cells #[.int .i64 (P : Int), .int .i64 (O : Int)] 157)
  have hB : Below w.heap.size w (y.alloc (Obj.cells #[.int .i64 (P : Int), .int .i64 (O : Int)] 157)) := b1.alloc b1.size _
  clear h b1
  unfold spV at *
  go_wp2
  go_loopw [3] (fun i wr => i = .pointer (some ⟨y.heap.size, 0, none⟩) ∧ wr = y.alloc (Obj.cells #[.int .i64 (P : Int), .int .i64 (O : Int)] 157)) (fun _ _ => 0)
  case atStart => exact ⟨rfl, rfl⟩
  case round =>
    obtain ⟨rfl, rfl⟩ := hrel
    go_wp2_with fail
    refine (hov _ h1).mono ?_
    rintro e z ⟨rfl, b2⟩
    have c0 : z.cell? ⟨y.heap.size, 0, none⟩ = some (.int .i64 (P : Int)) := by rw [b2.cell (by simp)]; simp
    have c1 : z.cell? ⟨y.heap.size, 1, none⟩ = some (.int .i64 (O : Int)) := by rw [b2.cell (by simp)]; simp
    go_wp2_with fail
    refine (hnx _ (h1.below b2)).mono ?_
    rintro e z3 ⟨rfl, b3⟩
    go_wp2
    go_ret
    exact ⟨rfl, (hB.trans (b2.mono hB.size)).trans (b3.mono (hB.trans (b2.mono hB.size)).size)⟩
set_option maxHeartbeats 1000000 in
theorem tTurn_on (h : TlAt w t r b bs sp P O won) (hl : sizeN bs < O) (hp : ¬ sp ≤ P + 1) (hw : won ≤ 1000000) :
    Calls Tryz.prog 84 #[.pointer (some ⟨t, 0, none⟩)] w fun e w' => e = .returned (.int .i64 0) ∧ TlAt w' t r b bs sp (P + 1) 0 (won + 1) ∧ Keeps (InRow r b) w w' := by
  have hov := fun (x : World) (hx : TlAt x t r b bs sp P O won) => tover hx P O
  rw [show decide (sizeN bs < O) = true by simp; omega] at hov
  have hnx := fun (x : World) (hx : TlAt x t r b bs sp P O won) => tnext_on hx hp hw
  go_enter Tryz.func84, Tryz.ntmps84
  go_wp2_with fail
  refine (tat h).mono ?_
  rintro e y ⟨rfl, b1⟩
  have h1 := (h.below b1).alloc (Obj.cells #[.int .i64 (P : Int), .int .i64 (O : Int)] 157)
  have hB : Below w.heap.size w (y.alloc (Obj.cells #[.int .i64 (P : Int), .int .i64 (O : Int)] 157)) := b1.alloc b1.size _
  clear h b1
  unfold spV at *
  go_wp2
  go_loopw [3] (fun i wr => i = .pointer (some ⟨y.heap.size, 0, none⟩) ∧ wr = y.alloc (Obj.cells #[.int .i64 (P : Int), .int .i64 (O : Int)] 157)) (fun _ _ => 0)
  case atStart => exact ⟨rfl, rfl⟩
  case round =>
    obtain ⟨rfl, rfl⟩ := hrel
    go_wp2_with fail
    refine (hov _ h1).mono ?_
    rintro e z ⟨rfl, b2⟩
    have c0 : z.cell? ⟨y.heap.size, 0, none⟩ = some (.int .i64 (P : Int)) := by rw [b2.cell (by simp)]; simp
    have c1 : z.cell? ⟨y.heap.size, 1, none⟩ = some (.int .i64 (O : Int)) := by rw [b2.cell (by simp)]; simp
    go_wp2_with fail
    refine (hnx _ (h1.below b2)).mono ?_
    rintro e z3 ⟨rfl, h3, k3⟩
    go_wp2
    go_ret
    exact ⟨rfl, h3, (Below.keeps (hB.trans (b2.mono hB.size))).trans k3 (fun _ _ h => h)⟩
set_option maxHeartbeats 1000000 in
theorem tClose_no (h : TlAt w t r b bs sp P O won) (hl : O = 0) :
    Calls Tryz.prog 86 #[.pointer (some ⟨t, 0, none⟩)] w fun e w' => e = .returned (.int .i64 0) ∧ Below w.heap.size w w' := by
  replace hl : ¬ 0 < O := by omega
  go_enter Tryz.func86, Tryz.ntmps86
  go_wp2_with fail
  refine (tat h).mono ?_
  rintro e y ⟨rfl, b1⟩
  have h1 := (h.below b1).alloc (Obj.cells #[.int .i64 (P : Int), .int .i64 (O : Int)] 157)
  have hB : Below w.heap.size w (y.alloc (Obj.cells #[.int .i64 (P : Int), .int .i64 (O : Int)] 157)) := b1.alloc b1.size _
  clear h b1
  unfold spV at *
  go_wp2
  go_loopw [3] (fun i wr => i = .pointer (some ⟨y.heap.size, 0, none⟩) ∧ wr = y.alloc (Obj.cells #[.int .i64 (P : Int), .int .i64 (O : Int)] 157)) (fun _ _ => 0)
  case atStart => exact ⟨rfl, rfl⟩
  case round =>
    obtain ⟨rfl, rfl⟩ := hrel
    go_wp2
    go_ret
    exact ⟨rfl, hB⟩
set_option maxHeartbeats 1000000 in
theorem tClose_last (h : TlAt w t r b bs sp P O won) (hl : 0 < O) (hp : sp ≤ P + 1) :
    Calls Tryz.prog 86 #[.pointer (some ⟨t, 0, none⟩)] w fun e w' => e = .returned (.int .i64 9) ∧ Below w.heap.size w w' := by
  have hnx := fun (x : World) (hx : TlAt x t r b bs sp P O won) => tnext_last hx hp
  go_enter Tryz.func86, Tryz.ntmps86
  go_wp2_with fail
  refine (tat h).mono ?_
  rintro e y ⟨rfl, b1⟩
  have h1 := (h.below b1).alloc (Obj.cells #[.int .i64 (P : Int), .int .i64 (O : Int)] 157)
  have hB : Below w.heap.size w (y.alloc (Obj.cells #[.int .i64 (P : Int), .int .i64 (O : Int)] 157)) := b1.alloc b1.size _
  clear h b1
  unfold spV at *
  go_wp2
  go_loopw [3] (fun i wr => i = .pointer (some ⟨y.heap.size, 0, none⟩) ∧ wr = y.alloc (Obj.cells #[.int .i64 (P : Int), .int .i64 (O : Int)] 157)) (fun _ _ => 0)
  case atStart => exact ⟨rfl, rfl⟩
  case round =>
    obtain ⟨rfl, rfl⟩ := hrel
    go_wp2_with fail
    refine (hnx _ h1).mono ?_
    rintro e z3 ⟨rfl, b3⟩
    go_wp2
    go_ret
    exact ⟨rfl, hB.trans (b3.mono hB.size)⟩
set_option maxHeartbeats 1000000 in
theorem tClose_on (h : TlAt w t r b bs sp P O won) (hl : 0 < O) (hp : ¬ sp ≤ P + 1) (hw : won ≤ 1000000) :
    Calls Tryz.prog 86 #[.pointer (some ⟨t, 0, none⟩)] w fun e w' => e = .returned (.int .i64 0) ∧ TlAt w' t r b bs sp (P + 1) 0 (won + 1) ∧ Keeps (InRow r b) w w' := by
  have hnx := fun (x : World) (hx : TlAt x t r b bs sp P O won) => tnext_on hx hp hw
  go_enter Tryz.func86, Tryz.ntmps86
  go_wp2_with fail
  refine (tat h).mono ?_
  rintro e y ⟨rfl, b1⟩
  have h1 := (h.below b1).alloc (Obj.cells #[.int .i64 (P : Int), .int .i64 (O : Int)] 157)
  have hB : Below w.heap.size w (y.alloc (Obj.cells #[.int .i64 (P : Int), .int .i64 (O : Int)] 157)) := b1.alloc b1.size _
  clear h b1
  unfold spV at *
  go_wp2
  go_loopw [3] (fun i wr => i = .pointer (some ⟨y.heap.size, 0, none⟩) ∧ wr = y.alloc (Obj.cells #[.int .i64 (P : Int), .int .i64 (O : Int)] 157)) (fun _ _ => 0)
  case atStart => exact ⟨rfl, rfl⟩
  case round =>
    obtain ⟨rfl, rfl⟩ := hrel
    go_wp2_with fail
    refine (hnx _ h1).mono ?_
    rintro e z3 ⟨rfl, h3, k3⟩
    go_wp2
    go_ret
    exact ⟨rfl, h3, (Below.keeps hB).trans k3 (fun _ _ h => h)⟩
/-- What Turn and Close tell, and where the tail is behind them. -/
def turnE (S sp P O : Nat) : Int := if O ≤ S then 7 else if sp ≤ P + 1 then 9 else 0
def turnPT (S sp P O : Nat) : Nat := if O ≤ S ∨ sp ≤ P + 1 then P else P + 1
def turnO (S sp P O : Nat) : Nat := if O ≤ S ∨ sp ≤ P + 1 then O else 0
def closeE (sp P O : Nat) : Int := if O = 0 then 0 else if sp ≤ P + 1 then 9 else 0
def closeP (sp P O : Nat) : Nat := if O = 0 ∨ sp ≤ P + 1 then P else P + 1
def closeO (sp P O : Nat) : Nat := if O = 0 ∨ sp ≤ P + 1 then O else 0
theorem tTurn (h : TlAt w t r b bs sp P O won) (hw : won ≤ 1000000) :
    Calls Tryz.prog 84 #[.pointer (some ⟨t, 0, none⟩)] w fun e w' => e = .returned (.int .i64 (turnE (sizeN bs) sp P O)) ∧ (∃ won', won' ≤ won + 1 ∧ TlAt w' t r b bs sp (turnPT (sizeN bs) sp P O) (turnO (sizeN bs) sp P O) won') ∧ Keeps (InRow r b) w w' := by
  unfold turnE turnPT turnO
  by_cases g1 : O ≤ sizeN bs
  · rw [if_pos g1, if_pos (.inl g1), if_pos (.inl g1)]
    exact (tTurn_no h g1).mono fun e w' ⟨h1, h2⟩ => ⟨h1, ⟨won, by omega, h.below h2⟩, Below.keeps h2⟩
  · by_cases g2 : sp ≤ P + 1
    · rw [if_neg g1, if_pos g2, if_pos (.inr g2), if_pos (.inr g2)]
      exact (tTurn_last h (by omega) g2).mono fun e w' ⟨h1, h2⟩ => ⟨h1, ⟨won, by omega, h.below h2⟩, Below.keeps h2⟩
    · rw [if_neg g1, if_neg g2, if_neg (by omega), if_neg (by omega)]
      exact (tTurn_on h (by omega) g2 hw).mono fun e w' ⟨h1, h2, h3⟩ => ⟨h1, ⟨won + 1, by omega, h2⟩, h3⟩
theorem tClose (h : TlAt w t r b bs sp P O won) (hw : won ≤ 1000000) :
    Calls Tryz.prog 86 #[.pointer (some ⟨t, 0, none⟩)] w fun e w' => e = .returned (.int .i64 (closeE sp P O)) ∧ (∃ won', won' ≤ won + 1 ∧ TlAt w' t r b bs sp (closeP sp P O) (closeO sp P O) won') ∧ Keeps (InRow r b) w w' := by
  unfold closeE closeP closeO
  by_cases g1 : O = 0
  · rw [if_pos g1, if_pos (.inl g1), if_pos (.inl g1)]
    exact (tClose_no h g1).mono fun e w' ⟨h1, h2⟩ => ⟨h1, ⟨won, by omega, h.below h2⟩, Below.keeps h2⟩
  · by_cases g2 : sp ≤ P + 1
    · rw [if_neg g1, if_pos g2, if_pos (.inr g2), if_pos (.inr g2)]
      exact (tClose_last h (by omega) g2).mono fun e w' ⟨h1, h2⟩ => ⟨h1, ⟨won, by omega, h.below h2⟩, Below.keeps h2⟩
    · rw [if_neg g1, if_neg g2, if_neg (by omega), if_neg (by omega)]
      exact (tClose_on h (by omega) g2 hw).mono fun e w' ⟨h1, h2, h3⟩ => ⟨h1, ⟨won + 1, by omega, h2⟩, h3⟩
end
end Go.Proofs.YtfghfbmmaclcnaaGreat
namespace Go.Proofs.YtfghfbmmaclcnaaGreat
set_option maxRecDepth 20000
open Go.RowKit
theorem TlAt.new {w : World} {t r b : Nat} {bs : Int} {sp P O won : Nat} (h : TlAt w t r b bs sp P O won) : ¬ InRow r b w.heap.size := fun e => by
  have hbl : b < w.heap.size := World.block_lt_of_cell? w _ (h.row.cs 0 (by decide))
  have hrl : r < w.heap.size := World.block_lt_of_cell? w _ h.row.c0
  rcases e with e | e <;> omega
section
variable {w : World} {t r b : Nat} {bs : Int} {sp P O won : Nat}
set_option maxHeartbeats 1000000 in
theorem tBegin_no (h : TlAt w t r b bs sp P O won) (p : Int) (hp : p < 0 ∨ (sp : Int) ≤ p) :
    Calls Tryz.prog 79 #[.pointer (some ⟨t, 0, none⟩), .int .i64 p] w fun e w' => e = .returned (.int .i64 1) ∧ w' = w := by
  have c1 := h.c1
  by_cases hp0 : p < 0
  · go_enter Tryz.func79, Tryz.ntmps79
    go_wp2
    go_ret
    exact ⟨rfl, rfl⟩
  · have hp1 : (sp : Int) ≤ p := by omega
    go_enter Tryz.func79, Tryz.ntmps79
    go_wp2
    go_ret
    exact ⟨rfl, rfl⟩
set_option maxHeartbeats 1000000 in
theorem tBegin_yes (h : TlAt w t r b bs sp P O won) (p : Nat) (hp : p < sp) :
    Calls Tryz.prog 79 #[.pointer (some ⟨t, 0, none⟩), .int .i64 (p : Int)] w fun e w' => e = .returned (.int .i64 0) ∧ TlAt w' t r b bs sp p (if p = 0 then 1 else 0) won ∧ Keeps (InRow r b) w w' := by
  have c1 := h.c1
  have hs := h.hs
  by_cases h0 : p = 0
  · subst h0
    rw [if_pos rfl]
    have c1' : decide (sp ≤ 0) = false := by simp; omega
    have h0 := h.alloc (Obj.cells #[.int .i64 0, .int .i64 1] 157)
    have c2 := h0.c2
    have h1 := h0.drew 1
    have hX : Hid (0 * 4294967296 + 1 = (spN 0 1 : Int)) := by unfold spN Hid; omega
    have hB : Below w.heap.size w ((w.alloc (Obj.cells #[.int .i64 0, .int .i64 1] 157)).drewN 1) := below_drewN ((Below.refl _ _).alloc (Nat.le_refl _) _) 1
    have hS : Hid (∀ y, Below ((w.alloc (Obj.cells #[.int .i64 0, .int .i64 1] 157)).drewN 1).heap.size ((w.alloc (Obj.cells #[.int .i64 0, .int .i64 1] 157)).drewN 1) y → y.cell? ⟨t, 2, none⟩ = some (.pointer (some ⟨r, 0, none⟩)) ∧ y.cell? ⟨w.heap.size, 0, none⟩ = some (.int .i64 0) ∧ y.cell? ⟨w.heap.size, 1, none⟩ = some (.int .i64 1)) := fun y b1 =>
      ⟨by rw [b1.cell h1.lt]; exact h1.c2, by rw [b1.cell (by simp)]; simp, by rw [b1.cell (by simp)]; simp⟩
    have hnt : ¬ InRow r b t := h.out
    have hnw : ¬ InRow r b w.heap.size := h.new
    clear h
    go_enter Tryz.func79, Tryz.ntmps79
    go_wp2
    go_region_held3 (fun W => W.cell? ⟨t, 2, none⟩ = some (.pointer (some ⟨r, 0, none⟩)) ∧ W.cell? ⟨w.heap.size, 0, none⟩ = some (.int .i64 0) ∧ W.cell? ⟨w.heap.size, 1, none⟩ = some (.int .i64 1)) (first | assumption | go_keep | (simp; done)) (first | (go_at_call 164; refine (tword_any _ _ (by omega) (by omega) _).mono ?_; rintro e y2 ⟨rfl, b2⟩; rw [hX.out]; have q2 := hS.out y2 b2; have h2 := h1.below b2) | (go_at_call 127; refine (kstore h2.row 0 (by decide) ((spN 0 1 : Nat) : Int)).mono ?_; rintro e y3 ⟨rfl, hr3, k3⟩; have q3 : y3.cell? ⟨t, 2, none⟩ = some (.pointer (some ⟨r, 0, none⟩)) ∧ y3.cell? ⟨w.heap.size, 0, none⟩ = some (.int .i64 0) ∧ y3.cell? ⟨w.heap.size, 1, none⟩ = some (.int .i64 1) := ⟨by rw [k3.cell h2.lt hnt]; exact q2.1, by rw [k3.cell (World.block_lt_of_cell? y2 _ q2.2.1) hnw]; exact q2.2.1, by rw [k3.cell (World.block_lt_of_cell? y2 _ q2.2.2) hnw]; exact q2.2.2⟩))
    go_wp2
    go_ret
    have hB2 := hB.trans (b2.mono hB.size)
    exact ⟨rfl, h2.turned k3 hr3 (by omega) (by omega), (Below.keeps hB2).trans k3 (fun _ _ h => h)⟩
  · rw [if_neg h0]
    have c1' : decide (sp ≤ p) = false := by simp; omega
    have z0 : ((p : Int) == 0) = false := by simp; omega
    have z1 : decide (p = 0) = false := by simp; omega
    have h0 := h.alloc (Obj.cells #[.int .i64 (p : Int), .int .i64 0] 157)
    have c2 := h0.c2
    have h1 := h0.drew 1
    have hX : Hid ((p : Int) * 4294967296 + 0 = (spN p 0 : Int)) := by unfold spN Hid; omega
    have hB : Below w.heap.size w ((w.alloc (Obj.cells #[.int .i64 (p : Int), .int .i64 0] 157)).drewN 1) := below_drewN ((Below.refl _ _).alloc (Nat.le_refl _) _) 1
    have hS : Hid (∀ y, Below ((w.alloc (Obj.cells #[.int .i64 (p : Int), .int .i64 0] 157)).drewN 1).heap.size ((w.alloc (Obj.cells #[.int .i64 (p : Int), .int .i64 0] 157)).drewN 1) y → y.cell? ⟨t, 2, none⟩ = some (.pointer (some ⟨r, 0, none⟩)) ∧ y.cell? ⟨w.heap.size, 0, none⟩ = some (.int .i64 (p : Int)) ∧ y.cell? ⟨w.heap.size, 1, none⟩ = some (.int .i64 0)) := fun y b1 =>
      ⟨by rw [b1.cell h1.lt]; exact h1.c2, by rw [b1.cell (by simp)]; simp, by rw [b1.cell (by simp)]; simp⟩
    have hnt : ¬ InRow r b t := h.out
    have hnw : ¬ InRow r b w.heap.size := h.new
    clear h
    go_enter Tryz.func79, Tryz.ntmps79
    go_wp2
    go_region_held3 (fun W => W.cell? ⟨t, 2, none⟩ = some (.pointer (some ⟨r, 0, none⟩)) ∧ W.cell? ⟨w.heap.size, 0, none⟩ = some (.int .i64 (p : Int)) ∧ W.cell? ⟨w.heap.size, 1, none⟩ = some (.int .i64 0)) (first | assumption | go_keep | (simp; done)) (first | (go_at_call 164; refine (tword_any _ _ (by omega) (by omega) _).mono ?_; rintro e y2 ⟨rfl, b2⟩; rw [hX.out]; have q2 := hS.out y2 b2; have h2 := h1.below b2) | (go_at_call 127; refine (kstore h2.row 0 (by decide) ((spN p 0 : Nat) : Int)).mono ?_; rintro e y3 ⟨rfl, hr3, k3⟩; have q3 : y3.cell? ⟨t, 2, none⟩ = some (.pointer (some ⟨r, 0, none⟩)) ∧ y3.cell? ⟨w.heap.size, 0, none⟩ = some (.int .i64 (p : Int)) ∧ y3.cell? ⟨w.heap.size, 1, none⟩ = some (.int .i64 0) := ⟨by rw [k3.cell h2.lt hnt]; exact q2.1, by rw [k3.cell (World.block_lt_of_cell? y2 _ q2.2.1) hnw]; exact q2.2.1, by rw [k3.cell (World.block_lt_of_cell? y2 _ q2.2.2) hnw]; exact q2.2.2⟩))
    go_wp2
    go_ret
    have hB2 := hB.trans (b2.mono hB.size)
    exact ⟨rfl, h2.turned k3 hr3 (by omega) (by omega), (Below.keeps hB2).trans k3 (fun _ _ h => h)⟩
/-- What Begin tells, and where the tail is behind it. -/
def tbegE (sp : Nat) (p : Int) : Int := if p < 0 ∨ (sp : Int) ≤ p then 1 else 0
def tbegP (sp P : Nat) (p : Int) : Nat := if p < 0 ∨ (sp : Int) ≤ p then P else p.toNat
def tbegO (sp O : Nat) (p : Int) : Nat := if p < 0 ∨ (sp : Int) ≤ p then O else if p.toNat = 0 then 1 else 0
theorem tBegin (h : TlAt w t r b bs sp P O won) (p : Int) :
    Calls Tryz.prog 79 #[.pointer (some ⟨t, 0, none⟩), .int .i64 p] w fun e w' => e = .returned (.int .i64 (tbegE sp p)) ∧ TlAt w' t r b bs sp (tbegP sp P p) (tbegO sp O p) won ∧ Keeps (InRow r b) w w' := by
  unfold tbegE tbegP tbegO
  by_cases hp : p < 0 ∨ (sp : Int) ≤ p
  · rw [if_pos hp, if_pos hp, if_pos hp]
    exact (tBegin_no h p hp).mono fun e w' ⟨h1, h2⟩ => ⟨h1, by rw [h2]; exact h, by rw [h2]; exact Keeps.refl _ _⟩
  · rw [if_neg hp, if_neg hp, if_neg hp]
    obtain ⟨q, rfl⟩ := Int.eq_ofNat_of_zero_le (show 0 ≤ p by omega)
    exact tBegin_yes h q (by omega)
end
end Go.Proofs.YtfghfbmmaclcnaaGreat
namespace Go.Proofs.YtfghfbmmaclcnaaGreat
set_option maxRecDepth 20000
open Go.RowKit
/-- What Take tells, and where the tail is behind it. -/
def takeET (S : Nat) (n : Int) : Int := if n < 1 then 1 else if (S : Int) < n then 5 else 0
def takeK (S sp P O : Nat) (n : Int) : Nat := if n < 1 ∨ (S : Int) < n then 0 else roomK S sp P O n.toNat
def takeA (S P O : Nat) (n : Int) : Nat := if n < 1 ∨ (S : Int) < n then 0 else roomA S P O n.toNat
def takeO (S O : Nat) (n : Int) : Nat := if n < 1 ∨ (S : Int) < n ∨ S < O then O else O + n.toNat
set_option maxHeartbeats 1000000 in
theorem tNew_no (bs sp : Int) (h : ¬ ((5 ≤ bs ∧ bs ≤ 9) ∧ 1 ≤ sp ∧ sp ≤ 64)) (w : World) :
    Calls Tryz.prog 71 #[.int .i64 bs, .int .i64 sp] w fun e w' => e = .returned (.tuple #[.pointer none, .int .i64 1]) ∧ Below w.heap.size w w' := by
  have hm : mayB bs = decide (5 ≤ bs ∧ bs ≤ 9) := rfl
  by_cases hb : 5 ≤ bs ∧ bs ≤ 9
  · rw [decide_eq_true hb] at hm
    by_cases h1 : 1 ≤ sp
    · have h2 : 64 < sp := by omega
      clear h
      go_enter Tryz.func71, Tryz.ntmps71
      go_wp2_with fail
      refine (may_any _ _).mono ?_
      rintro e y ⟨rfl, rfl⟩
      go_wp2
      go_ret2
      exact ⟨rfl, Below.refl _ _⟩
    · clear h
      go_enter Tryz.func71, Tryz.ntmps71
      go_wp2_with fail
      refine (may_any _ _).mono ?_
      rintro e y ⟨rfl, rfl⟩
      go_wp2
      go_ret2
      exact ⟨rfl, Below.refl _ _⟩
  · rw [decide_eq_false hb] at hm
    clear h
    go_enter Tryz.func71, Tryz.ntmps71
    go_wp2_with fail
    refine (may_any _ _).mono ?_
    rintro e y ⟨rfl, rfl⟩
    go_wp2
    go_ret2
    exact ⟨rfl, Below.refl _ _⟩
set_option maxHeartbeats 1000000 in
theorem tNew_yes (bs : Int) (sp : Nat) (hb : 5 ≤ bs ∧ bs ≤ 9) (hs : 1 ≤ sp ∧ sp ≤ 64) (w : World) :
    Calls Tryz.prog 71 #[.int .i64 bs, .int .i64 (sp : Int)] w fun e w' => ∃ t r b, e = .returned (.tuple #[.pointer (some ⟨t, 0, none⟩), .int .i64 0]) ∧ TlAt w' t r b bs sp 0 1 0 ∧ w.heap.size ≤ t ∧ w.heap.size ≤ r ∧ w.heap.size ≤ b ∧ Below w.heap.size w w' := by
  have hm : mayB bs = true := decide_eq_true hb
  have hs1 : ¬ (sp : Int) < 1 := by omega
  have hs2 : ¬ (64 : Int) < (sp : Int) := by omega
  have hc := fun (x : World) => new_yes 1 (by decide) (by decide) x
  go_enter Tryz.func71, Tryz.ntmps71
  go_wp2_with fail
  refine (may_any _ _).mono ?_
  rintro e y ⟨rfl, rfl⟩
  go_wp2_with fail
  refine (hc _).mono ?_
  rintro e x ⟨r, b, rfl, hr, h1, h2, hB⟩
  have hlr : r < x.heap.size := World.block_lt_of_cell? x _ hr.c0
  have hlb : b < x.heap.size := World.block_lt_of_cell? x _ (hr.cs 0 (by decide))
  have h0 : TlAt (x.alloc (Obj.cells #[.int .i64 bs, .int .i64 (sp : Int), .pointer (some ⟨r, 0, none⟩)] 210)) x.heap.size r b bs sp 0 0 0 :=
    ⟨by simp, by simp, by simp, hr.under ((Below.refl _ _).alloc (Nat.le_refl _) _), by omega, by omega, hb, hs, by omega, by omega⟩
  have hB1 : Below y.heap.size y (x.alloc (Obj.cells #[.int .i64 bs, .int .i64 (sp : Int), .pointer (some ⟨r, 0, none⟩)] 210)) := hB.alloc hB.size _
  have hbg := fun (z : World) (hz : TlAt z x.heap.size r b bs sp 0 0 0) => tBegin_yes hz 0 (by omega)
  clear hc
  go_wp2_with fail
  refine (hbg _ h0).mono ?_
  rintro e z ⟨rfl, h3, k3⟩
  go_wp2
  go_ret2
  have hsz := hB.size
  exact ⟨_, r, b, rfl, h3, by omega, h1, h2, hB1.trans (k3.below hB1.size (fun k hk => by rcases hk with hk | hk <;> omega))⟩
set_option maxHeartbeats 1000000 in
theorem tTake_no {w : World} {t r b : Nat} {bs : Int} {sp P O won : Nat} (h : TlAt w t r b bs sp P O won) (n : Int) (hn : n < 1 ∨ (sizeN bs : Int) < n) :
    Calls Tryz.prog 67 #[.pointer (some ⟨t, 0, none⟩), .int .i64 n] w fun e w' => e = .returned (.tuple #[.int .u64 0, .int .i64 0, .int .i64 (takeET (sizeN bs) n)]) ∧ w' = w := by
  have hz := tsize h
  unfold takeET
  generalize sizeN bs = S at *
  by_cases h1 : n < 1
  · rw [if_pos h1]
    go_enter Tryz.func67, Tryz.ntmps67
    go_wp2
    go_ret3
    exact ⟨rfl, rfl⟩
  · have h2 : (S : Int) < n := by omega
    rw [if_neg h1, if_pos h2]
    go_enter Tryz.func67, Tryz.ntmps67
    go_wp2_with fail
    refine hz.mono ?_
    rintro e y ⟨rfl, rfl⟩
    go_wp2
    go_ret3
    exact ⟨rfl, rfl⟩
set_option maxHeartbeats 1000000 in
theorem tTake_over {w : World} {t r b : Nat} {bs : Int} {sp P O won : Nat} (h : TlAt w t r b bs sp P O won) (n : Nat) (hn : 1 ≤ n ∧ n ≤ sizeN bs) (ho : sizeN bs < O) :
    Calls Tryz.prog 67 #[.pointer (some ⟨t, 0, none⟩), .int .i64 (n : Int)] w fun e w' => e = .returned (.tuple #[.int .u64 (roomA (sizeN bs) P O n : Int), .int .i64 (roomK (sizeN bs) sp P O n : Int), .int .i64 0]) ∧ Below w.heap.size w w' := by
  have hz := tsize h
  have hN := sizeN_bounds bs
  have hp := h.hp
  have hs := h.hs
  have hO := h.ho
  have hov := fun (x : World) (hx : TlAt x t r b bs sp P O won) => tover hx P O
  rw [show decide (sizeN bs < O) = true by simp; omega] at hov
  have hrm := fun (x : World) (hx : TlAt x t r b bs sp P O won) => troom hx P O n (by omega) (by omega) (by omega)
  generalize roomA (sizeN bs) P O n = A at *
  generalize roomK (sizeN bs) sp P O n = K at *
  generalize sizeN bs = S at *
  have g1 : ¬ (n : Int) < 1 := by omega
  have g2 : ¬ (S : Int) < (n : Int) := by omega
  clear hN hp hs hO
  go_enter Tryz.func67, Tryz.ntmps67
  go_wp2_with fail
  refine hz.mono ?_
  rintro e y ⟨rfl, rfl⟩
  go_wp2_with fail
  refine (tat h).mono ?_
  rintro e y2 ⟨rfl, b1⟩
  have h1 := (h.below b1).alloc (Obj.cells #[.int .i64 (P : Int), .int .i64 (O : Int)] 157)
  have hB : Below y.heap.size y (y2.alloc (Obj.cells #[.int .i64 (P : Int), .int .i64 (O : Int)] 157)) := b1.alloc b1.size _
  clear h b1 hz
  unfold spV at *
  go_wp2_with fail
  refine (hov _ h1).mono ?_
  rintro e z ⟨rfl, b2⟩
  have c0 : z.cell? ⟨y2.heap.size, 0, none⟩ = some (.int .i64 (P : Int)) := by rw [b2.cell (by simp)]; simp
  have c1 : z.cell? ⟨y2.heap.size, 1, none⟩ = some (.int .i64 (O : Int)) := by rw [b2.cell (by simp)]; simp
  go_wp2_with fail
  refine (hrm _ (h1.below b2)).mono ?_
  rintro e z3 ⟨rfl, b3⟩
  go_wp2
  go_ret3
  exact ⟨rfl, (hB.trans (b2.mono hB.size)).trans (b3.mono (hB.trans (b2.mono hB.size)).size)⟩
set_option maxHeartbeats 1000000 in
theorem tTake_on {w : World} {t r b : Nat} {bs : Int} {sp P O won : Nat} (h : TlAt w t r b bs sp P O won) (n : Nat) (hn : 1 ≤ n ∧ n ≤ sizeN bs) (ho : O ≤ sizeN bs) :
    Calls Tryz.prog 67 #[.pointer (some ⟨t, 0, none⟩), .int .i64 (n : Int)] w fun e w' => e = .returned (.tuple #[.int .u64 (roomA (sizeN bs) P O n : Int), .int .i64 (roomK (sizeN bs) sp P O n : Int), .int .i64 0]) ∧ TlAt w' t r b bs sp P (O + n) won ∧ Keeps (InRow r b) w w' := by
  have hz := tsize h
  have hN := sizeN_bounds bs
  have hp := h.hp
  have hs := h.hs
  have hov := fun (x : World) (hx : TlAt x t r b bs sp P O won) => tover hx P O
  rw [show decide (sizeN bs < O) = false by simp; omega] at hov
  have hrm := fun (x : World) (hx : TlAt x t r b bs sp P (O + n) won) => troom hx P O n (by omega) (by omega) (by omega)
  have hsx : spN P O + n < 18446744073709551616 := by unfold spN; omega
  have had := fun (x : World) (hx : TlAt x t r b bs sp P O won) => kadd hx.row 0 (by decide) ((spN P O : Nat) : Int) rfl (n : Int) (by omega) (by omega) (by omega)
  have hso := fun (x : World) => tspotOf P O (by omega) (by omega) x
  have hO' : O + n ≤ 1024 := by omega
  have hu := u64_of_natT (show n ≤ 9223372036854775807 by omega)
  have heq : Hid ((spN P O : Int) + (n : Int) = (spN P (O + n) : Int)) := by unfold Hid spN; omega
  generalize roomA (sizeN bs) P O n = A at *
  generalize roomK (sizeN bs) sp P O n = K at *
  generalize sizeN bs = S at *
  have g1 : ¬ (n : Int) < 1 := by omega
  have g2 : ¬ (S : Int) < (n : Int) := by omega
  clear hN hs hsx
  go_enter Tryz.func67, Tryz.ntmps67
  go_wp2_with fail
  refine hz.mono ?_
  rintro e y ⟨rfl, rfl⟩
  go_wp2_with fail
  refine (tat h).mono ?_
  rintro e y2 ⟨rfl, b1⟩
  have h1 := (h.below b1).alloc (Obj.cells #[.int .i64 (P : Int), .int .i64 (O : Int)] 157)
  have hB : Below y.heap.size y (y2.alloc (Obj.cells #[.int .i64 (P : Int), .int .i64 (O : Int)] 157)) := b1.alloc b1.size _
  have hnew : ¬ InRow r b y2.heap.size := (h.below b1).new
  have hyl : y.heap.size ≤ y2.heap.size := b1.size
  have htl : t < y2.heap.size := (h.below b1).lt
  clear h b1 hz
  unfold spV at *
  go_wp2_with fail
  refine (hov _ h1).mono ?_
  rintro e z ⟨rfl, b2⟩
  have c0 : z.cell? ⟨y2.heap.size, 0, none⟩ = some (.int .i64 (P : Int)) := by rw [b2.cell (by simp)]; simp
  have c1 : z.cell? ⟨y2.heap.size, 1, none⟩ = some (.int .i64 (O : Int)) := by rw [b2.cell (by simp)]; simp
  have f0 : z.frozen? ⟨y2.heap.size, 0, none⟩ = false := by rw [b2.frozen (by simp)]; simp
  have f1 : z.frozen? ⟨y2.heap.size, 1, none⟩ = false := by rw [b2.frozen (by simp)]; simp
  have h2 := h1.below b2
  have c2 := h2.c2
  have hB2 := hB.trans (b2.mono hB.size)
  clear b2 hB h1
  go_wp2_with fail
  refine (had _ h2).mono ?_
  rintro e z3 ⟨rfl, hr3, k3⟩
  rw [heq.out] at hr3
  have h3 := h2.turned k3 hr3 hp hO'
  have hpl : y2.heap.size < z.heap.size := World.block_lt_of_cell? z _ c0
  replace c0 := (k3.cell (p := ⟨y2.heap.size, 0, none⟩) hpl hnew).trans c0
  replace c1 := (k3.cell (p := ⟨y2.heap.size, 1, none⟩) hpl hnew).trans c1
  replace f0 := (k3.frozen (p := ⟨y2.heap.size, 0, none⟩) hpl hnew).trans f0
  replace f1 := (k3.frozen (p := ⟨y2.heap.size, 1, none⟩) hpl hnew).trans f1
  have k4 : Keeps (InRow r b) y z3 := (Below.keeps hB2).trans k3 (fun _ _ h => h)
  replace hpl : y2.heap.size < z3.heap.size := World.block_lt_of_cell? z3 _ c0
  clear hr3 k3 h2 c2 hB2
  go_wp2_with fail
  refine (hso _).mono ?_
  rintro e z4 ⟨rfl, b4⟩
  replace c0 := (b4.cell (p := ⟨y2.heap.size, 0, none⟩) hpl).trans c0
  replace c1 := (b4.cell (p := ⟨y2.heap.size, 1, none⟩) hpl).trans c1
  replace f0 := (b4.frozen (p := ⟨y2.heap.size, 0, none⟩) hpl).trans f0
  replace f1 := (b4.frozen (p := ⟨y2.heap.size, 1, none⟩) hpl).trans f1
  have h4 := h3.below b4
  have k5 : Keeps (InRow r b) y z4 := k4.trans (Below.keeps (S := InRow r b) b4) (fun _ _ h => h)
  clear b4 h3 k4 hpl
  have kp : Keeps (fun k => k = y2.heap.size) z4 ((z4.setCell ⟨y2.heap.size, 0, none⟩ (.int .i64 (P : Int))).setCell ⟨y2.heap.size, 1, none⟩ (.int .i64 (O : Int))) := ((Keeps.refl (fun k => k = y2.heap.size) z4).setCell ⟨y2.heap.size, 0, none⟩ (fun _ => rfl) _).setCell ⟨y2.heap.size, 1, none⟩ (fun _ => rfl) _
  have h5 := h4.keep kp (show ¬ t = y2.heap.size by omega) (fun e => hnew (.inl e.symm)) (fun e => hnew (.inr e.symm))
  have k6 : Keeps (InRow r b) y ((z4.setCell ⟨y2.heap.size, 0, none⟩ (.int .i64 (P : Int))).setCell ⟨y2.heap.size, 1, none⟩ (.int .i64 (O : Int))) := (k5.setCell ⟨y2.heap.size, 0, none⟩ (fun hh => absurd hh (by simp only; omega)) _).setCell ⟨y2.heap.size, 1, none⟩ (fun hh => absurd hh (by simp only; omega)) _
  obtain ⟨d0, d1⟩ := set_two c0 c1 (.int .i64 (P : Int)) (.int .i64 (O : Int))
  clear k5 kp h4
  go_wp2_with fail
  refine (hrm _ h5).mono ?_
  rintro e z6 ⟨rfl, b6⟩
  go_wp2
  go_ret3
  exact ⟨rfl, h5.below b6, k6.trans (Below.keeps (S := InRow r b) b6) (fun _ _ h => h)⟩
theorem tTake {w : World} {t r b : Nat} {bs : Int} {sp P O won : Nat} (h : TlAt w t r b bs sp P O won) (n : Int) :
    Calls Tryz.prog 67 #[.pointer (some ⟨t, 0, none⟩), .int .i64 n] w fun e w' => e = .returned (.tuple #[.int .u64 (takeA (sizeN bs) P O n : Int), .int .i64 (takeK (sizeN bs) sp P O n : Int), .int .i64 (takeET (sizeN bs) n)]) ∧ TlAt w' t r b bs sp P (takeO (sizeN bs) O n) won ∧ Keeps (InRow r b) w w' := by
  by_cases hn : n < 1 ∨ (sizeN bs : Int) < n
  · unfold takeA takeK takeO
    rw [if_pos hn, if_pos hn, if_pos (by omega)]
    exact (tTake_no h n hn).mono fun e w' ⟨h1, h2⟩ => ⟨h1, by rw [h2]; exact h, by rw [h2]; exact Keeps.refl _ _⟩
  · obtain ⟨N, rfl⟩ := Int.eq_ofNat_of_zero_le (show 0 ≤ n by omega)
    have e3 : takeET (sizeN bs) (N : Int) = 0 := by unfold takeET; rw [if_neg (by omega), if_neg (by omega)]
    unfold takeA takeK takeO
    rw [if_neg hn, if_neg hn, e3]
    simp only [Int.toNat_natCast]
    by_cases ho : sizeN bs < O
    · rw [if_pos (by omega)]
      exact (tTake_over h N (by omega) ho).mono fun e w' ⟨h1, h2⟩ => ⟨h1, h.below h2, Below.keeps h2⟩
    · rw [if_neg (by omega)]
      exact tTake_on h N (by omega) (by omega)
section
theorem tn_take (n : Int) (w : World) : Calls Tryz.prog 67 #[.pointer none, .int .i64 n] w fun e w' => e = .returned (.tuple #[.int .u64 0, .int .i64 0, .int .i64 2]) ∧ w' = w := by
  go_enter Tryz.func67, Tryz.ntmps67
  go_wp2
  go_ret3
  exact ⟨rfl, rfl⟩
theorem tn_turn (w : World) : Calls Tryz.prog 84 #[.pointer none] w fun e w' => e = .returned (.int .i64 2) ∧ w' = w := by
  go_enter Tryz.func84, Tryz.ntmps84
  go_wp2
  go_ret
  exact ⟨rfl, rfl⟩
theorem tn_close (w : World) : Calls Tryz.prog 86 #[.pointer none] w fun e w' => e = .returned (.int .i64 2) ∧ w' = w := by
  go_enter Tryz.func86, Tryz.ntmps86
  go_wp2
  go_ret
  exact ⟨rfl, rfl⟩
theorem tn_begin (p : Int) (w : World) : Calls Tryz.prog 79 #[.pointer none, .int .i64 p] w fun e w' => e = .returned (.int .i64 2) ∧ w' = w := by
  go_enter Tryz.func79, Tryz.ntmps79
  go_wp2
  go_ret
  exact ⟨rfl, rfl⟩
theorem tn_page (w : World) : Calls Tryz.prog 39 #[.pointer none] w fun e w' => e = .returned (.int .i64 0) ∧ w' = w := by
  go_enter Tryz.func39, Tryz.ntmps39
  go_wp2
  go_ret
  exact ⟨rfl, rfl⟩
theorem tn_offset (w : World) : Calls Tryz.prog 85 #[.pointer none] w fun e w' => e = .returned (.int .i64 0) ∧ w' = w := by
  go_enter Tryz.func85, Tryz.ntmps85
  go_wp2
  go_ret
  exact ⟨rfl, rfl⟩
theorem tn_over (w : World) : Calls Tryz.prog 82 #[.pointer none] w fun e w' => e = .returned (.bool false) ∧ w' = w := by
  go_enter Tryz.func82, Tryz.ntmps82
  go_wp2
  go_ret
  exact ⟨rfl, rfl⟩
theorem tn_addr (w : World) : Calls Tryz.prog 162 #[.pointer none] w fun e w' => e = .returned (.int .u64 0) ∧ w' = w := by
  go_enter Tryz.func162, Tryz.ntmps162
  go_wp2
  go_ret
  exact ⟨rfl, rfl⟩
theorem tn_last (w : World) : Calls Tryz.prog 87 #[.pointer none] w fun e w' => e = .returned (.bool false) ∧ w' = w := by
  go_enter Tryz.func87, Tryz.ntmps87
  go_wp2
  go_ret
  exact ⟨rfl, rfl⟩
end
end Go.Proofs.YtfghfbmmaclcnaaGreat
namespace Go.Proofs.YtfghfbmmaclcnaaGreat
set_option maxRecDepth 20000
open Go.RowKit
/-- The reference's tail in block m. -/
structure RtIs (w : World) (m S sp P O : Nat) : Prop where
  c0 : w.cell? ⟨m, 0, none⟩ = some (.int .i64 (S : Int))
  c1 : w.cell? ⟨m, 1, none⟩ = some (.int .i64 (sp : Int))
  c2 : w.cell? ⟨m, 2, none⟩ = some (.int .i64 (P : Int))
  c3 : w.cell? ⟨m, 3, none⟩ = some (.int .i64 (O : Int))
  f2 : w.frozen? ⟨m, 2, none⟩ = false
  f3 : w.frozen? ⟨m, 3, none⟩ = false
theorem RtIs.lt {w : World} {m S sp P O : Nat} (h : RtIs w m S sp P O) : m < w.heap.size := World.block_lt_of_cell? w _ h.c0
theorem RtIs.keep {w w' : World} {T : Nat → Prop} {m S sp P O : Nat} (h : RtIs w m S sp P O) (hk : Keeps T w w') (hm : ¬ T m) : RtIs w' m S sp P O :=
  ⟨by rw [hk.cell h.lt hm]; exact h.c0, by rw [hk.cell h.lt hm]; exact h.c1, by rw [hk.cell h.lt hm]; exact h.c2, by rw [hk.cell h.lt hm]; exact h.c3, by rw [hk.frozen h.lt hm]; exact h.f2, by rw [hk.frozen h.lt hm]; exact h.f3⟩
theorem RtIs.below {w w' : World} {m S sp P O : Nat} (h : RtIs w m S sp P O) (hb : Below w.heap.size w w') : RtIs w' m S sp P O := h.keep (Below.keeps (S := fun _ => False) hb) id
theorem RtIs.setO {w : World} {m S sp P O : Nat} (h : RtIs w m S sp P O) (o : Nat) : RtIs (w.setCell ⟨m, 3, none⟩ (.int .i64 (o : Int))) m S sp P o :=
  ⟨by rw [cell_set_off _ _ _ _ (by decide)]; exact h.c0, by rw [cell_set_off _ _ _ _ (by decide)]; exact h.c1, by rw [cell_set_off _ _ _ _ (by decide)]; exact h.c2, World.cell?_setCell_same _ _ _ h.c3, by rw [World.frozen?_setCell]; exact h.f2, by rw [World.frozen?_setCell]; exact h.f3⟩
theorem RtIs.setP {w : World} {m S sp P O : Nat} (h : RtIs w m S sp P O) (p : Nat) : RtIs (w.setCell ⟨m, 2, none⟩ (.int .i64 (p : Int))) m S sp p O :=
  ⟨by rw [cell_set_off _ _ _ _ (by decide)]; exact h.c0, by rw [cell_set_off _ _ _ _ (by decide)]; exact h.c1, World.cell?_setCell_same _ _ _ h.c2, by rw [cell_set_off _ _ _ _ (by decide)]; exact h.c3, by rw [World.frozen?_setCell]; exact h.f2, by rw [World.frozen?_setCell]; exact h.f3⟩
theorem keep_m {w : World} {m i : Nat} {v : Value} : Keeps (fun k => k = m) w (w.setCell ⟨m, i, none⟩ v) := (Keeps.refl (fun k => k = m) w).setCell ⟨m, i, none⟩ (fun _ => rfl) _
theorem keep_m2 {w : World} {m i j : Nat} {u v : Value} : Keeps (fun k => k = m) w ((w.setCell ⟨m, i, none⟩ u).setCell ⟨m, j, none⟩ v) := ((Keeps.refl (fun k => k = m) w).setCell ⟨m, i, none⟩ (fun _ => rfl) _).setCell ⟨m, j, none⟩ (fun _ => rfl) _
theorem RtIs.drew {w : World} {m S sp P O : Nat} (h : RtIs w m S sp P O) (k : Nat) : RtIs (w.drewN k) m S sp P O := h.below (below_drewN (Below.refl _ _) k)
theorem keep_d {S : Nat → Prop} {w : World} {k : Nat} : Keeps S w (w.drewN k) := (Keeps.refl S w).drewN k
section
variable {w : World} {m S sp P O : Nat}
set_option maxHeartbeats 1000000 in
theorem rLast (h : RtIs w m S sp P O) (hp : P ≤ 1000) :
    Calls Tryz.prog 106 #[.pointer (some ⟨m, 0, none⟩)] w fun e w' => e = .returned (.bool (decide (sp ≤ P + 1))) ∧ ∃ k, w' = w.drewN k := by
  have c1 := h.c1
  have c2 := h.c2
  have hx : (P : Int) + 1 = ((P + 1 : Nat) : Int) := by omega
  obtain ⟨Q, hQ⟩ : ∃ Q, Q = P + 1 := ⟨_, rfl⟩
  rw [← hQ] at hx ⊢
  have hQb : Q ≤ 1001 := by omega
  clear hQ h hp
  go_enter Tryz.func106, Tryz.ntmps106
  go_wp2
  go_quiet (fail)
  go_wp2
  go_ret
  exact ⟨ret_bool (by simp), _, rfl⟩
set_option maxHeartbeats 1000000 in
theorem rTake (h : RtIs w m S sp P O) (hS : S ≤ 512) (hp : P < sp) (hs : sp ≤ 64) (ho : O ≤ 1024) (n : Int) :
    Calls Tryz.prog 41 #[.pointer (some ⟨m, 0, none⟩), .int .i64 n] w fun e w' => e = .returned (.tuple #[.int .u64 (takeA S P O n : Int), .int .i64 (takeK S sp P O n : Int), .int .i64 (takeET S n)]) ∧ RtIs w' m S sp P (takeO S O n) ∧ Keeps (fun k => k = m) w w' := by
  have c0 := h.c0
  have c2 := h.c2
  have c3 := h.c3
  have f3 := h.f3
  by_cases n1 : n < 1
  · have e1 : takeA S P O n = 0 := by unfold takeA; rw [if_pos (.inl n1)]
    have e2 : takeK S sp P O n = 0 := by unfold takeK; rw [if_pos (.inl n1)]
    have e3 : takeET S n = 1 := by unfold takeET; rw [if_pos n1]
    have e4 : takeO S O n = O := by unfold takeO; rw [if_pos (.inl n1)]
    rw [e1, e2, e3, e4]
    clear e1 e2 e3 e4
    go_enter Tryz.func41, Tryz.ntmps41
    go_wp2
    go_ret3
    exact ⟨rfl, h, Keeps.refl _ _⟩
  by_cases n2 : (S : Int) < n
  · have e1 : takeA S P O n = 0 := by unfold takeA; rw [if_pos (.inr n2)]
    have e2 : takeK S sp P O n = 0 := by unfold takeK; rw [if_pos (.inr n2)]
    have e3 : takeET S n = 5 := by unfold takeET; rw [if_neg n1, if_pos n2]
    have e4 : takeO S O n = O := by unfold takeO; rw [if_pos (.inr (.inl n2))]
    rw [e1, e2, e3, e4]
    clear e1 e2 e3 e4
    go_enter Tryz.func41, Tryz.ntmps41
    go_wp2
    go_ret3
    exact ⟨rfl, h, Keeps.refl _ _⟩
  obtain ⟨N, rfl⟩ := Int.eq_ofNat_of_zero_le (show 0 ≤ n by omega)
  have e3 : takeET S (N : Int) = 0 := by unfold takeET; rw [if_neg n1, if_neg n2]
  have eK : takeK S sp P O (N : Int) = roomK S sp P O N := by unfold takeK; rw [if_neg (by omega), Int.toNat_natCast]
  have eA : takeA S P O (N : Int) = roomA S P O N := by unfold takeA; rw [if_neg (by omega), Int.toNat_natCast]
  rw [e3, eK, eA]
  clear e3 eK eA
  have hla := fun (x : World) (o : Nat) (hx : RtIs x m S sp P o) => rLast hx (by omega)
  by_cases hov : S < O
  · have e4 : takeO S O (N : Int) = O := by unfold takeO; rw [if_pos (by omega)]
    have e1 : roomA S P O N = 0 := by unfold roomA; rw [if_neg (by omega)]
    rw [e4, e1]
    by_cases hl : sp ≤ P + 1
    · have e2 : roomK S sp P O N = 4 := by unfold roomK; rw [if_neg (by omega), if_pos hl]
      rw [e2]
      rw [show decide (sp ≤ P + 1) = true by simp; omega] at hla
      clear e1 e2 e4
      go_enter Tryz.func41, Tryz.ntmps41
      go_wp2
      go_quiet (fail)
      go_wp2_with fail
      refine (hla _ _ (h.drew _)).mono ?_
      rintro e y ⟨rfl, q, rfl⟩
      go_wp2
      go_ret3
      first | exact ⟨rfl, h.drew _, keep_d⟩ | exact ⟨rfl, (h.drew _).drew _, keep_d.drewN _⟩
    · have e2 : roomK S sp P O N = 3 := by unfold roomK; rw [if_neg (by omega), if_neg hl, if_pos hov]
      rw [e2]
      rw [show decide (sp ≤ P + 1) = false by simp; omega] at hla
      clear e1 e2 e4
      go_enter Tryz.func41, Tryz.ntmps41
      go_wp2
      go_quiet (fail)
      go_wp2_with fail
      refine (hla _ _ (h.drew _)).mono ?_
      rintro e y ⟨rfl, q, rfl⟩
      go_wp2
      go_ret3
      first | exact ⟨rfl, h.drew _, keep_d⟩ | exact ⟨rfl, (h.drew _).drew _, keep_d.drewN _⟩
  have e4 : takeO S O (N : Int) = O + N := by unfold takeO; rw [if_neg (by omega), Int.toNat_natCast]
  rw [e4]
  obtain ⟨C, hC⟩ : ∃ C, C = O + N := ⟨_, rfl⟩
  have hCI : (O : Int) + (N : Int) = (C : Int) := by omega
  have hov' : decide (S < O) = false := by simp; omega
  have h2 := fun q : Nat => (h.drew q).setO C
  have k2 := fun q : Nat => (keep_d (S := fun k => k = m) (w := w) (k := q)).setCell ⟨m, 3, none⟩ (fun _ => rfl) (.int .i64 (C : Int))
  by_cases h3 : O + N ≤ S
  · have e1 : roomA S P O N = P * S + O := by unfold roomA; rw [if_pos h3]
    have e2 : roomK S sp P O N = 1 := by unfold roomK; rw [if_pos h3]
    rw [e1, e2]
    rw [← hC] at h3 ⊢
    have hm : P * S ≤ 64 * 512 := Nat.mul_le_mul (by omega) hS
    have hu := u64_of_natT (show P * S + O ≤ 9223372036854775807 by omega)
    have hPS : (P : Int) * (S : Int) = ((P * S : Nat) : Int) := by rw [Int.natCast_mul]
    generalize P * S = M at *
    have HH := hide h2
    have HK := hide k2
    clear e1 e2 e4 h2 hC h k2
    go_enter Tryz.func41, Tryz.ntmps41
    go_wp2
    go_quiet (fail)
    go_wp2
    have hz := HH.out nq
    have kz := HK.out nq
    generalize (w.drewN nq).setCell ⟨m, 3, none⟩ (.int .i64 (C : Int)) = y at *
    have d0 := hz.c0
    have d2 := hz.c2
    have d3 := hz.c3
    clear HH HK c0 c2 c3 f3 hla
    go_quiet (fail)
    go_wp2
    go_quiet (fail)
    go_wp2
    go_ret3
    first | exact ⟨rfl, hz.drew _, kz.drewN _⟩ | exact ⟨rfl, (hz.drew _).drew _, (kz.drewN _).drewN _⟩
  · have e1 : roomA S P O N = 0 := by unfold roomA; rw [if_neg h3]
    rw [e1]
    rw [← hC] at h3 ⊢
    have hcs : decide (C ≤ S) = false := by simp; omega
    by_cases hl : sp ≤ P + 1
    · have e2 : roomK S sp P O N = 4 := by unfold roomK; rw [if_neg (by omega), if_pos hl]
      rw [e2]
      rw [show decide (sp ≤ P + 1) = true by simp; omega] at hla
      have HH := hide h2
      have HK := hide k2
      clear e1 e2 e4 h2 hC h k2
      go_enter Tryz.func41, Tryz.ntmps41
      go_wp2
      go_quiet (fail)
      go_wp2
      have hz := HH.out nq
      have kz := HK.out nq
      generalize (w.drewN nq).setCell ⟨m, 3, none⟩ (.int .i64 (C : Int)) = y at *
      have d0 := hz.c0
      have d2 := hz.c2
      have d3 := hz.c3
      clear HH HK c0 c2 c3 f3
      go_quiet (fail)
      go_wp2_with fail
      refine (hla _ _ (hz.drew _)).mono ?_
      rintro e y5 ⟨rfl, q, rfl⟩
      go_wp2
      go_ret3
      first | exact ⟨rfl, hz.drew _, kz.drewN _⟩ | exact ⟨rfl, (hz.drew _).drew _, (kz.drewN _).drewN _⟩
    · have e2 : roomK S sp P O N = 2 := by unfold roomK; rw [if_neg (by omega), if_neg hl, if_neg hov]
      rw [e2]
      rw [show decide (sp ≤ P + 1) = false by simp; omega] at hla
      have HH := hide h2
      have HK := hide k2
      clear e1 e2 e4 h2 hC h k2
      go_enter Tryz.func41, Tryz.ntmps41
      go_wp2
      go_quiet (fail)
      go_wp2
      have hz := HH.out nq
      have kz := HK.out nq
      generalize (w.drewN nq).setCell ⟨m, 3, none⟩ (.int .i64 (C : Int)) = y at *
      have d0 := hz.c0
      have d2 := hz.c2
      have d3 := hz.c3
      clear HH HK c0 c2 c3 f3
      go_quiet (fail)
      go_wp2_with fail
      refine (hla _ _ (hz.drew _)).mono ?_
      rintro e y5 ⟨rfl, q, rfl⟩
      go_wp2
      go_ret3
      first | exact ⟨rfl, hz.drew _, kz.drewN _⟩ | exact ⟨rfl, (hz.drew _).drew _, (kz.drewN _).drewN _⟩
set_option maxHeartbeats 1000000 in
theorem rTurn (h : RtIs w m S sp P O) (hp : P < sp) (hs : sp ≤ 64) :
    Calls Tryz.prog 110 #[.pointer (some ⟨m, 0, none⟩)] w fun e w' => e = .returned (.int .i64 (turnE S sp P O)) ∧ RtIs w' m S sp (turnPT S sp P O) (turnO S sp P O) ∧ Keeps (fun k => k = m) w w' := by
  have c0 := h.c0
  have c2 := h.c2
  have c3 := h.c3
  have f2 := h.f2
  have f3 := h.f3
  unfold turnE turnPT turnO
  by_cases g1 : O ≤ S
  · rw [if_pos g1, if_pos (.inl g1), if_pos (.inl g1)]
    go_enter Tryz.func110, Tryz.ntmps110
    go_wp2
    go_quiet (fail)
    go_wp2
    go_ret
    exact ⟨rfl, h.drew _, keep_d⟩
  have g1' : decide (O ≤ S) = false := by simp; omega
  have hla := fun (q : Nat) => rLast (h.drew q) (by omega)
  by_cases g2 : sp ≤ P + 1
  · rw [if_neg g1, if_pos g2, if_pos (.inr g2), if_pos (.inr g2)]
    rw [show decide (sp ≤ P + 1) = true by simp; omega] at hla
    go_enter Tryz.func110, Tryz.ntmps110
    go_wp2
    go_quiet (fail)
    go_wp2_with fail
    refine (hla _).mono ?_
    rintro e y ⟨rfl, q, rfl⟩
    go_wp2
    go_ret
    first | exact ⟨rfl, h.drew _, keep_d⟩ | exact ⟨rfl, (h.drew _).drew _, keep_d.drewN _⟩
  · rw [if_neg g1, if_neg g2, if_neg (by omega), if_neg (by omega)]
    rw [show decide (sp ≤ P + 1) = false by simp; omega] at hla
    have hx : (P : Int) + 1 = ((P + 1 : Nat) : Int) := by omega
    have hH := fun (q : Nat) => ((h.drew q).setP (P + 1)).setO 0
    have hK := fun (q : Nat) => ((keep_d (S := fun k => k = m) (w := w) (k := q)).setCell ⟨m, 2, none⟩ (fun _ => rfl) (.int .i64 ((P + 1 : Nat) : Int))).setCell ⟨m, 3, none⟩ (fun _ => rfl) (.int .i64 ((0 : Nat) : Int))
    obtain ⟨Q, hQ⟩ : ∃ Q, Q = P + 1 := ⟨_, rfl⟩
    rw [← hQ] at hx hH hK ⊢
    have hQb : Q ≤ 1001 := by omega
    have HH := hide hH
    have HK := hide hK
    clear hQ hH hK h
    go_enter Tryz.func110, Tryz.ntmps110
    go_wp2
    go_quiet (fail)
    go_wp2_with fail
    refine (hla _).mono ?_
    rintro e y ⟨rfl, q, rfl⟩
    go_wp2
    go_ret
    exact ⟨rfl, HH.out _, HK.out _⟩
set_option maxHeartbeats 1000000 in
theorem rClose (h : RtIs w m S sp P O) (hp : P < sp) (hs : sp ≤ 64) :
    Calls Tryz.prog 135 #[.pointer (some ⟨m, 0, none⟩)] w fun e w' => e = .returned (.int .i64 (closeE sp P O)) ∧ RtIs w' m S sp (closeP sp P O) (closeO sp P O) ∧ Keeps (fun k => k = m) w w' := by
  have c2 := h.c2
  have c3 := h.c3
  have f2 := h.f2
  have f3 := h.f3
  unfold closeE closeP closeO
  by_cases g1 : O = 0
  · rw [if_pos g1, if_pos (.inl g1), if_pos (.inl g1)]
    have z0 : ((O : Int) == 0) = true := by simp; omega
    clear g1
    go_enter Tryz.func135, Tryz.ntmps135
    go_wp2
    go_ret
    exact ⟨rfl, h, Keeps.refl _ _⟩
  have z0 : ((O : Int) == 0) = false := by simp; omega
  have hla := rLast h (by omega)
  by_cases g2 : sp ≤ P + 1
  · rw [if_neg g1, if_pos g2, if_pos (.inr g2), if_pos (.inr g2)]
    rw [show decide (sp ≤ P + 1) = true by simp; omega] at hla
    go_enter Tryz.func135, Tryz.ntmps135
    go_wp2_with fail
    refine hla.mono ?_
    rintro e y ⟨rfl, q, rfl⟩
    go_wp2
    go_ret
    exact ⟨rfl, h.drew _, keep_d⟩
  · rw [if_neg g1, if_neg g2, if_neg (by omega), if_neg (by omega)]
    rw [show decide (sp ≤ P + 1) = false by simp; omega] at hla
    have hx : (P : Int) + 1 = ((P + 1 : Nat) : Int) := by omega
    have hH := fun (q : Nat) => ((h.drew q).setP (P + 1)).setO 0
    have hK := fun (q : Nat) => ((keep_d (S := fun k => k = m) (w := w) (k := q)).setCell ⟨m, 2, none⟩ (fun _ => rfl) (.int .i64 ((P + 1 : Nat) : Int))).setCell ⟨m, 3, none⟩ (fun _ => rfl) (.int .i64 ((0 : Nat) : Int))
    obtain ⟨Q, hQ⟩ : ∃ Q, Q = P + 1 := ⟨_, rfl⟩
    rw [← hQ] at hx hH hK ⊢
    have hQb : Q ≤ 1001 := by omega
    have HH := hide hH
    have HK := hide hK
    clear hQ hH hK h
    go_enter Tryz.func135, Tryz.ntmps135
    go_wp2_with fail
    refine hla.mono ?_
    rintro e y ⟨rfl, q, rfl⟩
    go_wp2
    go_ret
    exact ⟨rfl, HH.out _, HK.out _⟩
set_option maxHeartbeats 1000000 in
theorem rBegin (h : RtIs w m S sp P O) (p : Int) :
    Calls Tryz.prog 133 #[.pointer (some ⟨m, 0, none⟩), .int .i64 p] w fun e w' => e = .returned (.int .i64 (tbegE sp p)) ∧ RtIs w' m S sp (tbegP sp P p) (tbegO sp O p) ∧ Keeps (fun k => k = m) w w' := by
  have c1 := h.c1
  have c2 := h.c2
  have c3 := h.c3
  have f2 := h.f2
  have f3 := h.f3
  unfold tbegE tbegP tbegO
  by_cases g0 : p < 0
  · rw [if_pos (.inl g0), if_pos (.inl g0), if_pos (.inl g0)]
    go_enter Tryz.func133, Tryz.ntmps133
    go_wp2
    go_ret
    exact ⟨rfl, h, Keeps.refl _ _⟩
  obtain ⟨p, rfl⟩ := Int.eq_ofNat_of_zero_le (show 0 ≤ p by omega)
  by_cases g1 : (sp : Int) ≤ p
  · rw [if_pos (.inr g1), if_pos (.inr g1), if_pos (.inr g1)]
    have g1' : decide (sp ≤ p) = true := by simp; omega
    go_enter Tryz.func133, Tryz.ntmps133
    go_wp2
    go_ret
    exact ⟨rfl, h, Keeps.refl _ _⟩
  rw [if_neg (by omega), if_neg (by omega), if_neg (by omega)]
  simp only [Int.toNat_natCast]
  have g1' : decide (sp ≤ p) = false := by simp; omega
  by_cases g2 : p = 0
  · subst g2
    rw [if_pos rfl]
    have hH := ((h.setP 0).setO 0).setO 1
    have hK : Keeps (fun k => k = m) w (((w.setCell ⟨m, 2, none⟩ (.int .i64 ((0 : Nat) : Int))).setCell ⟨m, 3, none⟩ (.int .i64 ((0 : Nat) : Int))).setCell ⟨m, 3, none⟩ (.int .i64 ((1 : Nat) : Int))) := (keep_m2).setCell ⟨m, 3, none⟩ (fun _ => rfl) _
    have HH := hide hH
    have HK := hide hK
    clear hH hK h
    go_enter Tryz.func133, Tryz.ntmps133
    go_wp2
    go_ret
    exact ⟨rfl, HH.out, HK.out⟩
  · rw [if_neg g2]
    have z0 : ((p : Int) == 0) = false := by simp; omega
    have z1 : decide (p = 0) = false := by simp; omega
    have hH := (h.setP p).setO 0
    have hK : Keeps (fun k => k = m) w ((w.setCell ⟨m, 2, none⟩ (.int .i64 (p : Int))).setCell ⟨m, 3, none⟩ (.int .i64 ((0 : Nat) : Int))) := keep_m2
    have HH := hide hH
    have HK := hide hK
    clear hH hK h
    go_enter Tryz.func133, Tryz.ntmps133
    go_wp2
    go_ret
    exact ⟨rfl, HH.out, HK.out⟩
end
set_option maxHeartbeats 1000000 in
theorem rNew_no (bs sp : Int) (h : ¬ ((5 ≤ bs ∧ bs ≤ 9) ∧ 1 ≤ sp ∧ sp ≤ 64)) (w : World) :
    Calls Tryz.prog 102 #[.int .i64 bs, .int .i64 sp] w fun e w' => e = .returned (.tuple #[.pointer none, .int .i64 1]) ∧ Below w.heap.size w w' := by
  by_cases hb : 5 ≤ bs ∧ bs ≤ 9
  · have hq := sizeN_pos hb
    have hz : ((sizeN bs : Int) == 0) = false := by simp; omega
    have hr := fun (x : World) => rsize_any bs x
    generalize sizeN bs = S at *
    by_cases h1 : 1 ≤ sp
    · have h2 : 64 < sp := by omega
      clear h
      go_enter Tryz.func102, Tryz.ntmps102
      go_wp2_with fail
      refine (hr _).mono ?_
      rintro e y ⟨rfl, rfl⟩
      go_wp2
      go_ret2
      exact ⟨rfl, Below.refl _ _⟩
    · clear h
      go_enter Tryz.func102, Tryz.ntmps102
      go_wp2_with fail
      refine (hr _).mono ?_
      rintro e y ⟨rfl, rfl⟩
      go_wp2
      go_ret2
      exact ⟨rfl, Below.refl _ _⟩
  · have hr := fun (x : World) => rsize_any bs x
    rw [sizeN_no hb] at hr
    clear h
    go_enter Tryz.func102, Tryz.ntmps102
    go_wp2_with fail
    refine (hr _).mono ?_
    rintro e y ⟨rfl, rfl⟩
    go_wp2
    go_ret2
    exact ⟨rfl, Below.refl _ _⟩
set_option maxHeartbeats 1000000 in
theorem rNew_yes (bs : Int) (sp : Nat) (hb : 5 ≤ bs ∧ bs ≤ 9) (hs : 1 ≤ sp ∧ sp ≤ 64) (w : World) :
    Calls Tryz.prog 102 #[.int .i64 bs, .int .i64 (sp : Int)] w fun e w' => e = .returned (.tuple #[.pointer (some ⟨w.heap.size, 0, none⟩), .int .i64 0]) ∧ RtIs w' w.heap.size (sizeN bs) sp 0 1 ∧ Below w.heap.size w w' := by
  have hq := sizeN_pos hb
  have hz : ((sizeN bs : Int) == 0) = false := by simp; omega
  have hr := fun (x : World) => rsize_any bs x
  have hs1 : ¬ (sp : Int) < 1 := by omega
  have hs2 : ¬ (64 : Int) < (sp : Int) := by omega
  generalize sizeN bs = S at *
  go_enter Tryz.func102, Tryz.ntmps102
  go_wp2_with fail
  refine (hr _).mono ?_
  rintro e y ⟨rfl, rfl⟩
  go_wp2
  go_ret2
  exact ⟨rfl, ⟨by simp, by simp, by simp, by simp, by simp, by simp⟩, (Below.refl _ _).alloc (Nat.le_refl _) _⟩
end Go.Proofs.YtfghfbmmaclcnaaGreat
