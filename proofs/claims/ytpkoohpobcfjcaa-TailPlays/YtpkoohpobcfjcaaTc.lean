/- Package tail: a tail that is there: what is done to it. -/
import Derived.Test.YtpkoohpobcfjcaaTb
namespace Go.Proofs.Ytpkoohpobcfjcaa
open Go.RowKit
theorem spI_nat (P O : Nat) : (P : Int) * 4294967296 + (O : Int) = (spN P O : Int) := by unfold spN; omega
theorem tword_any (P O : Int) (hP : 0 ≤ P ∧ P < 4294967296) (hO : 0 ≤ O ∧ O < 4294967296) (w : World) :
    Calls Try.prog 35 #[.agg #[.int .i64 P, .int .i64 O]] w fun e w' => e = .returned (.int .u64 (P * 4294967296 + O)) ∧ Below w.heap.size w w' := by
  obtain ⟨p, rfl⟩ := Int.eq_ofNat_of_zero_le hP.1
  obtain ⟨o, rfl⟩ := Int.eq_ofNat_of_zero_le hO.1
  rw [spI_nat]
  exact tword p o (by omega) (by omega) w
theorem TlAt.out {w : World} {t r b : Nat} {bs : Int} {sp P O won : Nat} (h : TlAt w t r b bs sp P O won) : ¬ InRow r b t := fun e => by
  rcases e with e | e
  · exact h.nr e.symm
  · exact h.nb e.symm
theorem TlAt.turned {w w' : World} {t r b : Nat} {bs : Int} {sp P O won P' O' won' : Nat} (h : TlAt w t r b bs sp P O won) (hk : Keeps (InRow r b) w w')
    (hr : RowIs w' r b 1 (updV (fun _ => (spN P O : Int)) 0 (spN P' O' : Int)) (won' : Int) 0) (hp : P' < sp) (ho : O' ≤ 1024) : TlAt w' t r b bs sp P' O' won' := by
  have hl := h.lt
  have ht := h.out
  exact ⟨by rw [hk.cell hl ht]; exact h.c0, by rw [hk.cell hl ht]; exact h.c1, by rw [hk.cell hl ht]; exact h.c2, hr.same (fun i hi => by rw [show i = 0 by omega, updV_same]), h.nb, h.nr, h.hb, h.hs, hp, ho⟩
section
variable {w : World} {t r b : Nat} {bs : Int} {sp P O won : Nat}
set_option maxHeartbeats 1000000 in
theorem tnext_last (h : TlAt w t r b bs sp P O won) (hl : sp ≤ P + 1) :
    Calls Try.prog 33 #[.pointer (some ⟨t, 0, none⟩), spV P O] w fun e w' => e = .returned (.tuple #[.bool true, .int .i64 9]) ∧ Below w.heap.size w w' := by
  have hla := tlast (h.alloc (Obj.cells #[.int .i64 (P : Int), .int .i64 (O : Int)] 56)) P
  rw [show decide (sp ≤ P + 1) = true by simp; omega] at hla
  clear h
  unfold spV
  go_enter Try.func33, Try.ntmps33
  go_wp2_with fail
  refine hla.mono ?_
  rintro e y ⟨rfl, rfl⟩
  go_wp2
  go_ret2
  exact ⟨rfl, (Below.refl _ _).alloc (Nat.le_refl _) _⟩
set_option maxHeartbeats 1000000 in
theorem tnext_on (h : TlAt w t r b bs sp P O won) (hl : ¬ sp ≤ P + 1) (hw : won ≤ 1000000) :
    Calls Try.prog 33 #[.pointer (some ⟨t, 0, none⟩), spV P O] w fun e w' => e = .returned (.tuple #[.bool true, .int .i64 0]) ∧ TlAt w' t r b bs sp (P + 1) 0 (won + 1) ∧ Keeps (InRow r b) w w' := by
  have h0 := h.alloc (Obj.cells #[.int .i64 (P : Int), .int .i64 (O : Int)] 56)
  have hla := tlast h0 P
  rw [show decide (sp ≤ P + 1) = false by simp; omega] at hla
  have hp := h.hp
  have hs := h.hs
  have ho := h.ho
  have c2 := h0.c2
  have h1 := h0.drew 1
  have hX := hide (spI_nat P O)
  have hY : Hid (((P : Int) + 1) * 4294967296 + 0 = (spN (P + 1) 0 : Int)) := by rw [← spI_nat]; simp [Hid]
  have hB : Below w.heap.size w ((w.alloc (Obj.cells #[.int .i64 (P : Int), .int .i64 (O : Int)] 56)).drewN 1) := below_drewN ((Below.refl _ _).alloc (Nat.le_refl _) _) 1
  have hS : Hid (∀ y, Below ((w.alloc (Obj.cells #[.int .i64 (P : Int), .int .i64 (O : Int)] 56)).drewN 1).heap.size ((w.alloc (Obj.cells #[.int .i64 (P : Int), .int .i64 (O : Int)] 56)).drewN 1) y → y.cell? ⟨t, 2, none⟩ = some (.pointer (some ⟨r, 0, none⟩)) ∧ y.cell? ⟨w.heap.size, 0, none⟩ = some (.int .i64 (P : Int)) ∧ y.cell? ⟨w.heap.size, 1, none⟩ = some (.int .i64 (O : Int))) := fun y b1 =>
    ⟨by rw [b1.cell h1.lt]; exact h1.c2, by rw [b1.cell (by simp)]; simp, by rw [b1.cell (by simp)]; simp⟩
  have hnt : ¬ InRow r b t := h.out
  have hwr : Hid (IntKind.i64.wrap ((P : Int) + 1) = (P : Int) + 1) := by
    have := i64_of_nat (n := P + 1) (by omega)
    rw [show ((P + 1 : Nat) : Int) = (P : Int) + 1 by omega] at this
    exact this
  have hnw : ¬ InRow r b w.heap.size := fun e => by
    have hbl : b < w.heap.size := World.block_lt_of_cell? w _ (h.row.cs 0 (by decide))
    have hrl : r < w.heap.size := World.block_lt_of_cell? w _ h.row.c0
    rcases e with e | e <;> omega
  clear h
  unfold spV
  go_enter Try.func33, Try.ntmps33
  go_wp2_with fail
  refine hla.mono ?_
  rintro e y ⟨rfl, rfl⟩
  go_wp2
  go_region_held3 (fun W => W.cell? ⟨t, 2, none⟩ = some (.pointer (some ⟨r, 0, none⟩)) ∧ W.cell? ⟨w.heap.size, 0, none⟩ = some (.int .i64 (P : Int)) ∧ W.cell? ⟨w.heap.size, 1, none⟩ = some (.int .i64 (O : Int))) (first | assumption | go_keep | (simp; done)) (first | (go_at_call 35; refine (tword_any _ _ (by omega) (by omega) _).mono ?_; rintro e y1 ⟨rfl, b1⟩; rw [hX.out]; have q1 := hS.out y1 b1) | (go_at_call 35; rw [hwr.out]; refine (tword_any _ _ (by omega) (by omega) _).mono ?_; rintro e y2 ⟨rfl, b2⟩; rw [hY.out]; have b2' := b1.trans (b2.mono b1.size); have q2 := hS.out y2 b2'; have h2 := h1.below b2') | (go_at_call 44; refine (kcas_hit h2.row 0 (by decide) ((spN P O : Nat) : Int) rfl ((spN (P + 1) 0 : Nat) : Int) (by omega)).mono ?_; rintro e y3 ⟨rfl, hr3, k3⟩; have q3 : y3.cell? ⟨t, 2, none⟩ = some (.pointer (some ⟨r, 0, none⟩)) ∧ y3.cell? ⟨w.heap.size, 0, none⟩ = some (.int .i64 (P : Int)) ∧ y3.cell? ⟨w.heap.size, 1, none⟩ = some (.int .i64 (O : Int)) := ⟨by rw [k3.cell h2.lt hnt]; exact q2.1, by rw [k3.cell (World.block_lt_of_cell? y2 _ q2.2.1) hnw]; exact q2.2.1, by rw [k3.cell (World.block_lt_of_cell? y2 _ q2.2.2) hnw]; exact q2.2.2⟩))
  go_wp2
  go_ret2
  have h3 : TlAt y3 t r b bs sp (P + 1) 0 (won + 1) := h2.turned k3 (by rw [show ((won + 1 : Nat) : Int) = (won : Int) + 1 by omega]; exact hr3) (by omega) (by omega)
  have hB2 := hB.trans (b2'.mono hB.size)
  exact ⟨rfl, h3, (Below.keeps hB2).trans k3 (fun _ _ h => h)⟩
end
end Go.Proofs.Ytpkoohpobcfjcaa
