/- Package tail: a tail that is there: Begin, New, Take; a nil tail; the chapter's example (awake). -/
import Derived.Test.YtpkoohpobcfjcaaTd
namespace Go.Proofs.Ytpkoohpobcfjcaa
open Go.RowKit
theorem TlAt.new {w : World} {t r b : Nat} {bs : Int} {sp P O won : Nat} (h : TlAt w t r b bs sp P O won) : ¬ InRow r b w.heap.size := fun e => by
  have hbl : b < w.heap.size := World.block_lt_of_cell? w _ (h.row.cs 0 (by decide))
  have hrl : r < w.heap.size := World.block_lt_of_cell? w _ h.row.c0
  rcases e with e | e <;> omega
section
variable {w : World} {t r b : Nat} {bs : Int} {sp P O won : Nat}
set_option maxHeartbeats 1000000 in
theorem tBegin_no (h : TlAt w t r b bs sp P O won) (p : Int) (hp : p < 0 ∨ (sp : Int) ≤ p) :
    Calls Try.prog 15 #[.pointer (some ⟨t, 0, none⟩), .int .i64 p] w fun e w' => e = .returned (.int .i64 1) ∧ w' = w := by
  have c1 := h.c1
  by_cases hp0 : p < 0
  · go_enter Try.func15, Try.ntmps15
    go_wp2
    go_ret
    exact ⟨rfl, rfl⟩
  · have hp1 : (sp : Int) ≤ p := by omega
    go_enter Try.func15, Try.ntmps15
    go_wp2
    go_ret
    exact ⟨rfl, rfl⟩
set_option maxHeartbeats 1000000 in
theorem tBegin_yes (h : TlAt w t r b bs sp P O won) (p : Nat) (hp : p < sp) :
    Calls Try.prog 15 #[.pointer (some ⟨t, 0, none⟩), .int .i64 (p : Int)] w fun e w' => e = .returned (.int .i64 0) ∧ TlAt w' t r b bs sp p (if p = 0 then 1 else 0) won ∧ Keeps (InRow r b) w w' := by
  have c1 := h.c1
  have hs := h.hs
  by_cases h0 : p = 0
  · subst h0
    rw [if_pos rfl]
    have c1' : decide (sp ≤ 0) = false := by simp; omega
    have h0 := h.alloc (Obj.cells #[.int .i64 0, .int .i64 1] 56)
    have c2 := h0.c2
    have h1 := h0.drew 1
    have hX : Hid (0 * 4294967296 + 1 = (spN 0 1 : Int)) := by unfold spN Hid; omega
    have hB : Below w.heap.size w ((w.alloc (Obj.cells #[.int .i64 0, .int .i64 1] 56)).drewN 1) := below_drewN ((Below.refl _ _).alloc (Nat.le_refl _) _) 1
    have hS : Hid (∀ y, Below ((w.alloc (Obj.cells #[.int .i64 0, .int .i64 1] 56)).drewN 1).heap.size ((w.alloc (Obj.cells #[.int .i64 0, .int .i64 1] 56)).drewN 1) y → y.cell? ⟨t, 2, none⟩ = some (.pointer (some ⟨r, 0, none⟩)) ∧ y.cell? ⟨w.heap.size, 0, none⟩ = some (.int .i64 0) ∧ y.cell? ⟨w.heap.size, 1, none⟩ = some (.int .i64 1)) := fun y b1 =>
      ⟨by rw [b1.cell h1.lt]; exact h1.c2, by rw [b1.cell (by simp)]; simp, by rw [b1.cell (by simp)]; simp⟩
    have hnt : ¬ InRow r b t := h.out
    have hnw : ¬ InRow r b w.heap.size := h.new
    clear h
    go_enter Try.func15, Try.ntmps15
    go_wp2
    go_region_held3 (fun W => W.cell? ⟨t, 2, none⟩ = some (.pointer (some ⟨r, 0, none⟩)) ∧ W.cell? ⟨w.heap.size, 0, none⟩ = some (.int .i64 0) ∧ W.cell? ⟨w.heap.size, 1, none⟩ = some (.int .i64 1)) (first | assumption | go_keep | (simp; done)) (first | (go_at_call 35; refine (tword_any _ _ (by omega) (by omega) _).mono ?_; rintro e y2 ⟨rfl, b2⟩; rw [hX.out]; have q2 := hS.out y2 b2; have h2 := h1.below b2) | (go_at_call 34; refine (kstore h2.row 0 (by decide) ((spN 0 1 : Nat) : Int)).mono ?_; rintro e y3 ⟨rfl, hr3, k3⟩; have q3 : y3.cell? ⟨t, 2, none⟩ = some (.pointer (some ⟨r, 0, none⟩)) ∧ y3.cell? ⟨w.heap.size, 0, none⟩ = some (.int .i64 0) ∧ y3.cell? ⟨w.heap.size, 1, none⟩ = some (.int .i64 1) := ⟨by rw [k3.cell h2.lt hnt]; exact q2.1, by rw [k3.cell (World.block_lt_of_cell? y2 _ q2.2.1) hnw]; exact q2.2.1, by rw [k3.cell (World.block_lt_of_cell? y2 _ q2.2.2) hnw]; exact q2.2.2⟩))
    go_wp2
    go_ret
    have hB2 := hB.trans (b2.mono hB.size)
    exact ⟨rfl, h2.turned k3 hr3 (by omega) (by omega), (Below.keeps hB2).trans k3 (fun _ _ h => h)⟩
  · rw [if_neg h0]
    have c1' : decide (sp ≤ p) = false := by simp; omega
    have z0 : ((p : Int) == 0) = false := by simp; omega
    have z1 : decide (p = 0) = false := by simp; omega
    have h0 := h.alloc (Obj.cells #[.int .i64 (p : Int), .int .i64 0] 56)
    have c2 := h0.c2
    have h1 := h0.drew 1
    have hX : Hid ((p : Int) * 4294967296 + 0 = (spN p 0 : Int)) := by unfold spN Hid; omega
    have hB : Below w.heap.size w ((w.alloc (Obj.cells #[.int .i64 (p : Int), .int .i64 0] 56)).drewN 1) := below_drewN ((Below.refl _ _).alloc (Nat.le_refl _) _) 1
    have hS : Hid (∀ y, Below ((w.alloc (Obj.cells #[.int .i64 (p : Int), .int .i64 0] 56)).drewN 1).heap.size ((w.alloc (Obj.cells #[.int .i64 (p : Int), .int .i64 0] 56)).drewN 1) y → y.cell? ⟨t, 2, none⟩ = some (.pointer (some ⟨r, 0, none⟩)) ∧ y.cell? ⟨w.heap.size, 0, none⟩ = some (.int .i64 (p : Int)) ∧ y.cell? ⟨w.heap.size, 1, none⟩ = some (.int .i64 0)) := fun y b1 =>
      ⟨by rw [b1.cell h1.lt]; exact h1.c2, by rw [b1.cell (by simp)]; simp, by rw [b1.cell (by simp)]; simp⟩
    have hnt : ¬ InRow r b t := h.out
    have hnw : ¬ InRow r b w.heap.size := h.new
    clear h
    go_enter Try.func15, Try.ntmps15
    go_wp2
    go_region_held3 (fun W => W.cell? ⟨t, 2, none⟩ = some (.pointer (some ⟨r, 0, none⟩)) ∧ W.cell? ⟨w.heap.size, 0, none⟩ = some (.int .i64 (p : Int)) ∧ W.cell? ⟨w.heap.size, 1, none⟩ = some (.int .i64 0)) (first | assumption | go_keep | (simp; done)) (first | (go_at_call 35; refine (tword_any _ _ (by omega) (by omega) _).mono ?_; rintro e y2 ⟨rfl, b2⟩; rw [hX.out]; have q2 := hS.out y2 b2; have h2 := h1.below b2) | (go_at_call 34; refine (kstore h2.row 0 (by decide) ((spN p 0 : Nat) : Int)).mono ?_; rintro e y3 ⟨rfl, hr3, k3⟩; have q3 : y3.cell? ⟨t, 2, none⟩ = some (.pointer (some ⟨r, 0, none⟩)) ∧ y3.cell? ⟨w.heap.size, 0, none⟩ = some (.int .i64 (p : Int)) ∧ y3.cell? ⟨w.heap.size, 1, none⟩ = some (.int .i64 0) := ⟨by rw [k3.cell h2.lt hnt]; exact q2.1, by rw [k3.cell (World.block_lt_of_cell? y2 _ q2.2.1) hnw]; exact q2.2.1, by rw [k3.cell (World.block_lt_of_cell? y2 _ q2.2.2) hnw]; exact q2.2.2⟩))
    go_wp2
    go_ret
    have hB2 := hB.trans (b2.mono hB.size)
    exact ⟨rfl, h2.turned k3 hr3 (by omega) (by omega), (Below.keeps hB2).trans k3 (fun _ _ h => h)⟩
/-- What Begin tells, and where the tail is behind it. -/
def tbegE (sp : Nat) (p : Int) : Int := if p < 0 ∨ (sp : Int) ≤ p then 1 else 0
def tbegP (sp P : Nat) (p : Int) : Nat := if p < 0 ∨ (sp : Int) ≤ p then P else p.toNat
def tbegO (sp O : Nat) (p : Int) : Nat := if p < 0 ∨ (sp : Int) ≤ p then O else if p.toNat = 0 then 1 else 0
theorem tBegin (h : TlAt w t r b bs sp P O won) (p : Int) :
    Calls Try.prog 15 #[.pointer (some ⟨t, 0, none⟩), .int .i64 p] w fun e w' => e = .returned (.int .i64 (tbegE sp p)) ∧ TlAt w' t r b bs sp (tbegP sp P p) (tbegO sp O p) won ∧ Keeps (InRow r b) w w' := by
  unfold tbegE tbegP tbegO
  by_cases hp : p < 0 ∨ (sp : Int) ≤ p
  · rw [if_pos hp, if_pos hp, if_pos hp]
    exact (tBegin_no h p hp).mono fun e w' ⟨h1, h2⟩ => ⟨h1, by rw [h2]; exact h, by rw [h2]; exact Keeps.refl _ _⟩
  · rw [if_neg hp, if_neg hp, if_neg hp]
    obtain ⟨q, rfl⟩ := Int.eq_ofNat_of_zero_le (show 0 ≤ p by omega)
    exact tBegin_yes h q (by omega)
end
end Go.Proofs.Ytpkoohpobcfjcaa
