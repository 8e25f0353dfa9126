/- Package tail: a tail that is there: addresses, what it tells of itself. -/
import Derived.Test.YtpkoohpobcfjcaaTa
import Derived.Deep.RegionHeld3
namespace Go.Proofs.Ytpkoohpobcfjcaa
open Go.RowKit
theorem ofV_first (b : Int) (h : 5 ≤ b ∧ b ≤ 9) (p : Nat) (hp : p ≤ 1000) : ofV b (p : Int) 0 = p * sizeN b := by
  have hs := sizeN_bounds b
  have hq := sizeN_pos h
  have e : 2 ^ b.toNat = sizeN b := (sizeN_yes h).symm
  have hA : ofArg b (p : Int) 0 = false := by
    simp only [ofArg, decide_eq_false_iff_not, Decidable.not_not]
    exact ⟨h, by omega, by decide, by omega⟩
  have hm : p * sizeN b ≤ 1000 * 512 := Nat.mul_le_mul hp hs
  simp only [ofV, hA, Bool.false_eq_true, if_false, Int.toNat_natCast, e]
  rw [if_pos (by simp; omega)]
  simp
theorem fld_page (P O : Nat) : ∀ w : World, (Instr.field 56 (.agg #[.int .i64 (P : Int), .int .i64 (O : Int)]) 0).run Try.prog w = .ok (.int .i64 (P : Int)) w := fun _ => by kernel_rfl
section
variable {w : World} {t r b : Nat} {bs : Int} {sp P O won : Nat}
set_option maxHeartbeats 1000000 in
theorem taddr (h : TlAt w t r b bs sp P O won) (P' O' : Nat) (hP : P' ≤ 1000) (hO : O' ≤ 9223372036854775807) :
    Calls Try.prog 37 #[.pointer (some ⟨t, 0, none⟩), spV P' O'] w fun e w' => e = .returned (.int .u64 ((P' * sizeN bs + min O' (sizeN bs) : Nat) : Int)) ∧ Below w.heap.size w w' := by
  have hb := h.hb
  have hs := sizeN_bounds bs
  have hm : P' * sizeN bs ≤ 1000 * 512 := Nat.mul_le_mul hP hs
  have hF := fun (x : World) => first_any bs (P' : Int) x (by omega)
  rw [ofV_first bs hb P' hP] at hF
  have hT := fun (x : World) (hx : TlAt x t r b bs sp P O won) => toffset hx P' O'
  have hV : addV (P' * sizeN bs) ((min O' (sizeN bs) : Nat) : Int) = P' * sizeN bs + min O' (sizeN bs) := by
    simp only [addV, Int.toNat_natCast]
    rw [if_pos (by omega), if_pos (by omega)]
  have hE : addE (P' * sizeN bs) ((min O' (sizeN bs) : Nat) : Int) = 0 := by
    simp only [addE, Int.toNat_natCast]
    rw [if_pos (by omega), if_pos (by omega)]
  have hM : min O' (sizeN bs) ≤ 512 := by omega
  have hA := fun (x : World) => add_any (P' * sizeN bs) ((min O' (sizeN bs) : Nat) : Int) x (by omega)
  rw [hV, hE] at hA
  generalize P' * sizeN bs + min O' (sizeN bs) = A at *
  generalize P' * sizeN bs = F at *
  generalize min O' (sizeN bs) = M at *
  have h0 := h.alloc (Obj.cells #[.int .i64 (P' : Int), .int .i64 (O' : Int)] 56)
  have c0 := h0.c0
  have h1 := h0.drew 1
  have hB : Below w.heap.size w ((w.alloc (Obj.cells #[.int .i64 (P' : Int), .int .i64 (O' : Int)] 56)).drewN 1) := below_drewN ((Below.refl _ _).alloc (Nat.le_refl _) _) 1
  have hS : Hid (∀ y, Below ((w.alloc (Obj.cells #[.int .i64 (P' : Int), .int .i64 (O' : Int)] 56)).drewN 1).heap.size ((w.alloc (Obj.cells #[.int .i64 (P' : Int), .int .i64 (O' : Int)] 56)).drewN 1) y → y.cell? ⟨t, 0, none⟩ = some (.int .i64 bs) ∧ y.cell? ⟨w.heap.size, 0, none⟩ = some (.int .i64 (P' : Int)) ∧ y.cell? ⟨w.heap.size, 1, none⟩ = some (.int .i64 (O' : Int))) := fun y b1 =>
    ⟨by rw [b1.cell h1.lt]; exact h1.c0, by rw [b1.cell (by simp)]; simp, by rw [b1.cell (by simp)]; simp⟩
  clear hV hE hm hs
  unfold spV at *
  go_enter Try.func37, Try.ntmps37
  go_wp2
  go_region_held3 (fun W => W.cell? ⟨t, 0, none⟩ = some (.int .i64 bs) ∧ W.cell? ⟨w.heap.size, 0, none⟩ = some (.int .i64 (P' : Int)) ∧ W.cell? ⟨w.heap.size, 1, none⟩ = some (.int .i64 (O' : Int))) (first | assumption | go_keep | (simp; done)) (first | (go_at_call 47; refine (hF _).mono ?_; rintro e y1 ⟨rfl, b1⟩; have q1 := hS.out y1 b1) | (go_at_call 36; refine (hT y1 (h1.below b1)).mono ?_; rintro e y2 ⟨rfl, b2⟩; have b2' := b1.trans (b2.mono b1.size); have q2 := hS.out y2 b2') | (go_at_call 46; refine (hA _).mono ?_; rintro e y3 ⟨rfl, b3⟩; have b3' := b2'.trans (b3.mono b2'.size); have q3 := hS.out y3 b3'))
  go_wp2
  go_ret
  exact ⟨rfl, hB.trans (b3'.mono hB.size)⟩
set_option maxHeartbeats 400000 in
theorem tPage (h : TlAt w t r b bs sp P O won) :
    Calls Try.prog 17 #[.pointer (some ⟨t, 0, none⟩)] w fun e w' => e = .returned (.int .i64 (P : Int)) ∧ Below w.heap.size w w' := by
  go_enter Try.func17, Try.ntmps17
  go_wp2_with fail
  refine (tat h).mono ?_
  rintro e x ⟨rfl, b1⟩
  unfold spV
  have hfd := fld_page P O
  go_wp2
  go_ret
  exact ⟨rfl, b1⟩
set_option maxHeartbeats 400000 in
theorem tOffset (h : TlAt w t r b bs sp P O won) :
    Calls Try.prog 18 #[.pointer (some ⟨t, 0, none⟩)] w fun e w' => e = .returned (.int .i64 ((min O (sizeN bs) : Nat) : Int)) ∧ Below w.heap.size w w' := by
  go_enter Try.func18, Try.ntmps18
  go_wp2_with fail
  refine (tat h).mono ?_
  rintro e x ⟨rfl, b1⟩
  go_wp2_with fail
  refine (toffset (h.below b1) P O).mono ?_
  rintro e y ⟨rfl, b2⟩
  go_wp2
  go_ret
  exact ⟨rfl, b1.trans (b2.mono b1.size)⟩
set_option maxHeartbeats 400000 in
theorem tOver (h : TlAt w t r b bs sp P O won) :
    Calls Try.prog 19 #[.pointer (some ⟨t, 0, none⟩)] w fun e w' => e = .returned (.bool (decide (sizeN bs < O))) ∧ Below w.heap.size w w' := by
  have hv := fun (x : World) (hx : TlAt x t r b bs sp P O won) => tover hx P O
  generalize decide (sizeN bs < O) = d at *
  go_enter Try.func19, Try.ntmps19
  go_wp2_with fail
  refine (tat h).mono ?_
  rintro e x ⟨rfl, b1⟩
  go_wp2_with fail
  refine (hv _ (h.below b1)).mono ?_
  rintro e y ⟨rfl, b2⟩
  go_wp2
  go_ret
  exact ⟨rfl, b1.trans (b2.mono b1.size)⟩
set_option maxHeartbeats 400000 in
theorem tAddr (h : TlAt w t r b bs sp P O won) :
    Calls Try.prog 20 #[.pointer (some ⟨t, 0, none⟩)] w fun e w' => e = .returned (.int .u64 ((P * sizeN bs + min O (sizeN bs) : Nat) : Int)) ∧ Below w.heap.size w w' := by
  have hp := h.hp
  have hs := h.hs
  have ho := h.ho
  have hv := fun (x : World) (hx : TlAt x t r b bs sp P O won) => taddr hx P O (by omega) (by omega)
  generalize P * sizeN bs + min O (sizeN bs) = A at *
  go_enter Try.func20, Try.ntmps20
  go_wp2_with fail
  refine (tat h).mono ?_
  rintro e x ⟨rfl, b1⟩
  go_wp2_with fail
  refine (hv _ (h.below b1)).mono ?_
  rintro e y ⟨rfl, b2⟩
  go_wp2
  go_ret
  exact ⟨rfl, b1.trans (b2.mono b1.size)⟩
set_option maxHeartbeats 400000 in
theorem tLast (h : TlAt w t r b bs sp P O won) :
    Calls Try.prog 21 #[.pointer (some ⟨t, 0, none⟩)] w fun e w' => e = .returned (.bool (decide (sp ≤ P + 1))) ∧ Below w.heap.size w w' := by
  have hv := fun (x : World) (hx : TlAt x t r b bs sp P O won) => tlast hx P
  generalize decide (sp ≤ P + 1) = d at *
  go_enter Try.func21, Try.ntmps21
  go_wp2_with fail
  refine (tat h).mono ?_
  rintro e x ⟨rfl, b1⟩
  unfold spV
  have hfd := fld_page P O
  go_wp2_with fail
  refine (hv _ (h.below b1)).mono ?_
  rintro e y ⟨rfl, rfl⟩
  go_wp2
  go_ret
  exact ⟨rfl, b1⟩
/-- What comes of asking for n words at a place. -/
def roomK (S sp P O n : Nat) : Nat := if O + n ≤ S then 1 else if sp ≤ P + 1 then 4 else if S < O then 3 else 2
def roomA (S P O n : Nat) : Nat := if O + n ≤ S then P * S + O else 0
set_option maxHeartbeats 1000000 in
theorem troom (h : TlAt w t r b bs sp P O won) (P' O' n : Nat) (hP : P' ≤ 1000) (hO : O' ≤ 4294967296) (hn : n ≤ 4294967296) :
    Calls Try.prog 32 #[.pointer (some ⟨t, 0, none⟩), spV P' O', .int .i64 (n : Int)] w fun e w' => e = .returned (.tuple #[.int .u64 (roomA (sizeN bs) P' O' n : Int), .int .i64 (roomK (sizeN bs) sp P' O' n : Int)]) ∧ Below w.heap.size w w' := by
  have hb := h.hb
  have hs := sizeN_bounds bs
  have h0 := h.alloc (Obj.cells #[.int .i64 (P' : Int), .int .i64 (O' : Int)] 56)
  have hz := fun k => tsize (h0.drew k)
  have hB : Below w.heap.size w (w.alloc (Obj.cells #[.int .i64 (P' : Int), .int .i64 (O' : Int)] 56)) := (Below.refl _ _).alloc (Nat.le_refl _) _
  have hla := fun (x : World) (hx : TlAt x t r b bs sp P O won) => tlast hx P'
  have hov := fun (x : World) (hx : TlAt x t r b bs sp P O won) => tover hx P' O'
  have had := fun (x : World) (hx : TlAt x t r b bs sp P O won) => taddr hx P' O' hP (by omega)
  by_cases g1 : O' + n ≤ sizeN bs
  · have e1 : roomK (sizeN bs) sp P' O' n = 1 := by rw [roomK, if_pos g1]
    have e2 : roomA (sizeN bs) P' O' n = P' * sizeN bs + O' := by rw [roomA, if_pos g1]
    rw [e1, e2]
    rw [show min O' (sizeN bs) = O' by omega] at had
    generalize P' * sizeN bs + O' = A at *
    generalize sizeN bs = S at *
    clear e1 e2 hla hov h
    have HS := hide hs
    clear hs
    have g1' : decide ((O' : Int) + (n : Int) ≤ (S : Int)) = true := by simp; omega
    unfold spV at *
    go_enter Try.func32, Try.ntmps32
    go_wp2
    go_quiet ((go_at_call 27; exact Calls.quiet_of_same (hz _)))
    go_wp2_with fail
    refine (had _ (h0.drew _)).mono ?_
    rintro e y ⟨rfl, b2⟩
    go_wp2
    go_ret2
    exact ⟨rfl, (below_drewN hB _).trans (b2.mono (below_drewN hB _).size)⟩
  · have g1' : decide ((O' : Int) + (n : Int) ≤ (sizeN bs : Int)) = false := by simp; omega
    have e2 : roomA (sizeN bs) P' O' n = 0 := by rw [roomA, if_neg g1]
    rw [e2]
    have c0 : ∀ k, ((w.alloc (Obj.cells #[.int .i64 (P' : Int), .int .i64 (O' : Int)] 56)).drewN k).cell? ⟨w.heap.size, 0, none⟩ = some (.int .i64 (P' : Int)) := fun k => by simp
    by_cases g2 : sp ≤ P' + 1
    · have e1 : roomK (sizeN bs) sp P' O' n = 4 := by rw [roomK, if_neg g1, if_pos g2]
      rw [e1]
      have g2' : decide (sp ≤ P' + 1) = true := by simp; omega
      rw [g2'] at hla
      generalize sizeN bs = S at *
      clear e1 e2 h had hov hs
      unfold spV at *
      go_enter Try.func32, Try.ntmps32
      go_wp2
      go_quiet ((go_at_call 27; exact Calls.quiet_of_same (hz _)))
      go_wp2_with fail
      refine (hla _ (h0.drew _)).mono ?_
      rintro e y ⟨rfl, rfl⟩
      go_wp2
      go_ret2
      exact ⟨rfl, below_drewN hB _⟩
    have g2' : decide (sp ≤ P' + 1) = false := by simp; omega
    rw [g2'] at hla
    by_cases g3 : sizeN bs < O'
    · have e1 : roomK (sizeN bs) sp P' O' n = 3 := by rw [roomK, if_neg g1, if_neg g2, if_pos g3]
      rw [e1]
      have g3' : decide (sizeN bs < O') = true := by simp; omega
      rw [g3'] at hov
      generalize sizeN bs = S at *
      clear e1 e2 h had hs
      unfold spV at *
      go_enter Try.func32, Try.ntmps32
      go_wp2
      go_quiet ((go_at_call 27; exact Calls.quiet_of_same (hz _)))
      go_wp2_with fail
      refine (hla _ (h0.drew _)).mono ?_
      rintro e y ⟨rfl, rfl⟩
      go_wp2_with fail
      refine (hov _ (h0.drew _)).mono ?_
      rintro e y ⟨rfl, b2⟩
      go_wp2
      go_ret2
      exact ⟨rfl, (below_drewN hB _).trans (b2.mono (below_drewN hB _).size)⟩
    · have e1 : roomK (sizeN bs) sp P' O' n = 2 := by rw [roomK, if_neg g1, if_neg g2, if_neg g3]
      rw [e1]
      have g3' : decide (sizeN bs < O') = false := by simp; omega
      rw [g3'] at hov
      generalize sizeN bs = S at *
      clear e1 e2 h had hs
      unfold spV at *
      go_enter Try.func32, Try.ntmps32
      go_wp2
      go_quiet ((go_at_call 27; exact Calls.quiet_of_same (hz _)))
      go_wp2_with fail
      refine (hla _ (h0.drew _)).mono ?_
      rintro e y ⟨rfl, rfl⟩
      go_wp2_with fail
      refine (hov _ (h0.drew _)).mono ?_
      rintro e y ⟨rfl, b2⟩
      go_wp2
      go_ret2
      exact ⟨rfl, (below_drewN hB _).trans (b2.mono (below_drewN hB _).size)⟩
end
end Go.Proofs.Ytpkoohpobcfjcaa
