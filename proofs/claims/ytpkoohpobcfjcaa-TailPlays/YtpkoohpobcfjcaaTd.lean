/- Package tail: a tail that is there: Turn and Close. -/
import Derived.Test.YtpkoohpobcfjcaaTc
namespace Go.Proofs.Ytpkoohpobcfjcaa
open Go.RowKit
section
variable {w : World} {t r b : Nat} {bs : Int} {sp P O won : Nat}
set_option maxHeartbeats 1000000 in
theorem tTurn_no (h : TlAt w t r b bs sp P O won) (hl : O ≤ sizeN bs) :
    Calls Try.prog 11 #[.pointer (some ⟨t, 0, none⟩)] w fun e w' => e = .returned (.int .i64 7) ∧ Below w.heap.size w w' := by
  have hov := fun (x : World) (hx : TlAt x t r b bs sp P O won) => tover hx P O
  rw [show decide (sizeN bs < O) = false by simp; omega] at hov
  go_enter Try.func11, Try.ntmps11
  go_wp2_with fail
  refine (tat h).mono ?_
  rintro e y ⟨rfl, b1⟩
  have h1 := (h.below b1).alloc (Obj.cells #[.int .i64 (P : Int), .int .i64 (O : Int)] 56)
  have hB : Below w.heap.size w (y.alloc (Obj.cells #[.int .i64 (P : Int), .int .i64 (O : Int)] 56)) := b1.alloc b1.size _
  clear h b1
  unfold spV at *
  go_wp2
  go_loopw [3] (fun i wr => i = .pointer (some ⟨y.heap.size, 0, none⟩) ∧ wr = y.alloc (Obj.cells #[.int .i64 (P : Int), .int .i64 (O : Int)] 56)) (fun _ _ => 0)
  case atStart => exact ⟨rfl, rfl⟩
  case round =>
    obtain ⟨rfl, rfl⟩ := hrel
    go_wp2_with fail
    refine (hov _ h1).mono ?_
    rintro e z ⟨rfl, b2⟩
    go_wp2
    go_ret
    exact ⟨rfl, hB.trans (b2.mono hB.size)⟩
set_option maxHeartbeats 1000000 in
theorem tTurn_last (h : TlAt w t r b bs sp P O won) (hl : sizeN bs < O) (hp : sp ≤ P + 1) :
    Calls Try.prog 11 #[.pointer (some ⟨t, 0, none⟩)] w fun e w' => e = .returned (.int .i64 9) ∧ Below w.heap.size w w' := by
  have hov := fun (x : World) (hx : TlAt x t r b bs sp P O won) => tover hx P O
  rw [show decide (sizeN bs < O) = true by simp; omega] at hov
  have hnx := fun (x : World) (hx : TlAt x t r b bs sp P O won) => tnext_last hx hp
  go_enter Try.func11, Try.ntmps11
  go_wp2_with fail
  refine (tat h).mono ?_
  rintro e y ⟨rfl, b1⟩
  have h1 := (h.below b1).alloc (Obj.cells #[.int .i64 (P : Int), .int .i64 (O : Int)] 56)
  have hB : Below w.heap.size w (y.alloc (Obj.cells #[.int .i64 (P : Int), .int .i64 (O : Int)] 56)) := b1.alloc b1.size _
  clear h b1
  unfold spV at *
  go_wp2
  go_loopw [3] (fun i wr => i = .pointer (some ⟨y.heap.size, 0, none⟩) ∧ wr = y.alloc (Obj.cells #[.int .i64 (P : Int), .int .i64 (O : Int)] 56)) (fun _ _ => 0)
  case atStart => exact ⟨rfl, rfl⟩
  case round =>
    obtain ⟨rfl, rfl⟩ := hrel
    go_wp2_with fail
    refine (hov _ h1).mono ?_
    rintro e z ⟨rfl, b2⟩
    have c0 : z.cell? ⟨y.heap.size, 0, none⟩ = some (.int .i64 (P : Int)) := by rw [b2.cell (by simp)]; simp
    have c1 : z.cell? ⟨y.heap.size, 1, none⟩ = some (.int .i64 (O : Int)) := by rw [b2.cell (by simp)]; simp
    go_wp2_with fail
    refine (hnx _ (h1.below b2)).mono ?_
    rintro e z3 ⟨rfl, b3⟩
    go_wp2
    go_ret
    exact ⟨rfl, (hB.trans (b2.mono hB.size)).trans (b3.mono (hB.trans (b2.mono hB.size)).size)⟩
set_option maxHeartbeats 1000000 in
theorem tTurn_on (h : TlAt w t r b bs sp P O won) (hl : sizeN bs < O) (hp : ¬ sp ≤ P + 1) (hw : won ≤ 1000000) :
    Calls Try.prog 11 #[.pointer (some ⟨t, 0, none⟩)] w fun e w' => e = .returned (.int .i64 0) ∧ TlAt w' t r b bs sp (P + 1) 0 (won + 1) ∧ Keeps (InRow r b) w w' := by
  have hov := fun (x : World) (hx : TlAt x t r b bs sp P O won) => tover hx P O
  rw [show decide (sizeN bs < O) = true by simp; omega] at hov
  have hnx := fun (x : World) (hx : TlAt x t r b bs sp P O won) => tnext_on hx hp hw
  go_enter Try.func11, Try.ntmps11
  go_wp2_with fail
  refine (tat h).mono ?_
  rintro e y ⟨rfl, b1⟩
  have h1 := (h.below b1).alloc (Obj.cells #[.int .i64 (P : Int), .int .i64 (O : Int)] 56)
  have hB : Below w.heap.size w (y.alloc (Obj.cells #[.int .i64 (P : Int), .int .i64 (O : Int)] 56)) := b1.alloc b1.size _
  clear h b1
  unfold spV at *
  go_wp2
  go_loopw [3] (fun i wr => i = .pointer (some ⟨y.heap.size, 0, none⟩) ∧ wr = y.alloc (Obj.cells #[.int .i64 (P : Int), .int .i64 (O : Int)] 56)) (fun _ _ => 0)
  case atStart => exact ⟨rfl, rfl⟩
  case round =>
    obtain ⟨rfl, rfl⟩ := hrel
    go_wp2_with fail
    refine (hov _ h1).mono ?_
    rintro e z ⟨rfl, b2⟩
    have c0 : z.cell? ⟨y.heap.size, 0, none⟩ = some (.int .i64 (P : Int)) := by rw [b2.cell (by simp)]; simp
    have c1 : z.cell? ⟨y.heap.size, 1, none⟩ = some (.int .i64 (O : Int)) := by rw [b2.cell (by simp)]; simp
    go_wp2_with fail
    refine (hnx _ (h1.below b2)).mono ?_
    rintro e z3 ⟨rfl, h3, k3⟩
    go_wp2
    go_ret
    exact ⟨rfl, h3, (Below.keeps (hB.trans (b2.mono hB.size))).trans k3 (fun _ _ h => h)⟩
set_option maxHeartbeats 1000000 in
theorem tClose_no (h : TlAt w t r b bs sp P O won) (hl : O = 0) :
    Calls Try.prog 13 #[.pointer (some ⟨t, 0, none⟩)] w fun e w' => e = .returned (.int .i64 0) ∧ Below w.heap.size w w' := by
  replace hl : ¬ 0 < O := by omega
  go_enter Try.func13, Try.ntmps13
  go_wp2_with fail
  refine (tat h).mono ?_
  rintro e y ⟨rfl, b1⟩
  have h1 := (h.below b1).alloc (Obj.cells #[.int .i64 (P : Int), .int .i64 (O : Int)] 56)
  have hB : Below w.heap.size w (y.alloc (Obj.cells #[.int .i64 (P : Int), .int .i64 (O : Int)] 56)) := b1.alloc b1.size _
  clear h b1
  unfold spV at *
  go_wp2
  go_loopw [3] (fun i wr => i = .pointer (some ⟨y.heap.size, 0, none⟩) ∧ wr = y.alloc (Obj.cells #[.int .i64 (P : Int), .int .i64 (O : Int)] 56)) (fun _ _ => 0)
  case atStart => exact ⟨rfl, rfl⟩
  case round =>
    obtain ⟨rfl, rfl⟩ := hrel
    go_wp2
    go_ret
    exact ⟨rfl, hB⟩
set_option maxHeartbeats 1000000 in
theorem tClose_last (h : TlAt w t r b bs sp P O won) (hl : 0 < O) (hp : sp ≤ P + 1) :
    Calls Try.prog 13 #[.pointer (some ⟨t, 0, none⟩)] w fun e w' => e = .returned (.int .i64 9) ∧ Below w.heap.size w w' := by
  have hnx := fun (x : World) (hx : TlAt x t r b bs sp P O won) => tnext_last hx hp
  go_enter Try.func13, Try.ntmps13
  go_wp2_with fail
  refine (tat h).mono ?_
  rintro e y ⟨rfl, b1⟩
  have h1 := (h.below b1).alloc (Obj.cells #[.int .i64 (P : Int), .int .i64 (O : Int)] 56)
  have hB : Below w.heap.size w (y.alloc (Obj.cells #[.int .i64 (P : Int), .int .i64 (O : Int)] 56)) := b1.alloc b1.size _
  clear h b1
  unfold spV at *
  go_wp2
  go_loopw [3] (fun i wr => i = .pointer (some ⟨y.heap.size, 0, none⟩) ∧ wr = y.alloc (Obj.cells #[.int .i64 (P : Int), .int .i64 (O : Int)] 56)) (fun _ _ => 0)
  case atStart => exact ⟨rfl, rfl⟩
  case round =>
    obtain ⟨rfl, rfl⟩ := hrel
    go_wp2_with fail
    refine (hnx _ h1).mono ?_
    rintro e z3 ⟨rfl, b3⟩
    go_wp2
    go_ret
    exact ⟨rfl, hB.trans (b3.mono hB.size)⟩
set_option maxHeartbeats 1000000 in
theorem tClose_on (h : TlAt w t r b bs sp P O won) (hl : 0 < O) (hp : ¬ sp ≤ P + 1) (hw : won ≤ 1000000) :
    Calls Try.prog 13 #[.pointer (some ⟨t, 0, none⟩)] w fun e w' => e = .returned (.int .i64 0) ∧ TlAt w' t r b bs sp (P + 1) 0 (won + 1) ∧ Keeps (InRow r b) w w' := by
  have hnx := fun (x : World) (hx : TlAt x t r b bs sp P O won) => tnext_on hx hp hw
  go_enter Try.func13, Try.ntmps13
  go_wp2_with fail
  refine (tat h).mono ?_
  rintro e y ⟨rfl, b1⟩
  have h1 := (h.below b1).alloc (Obj.cells #[.int .i64 (P : Int), .int .i64 (O : Int)] 56)
  have hB : Below w.heap.size w (y.alloc (Obj.cells #[.int .i64 (P : Int), .int .i64 (O : Int)] 56)) := b1.alloc b1.size _
  clear h b1
  unfold spV at *
  go_wp2
  go_loopw [3] (fun i wr => i = .pointer (some ⟨y.heap.size, 0, none⟩) ∧ wr = y.alloc (Obj.cells #[.int .i64 (P : Int), .int .i64 (O : Int)] 56)) (fun _ _ => 0)
  case atStart => exact ⟨rfl, rfl⟩
  case round =>
    obtain ⟨rfl, rfl⟩ := hrel
    go_wp2_with fail
    refine (hnx _ h1).mono ?_
    rintro e z3 ⟨rfl, h3, k3⟩
    go_wp2
    go_ret
    exact ⟨rfl, h3, (Below.keeps hB).trans k3 (fun _ _ h => h)⟩
/-- What Turn and Close tell, and where the tail is behind them. -/
def turnE (S sp P O : Nat) : Int := if O ≤ S then 7 else if sp ≤ P + 1 then 9 else 0
def turnP (S sp P O : Nat) : Nat := if O ≤ S ∨ sp ≤ P + 1 then P else P + 1
def turnO (S sp P O : Nat) : Nat := if O ≤ S ∨ sp ≤ P + 1 then O else 0
def closeE (sp P O : Nat) : Int := if O = 0 then 0 else if sp ≤ P + 1 then 9 else 0
def closeP (sp P O : Nat) : Nat := if O = 0 ∨ sp ≤ P + 1 then P else P + 1
def closeO (sp P O : Nat) : Nat := if O = 0 ∨ sp ≤ P + 1 then O else 0
theorem tTurn (h : TlAt w t r b bs sp P O won) (hw : won ≤ 1000000) :
    Calls Try.prog 11 #[.pointer (some ⟨t, 0, none⟩)] w fun e w' => e = .returned (.int .i64 (turnE (sizeN bs) sp P O)) ∧ (∃ won', won' ≤ won + 1 ∧ TlAt w' t r b bs sp (turnP (sizeN bs) sp P O) (turnO (sizeN bs) sp P O) won') ∧ Keeps (InRow r b) w w' := by
  unfold turnE turnP turnO
  by_cases g1 : O ≤ sizeN bs
  · rw [if_pos g1, if_pos (.inl g1), if_pos (.inl g1)]
    exact (tTurn_no h g1).mono fun e w' ⟨h1, h2⟩ => ⟨h1, ⟨won, by omega, h.below h2⟩, Below.keeps h2⟩
  · by_cases g2 : sp ≤ P + 1
    · rw [if_neg g1, if_pos g2, if_pos (.inr g2), if_pos (.inr g2)]
      exact (tTurn_last h (by omega) g2).mono fun e w' ⟨h1, h2⟩ => ⟨h1, ⟨won, by omega, h.below h2⟩, Below.keeps h2⟩
    · rw [if_neg g1, if_neg g2, if_neg (by omega), if_neg (by omega)]
      exact (tTurn_on h (by omega) g2 hw).mono fun e w' ⟨h1, h2, h3⟩ => ⟨h1, ⟨won + 1, by omega, h2⟩, h3⟩
theorem tClose (h : TlAt w t r b bs sp P O won) (hw : won ≤ 1000000) :
    Calls Try.prog 13 #[.pointer (some ⟨t, 0, none⟩)] w fun e w' => e = .returned (.int .i64 (closeE sp P O)) ∧ (∃ won', won' ≤ won + 1 ∧ TlAt w' t r b bs sp (closeP sp P O) (closeO sp P O) won') ∧ Keeps (InRow r b) w w' := by
  unfold closeE closeP closeO
  by_cases g1 : O = 0
  · rw [if_pos g1, if_pos (.inl g1), if_pos (.inl g1)]
    exact (tClose_no h g1).mono fun e w' ⟨h1, h2⟩ => ⟨h1, ⟨won, by omega, h.below h2⟩, Below.keeps h2⟩
  · by_cases g2 : sp ≤ P + 1
    · rw [if_neg g1, if_pos g2, if_pos (.inr g2), if_pos (.inr g2)]
      exact (tClose_last h (by omega) g2).mono fun e w' ⟨h1, h2⟩ => ⟨h1, ⟨won, by omega, h.below h2⟩, Below.keeps h2⟩
    · rw [if_neg g1, if_neg g2, if_neg (by omega), if_neg (by omega)]
      exact (tClose_on h (by omega) g2 hw).mono fun e w' ⟨h1, h2, h3⟩ => ⟨h1, ⟨won + 1, by omega, h2⟩, h3⟩
end
end Go.Proofs.Ytpkoohpobcfjcaa
