/- Package marks: marks that are there (At, Most, Raise, Region, Begin, All, New), and a nil set. -/
import Derived.Test.YtpnomcaionodjaaXe
namespace Go.Proofs.Ytpnomcaionodjaa
open Go.RowKit
def upM (v : Nat → Nat) (i y : Nat) : Nat → Nat := fun j => if j = i then y else v j
theorem upM_same (v : Nat → Nat) (i y : Nat) : upM v i y i = y := by simp [upM]
theorem upM_other (v : Nat → Nat) (i j y : Nat) (h : j ≠ i) : upM v i y j = v j := by simp [upM, h]
/-- Marks that are there: the struct in block t, its row in blocks r and b. -/
structure MkAt (w : World) (t r b : Nat) (v : Nat → Nat) : Prop where
  c0 : w.cell? ⟨t, 0, none⟩ = some (.pointer (some ⟨r, 0, none⟩))
  row : RowIs w r b 5 (fun i => (v i : Int)) 0 0
  ne : b ≠ t
  lt : ∀ i, i < 5 → v i ≤ 9223372036854775807
theorem MkAt.keep {w w' : World} {T : Nat → Prop} {t r b : Nat} {v : Nat → Nat} (h : MkAt w t r b v) (hk : Keeps T w w') (ht : ¬ T t) (hr : ¬ T r) (hb : ¬ T b) : MkAt w' t r b v :=
  ⟨by rw [hk.cell (World.block_lt_of_cell? w _ h.c0) ht]; exact h.c0, h.row.keep hk hr hb, h.ne, h.lt⟩
theorem MkAt.below {w w' : World} {t r b : Nat} {v : Nat → Nat} (h : MkAt w t r b v) (hb : Below w.heap.size w w') : MkAt w' t r b v := h.keep (Below.keeps (S := fun _ => False) hb) id id id
theorem MkAt.drew {w : World} {t r b : Nat} {v : Nat → Nat} (h : MkAt w t r b v) (k : Nat) : MkAt (w.drewN k) t r b v := ⟨h.c0, h.row.drew k, h.ne, h.lt⟩
theorem MkAt.word {w : World} {t r b : Nat} {v : Nat → Nat} (h : MkAt w t r b v) (i y : Nat) (hi : i < 5) (hy : y ≤ 9223372036854775807) : MkAt (w.setCell ⟨b, i, none⟩ (.int .u64 (y : Int))) t r b (upM v i y) := by
  refine ⟨by rw [cell_set_block _ _ _ h.ne]; exact h.c0, (h.row.word i hi (y : Int)).same (fun j _ => ?_), h.ne, fun j hj => ?_⟩
  · unfold updV upM; split <;> rfl
  · unfold upM; split
    · exact hy
    · exact h.lt j hj
theorem i64_of_nat {n : Nat} (h : n ≤ 9223372036854775807) : IntKind.i64.wrap (n : Int) = (n : Int) := by
  simp only [IntKind.wrap, IntKind.bits, IntKind.signed]; simp; omega
theorem u64_of_nat {n : Nat} (h : n ≤ 9223372036854775807) : IntKind.u64.wrap (n : Int) = (n : Int) := by
  simp only [IntKind.wrap, IntKind.bits, IntKind.signed]; simp; omega
set_option maxHeartbeats 400000 in
theorem mhas_yes (i : Nat) (hi : i < 5) (w : World) : Calls Try.prog 19 #[.int .i64 (i : Int)] w fun e w' => e = .returned (.bool true) ∧ w' = w := by
  have h1 : (i : Int) < 5 := by omega
  go_enter Try.func19, Try.ntmps19
  go_wp2
  go_ret
  exact ⟨ret_bool (by simp <;> omega), rfl⟩
set_option maxHeartbeats 400000 in
theorem mhas_no (i : Int) (hi : i < 0 ∨ 5 ≤ i) (w : World) : Calls Try.prog 19 #[.int .i64 i] w fun e w' => e = .returned (.bool false) ∧ w' = w := by
  by_cases h : 0 ≤ i
  · go_enter Try.func19, Try.ntmps19
    go_wp2
    go_ret
    exact ⟨ret_bool (by simp; omega), rfl⟩
  · go_enter Try.func19, Try.ntmps19
    go_wp2
    go_ret
    exact ⟨ret_bool (by simp), rfl⟩
set_option maxHeartbeats 400000 in
theorem mat_yes {w : World} {t r b : Nat} {v : Nat → Nat} (h : MkAt w t r b v) (i : Nat) (hi : i < 5) (x : Nat) (hx : v i = x) :
    Calls Try.prog 13 #[.pointer (some ⟨t, 0, none⟩), .int .i64 (i : Int)] w fun e w' => e = .returned (.int .i64 (x : Int)) ∧ w' = w := by
  have c0 := h.c0
  have hl := rload h.row i hi (x : Int) (by rw [hx])
  have hw := i64_of_nat (show x ≤ 9223372036854775807 by have := h.lt i hi; omega)
  go_enter Try.func13, Try.ntmps13
  go_wp2_with fail
  refine hl.mono ?_
  rintro e x ⟨rfl, rfl⟩
  go_wp2
  go_ret
  exact ⟨ret_int rfl, rfl⟩
set_option maxHeartbeats 400000 in
theorem mat_no {w : World} {t r b : Nat} {v : Nat → Nat} (h : MkAt w t r b v) (i : Int) (hi : i < 0 ∨ 5 ≤ i) :
    Calls Try.prog 13 #[.pointer (some ⟨t, 0, none⟩), .int .i64 i] w fun e w' => e = .returned (.int .i64 0) ∧ w' = w := by
  have c0 := h.c0
  have hl := load_no r (some ⟨b, 0, none⟩) 5 5 i hi w h.row.c0
  go_enter Try.func13, Try.ntmps13
  go_wp2_with fail
  refine hl.mono ?_
  rintro e x ⟨rfl, rfl⟩
  go_wp2
  go_ret
  exact ⟨rfl, rfl⟩
/-- How far a mark may rise. -/
def mostN (v : Nat → Nat) (i : Nat) (T : Int) : Int := if i = 0 then T else (v (i - 1) : Int)
set_option maxHeartbeats 400000 in
theorem mmost_zero (t : Nat) (T : Int) (w : World) :
    Calls Try.prog 14 #[.pointer (some ⟨t, 0, none⟩), .int .i64 0, .int .i64 T] w fun e w' => e = .returned (.int .i64 T) ∧ w' = w := by
  go_enter Try.func14, Try.ntmps14
  go_wp2
  go_ret
  exact ⟨rfl, rfl⟩
set_option maxHeartbeats 400000 in
theorem mmost_yes {w : World} {t r b : Nat} {v : Nat → Nat} (h : MkAt w t r b v) (i : Nat) (hi : i < 5) (T : Int) :
    Calls Try.prog 14 #[.pointer (some ⟨t, 0, none⟩), .int .i64 (i : Int), .int .i64 T] w fun e w' => e = .returned (.int .i64 (mostN v i T)) ∧ w' = w := by
  by_cases h0 : i = 0
  · subst h0; exact mmost_zero t T w
  · have e1 : mostN v i T = (v (i - 1) : Int) := by rw [mostN, if_neg h0]
    rw [e1]
    have hc := mat_yes h (i - 1) (by omega) _ rfl
    have hx : (i : Int) - 1 = ((i - 1 : Nat) : Int) := by omega
    have g0 : ((i : Int) == 0) = false := by simp; omega
    generalize v (i - 1) = x at *
    generalize i - 1 = j at *
    go_enter Try.func14, Try.ntmps14
    go_wp2_with fail
    refine (mhas_yes i hi _).mono ?_
    rintro e y ⟨rfl, rfl⟩
    go_wp2_with fail
    refine hc.mono ?_
    rintro e y ⟨rfl, rfl⟩
    go_wp2
    go_ret
    exact ⟨rfl, rfl⟩
set_option maxHeartbeats 400000 in
theorem mmost_no (t : Nat) (i T : Int) (hi : i < 0 ∨ 5 ≤ i) (w : World) :
    Calls Try.prog 14 #[.pointer (some ⟨t, 0, none⟩), .int .i64 i, .int .i64 T] w fun e w' => e = .returned (.int .i64 0) ∧ w' = w := by
  have g0 : (i == 0) = false := by simp; omega
  go_enter Try.func14, Try.ntmps14
  go_wp2_with fail
  refine (mhas_no i hi _).mono ?_
  rintro e y ⟨rfl, rfl⟩
  go_wp2
  go_ret
  exact ⟨rfl, rfl⟩
/-- What Raise tells, and the marks behind it. -/
def raiseE (v : Nat → Nat) (i to T : Int) : Int := if i < 0 ∨ 5 ≤ i then 1 else if to ≤ (v i.toNat : Int) then 8 else if mostN v i.toNat T < to then 13 else 0
def raiseV (v : Nat → Nat) (i to T : Int) : Nat → Nat := if raiseE v i to T = 0 then upM v i.toNat to.toNat else v
set_option maxHeartbeats 1000000 in
theorem mraise {w : World} {t r b : Nat} {v : Nat → Nat} (h : MkAt w t r b v) (i to T : Int) (ht : to ≤ 9223372036854775807) :
    Calls Try.prog 10 #[.pointer (some ⟨t, 0, none⟩), .int .i64 i, .int .i64 to, .int .i64 T] w fun e w' => e = .returned (.int .i64 (raiseE v i to T)) ∧ MkAt w' t r b (raiseV v i to T) ∧ Keeps (fun k => k = b) w w' := by
  by_cases hi : i < 0 ∨ 5 ≤ i
  · have e1 : raiseE v i to T = 1 := by rw [raiseE, if_pos hi]
    have e2 : raiseV v i to T = v := by rw [raiseV, e1]; rfl
    rw [e1, e2]
    go_enter Try.func10, Try.ntmps10
    go_wp2_with fail
    refine (mhas_no i hi _).mono ?_
    rintro e y ⟨rfl, rfl⟩
    go_wp2
    go_ret
    exact ⟨rfl, h, Keeps.refl _ _⟩
  obtain ⟨j, rfl⟩ := Int.eq_ofNat_of_zero_le (show 0 ≤ i by omega)
  have hj : j < 5 := by omega
  by_cases hle : to ≤ (v j : Int)
  · have e1 : raiseE v j to T = 8 := by rw [raiseE, if_neg hi, if_pos (by simpa using hle)]
    have e2 : raiseV v j to T = v := by rw [raiseV, e1]; rfl
    rw [e1, e2]
    have hat := mat_yes h j hj _ rfl
    generalize v j = x at *
    clear hi e1 e2
    go_enter Try.func10, Try.ntmps10
    go_wp2_with fail
    refine (mhas_yes j hj _).mono ?_
    rintro e y ⟨rfl, rfl⟩
    go_wp2_with fail
    refine hat.mono ?_
    rintro e y ⟨rfl, rfl⟩
    go_wp2
    go_ret
    exact ⟨rfl, h, Keeps.refl _ _⟩
  by_cases hov : mostN v j T < to
  · have e1 : raiseE v j to T = 13 := by rw [raiseE, if_neg hi, if_neg (by simpa using hle), if_pos (by simpa using hov)]
    have e2 : raiseV v j to T = v := by rw [raiseV, e1]; rfl
    rw [e1, e2]
    have hat := mat_yes h j hj _ rfl
    have hmo := mmost_yes h j hj T
    generalize v j = x at *
    generalize mostN v j T = y at *
    clear hi e1 e2
    go_enter Try.func10, Try.ntmps10
    go_wp2_with fail
    refine (mhas_yes j hj _).mono ?_
    rintro e y ⟨rfl, rfl⟩
    go_wp2_with fail
    refine hat.mono ?_
    rintro e y ⟨rfl, rfl⟩
    go_wp2_with fail
    refine hmo.mono ?_
    rintro e y ⟨rfl, rfl⟩
    go_wp2
    go_ret
    exact ⟨rfl, h, Keeps.refl _ _⟩
  · have e1 : raiseE v j to T = 0 := by rw [raiseE, if_neg hi, if_neg (by simpa using hle), if_neg (by simpa using hov)]
    obtain ⟨y, rfl⟩ := Int.eq_ofNat_of_zero_le (show 0 ≤ to by omega)
    have e2 : raiseV v j y T = upM v j y := by rw [raiseV, if_pos e1]; rfl
    rw [e1, e2]
    have hat := mat_yes h j hj _ rfl
    have hmo := mmost_yes h j hj T
    have c0 := h.c0
    have hst := store_yes r b 5 5 j _ (y : Int) hj w h.row.c0 (h.row.cs j hj) (h.row.fs j hj)
    have hwd := hide (h.word j y hj (by omega))
    have hu := u64_of_nat (show y ≤ 9223372036854775807 by omega)
    generalize v j = x at *
    generalize mostN v j T = z at *
    clear hi e1 e2 h
    go_enter Try.func10, Try.ntmps10
    go_wp2_with fail
    refine (mhas_yes j hj _).mono ?_
    rintro e y ⟨rfl, rfl⟩
    go_wp2_with fail
    refine hat.mono ?_
    rintro e y ⟨rfl, rfl⟩
    go_wp2_with fail
    refine hmo.mono ?_
    rintro e y ⟨rfl, rfl⟩
    go_wp2_with fail
    refine hst.mono ?_
    rintro e y ⟨rfl, rfl⟩
    go_wp2
    go_ret
    exact ⟨rfl, hwd.out, (Keeps.refl (fun k => k = b) _).setCell _ (fun _ => rfl) _⟩
end Go.Proofs.Ytpnomcaionodjaa
