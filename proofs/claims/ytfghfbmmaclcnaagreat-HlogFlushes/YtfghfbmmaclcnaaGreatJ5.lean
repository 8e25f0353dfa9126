/- Parts of the proof: Ka Kb Kc. -/
import Derived.Test.YtfghfbmmaclcnaaGreatJ4
namespace Go.Proofs.YtfghfbmmaclcnaaGreat
set_option maxRecDepth 20000
open Go.RowKit
def upM (v : Nat → Nat) (i y : Nat) : Nat → Nat := fun j => if j = i then y else v j
theorem upM_same (v : Nat → Nat) (i y : Nat) : upM v i y i = y := by simp [upM]
theorem upM_other (v : Nat → Nat) (i j y : Nat) (h : j ≠ i) : upM v i y j = v j := by simp [upM, h]
/-- Marks that are there: the struct in block t, its row in blocks r and b. -/
structure MkAt (w : World) (t r b : Nat) (v : Nat → Nat) : Prop where
  c0 : w.cell? ⟨t, 0, none⟩ = some (.pointer (some ⟨r, 0, none⟩))
  row : RowIs w r b 5 (fun i => (v i : Int)) 0 0
  ne : b ≠ t
  lt : ∀ i, i < 5 → v i ≤ 9223372036854775807
theorem MkAt.keep {w w' : World} {T : Nat → Prop} {t r b : Nat} {v : Nat → Nat} (h : MkAt w t r b v) (hk : Keeps T w w') (ht : ¬ T t) (hr : ¬ T r) (hb : ¬ T b) : MkAt w' t r b v :=
  ⟨by rw [hk.cell (World.block_lt_of_cell? w _ h.c0) ht]; exact h.c0, h.row.keep hk hr hb, h.ne, h.lt⟩
theorem MkAt.below {w w' : World} {t r b : Nat} {v : Nat → Nat} (h : MkAt w t r b v) (hb : Below w.heap.size w w') : MkAt w' t r b v := h.keep (Below.keeps (S := fun _ => False) hb) id id id
theorem MkAt.drew {w : World} {t r b : Nat} {v : Nat → Nat} (h : MkAt w t r b v) (k : Nat) : MkAt (w.drewN k) t r b v := ⟨h.c0, h.row.drew k, h.ne, h.lt⟩
theorem MkAt.word {w : World} {t r b : Nat} {v : Nat → Nat} (h : MkAt w t r b v) (i y : Nat) (hi : i < 5) (hy : y ≤ 9223372036854775807) : MkAt (w.setCell ⟨b, i, none⟩ (.int .u64 (y : Int))) t r b (upM v i y) := by
  refine ⟨by rw [cell_set_block _ _ _ h.ne]; exact h.c0, (h.row.word i hi (y : Int)).same (fun j _ => ?_), h.ne, fun j hj => ?_⟩
  · unfold updV upM; split <;> rfl
  · unfold upM; split
    · exact hy
    · exact h.lt j hj
theorem i64_of_nat {n : Nat} (h : n ≤ 9223372036854775807) : IntKind.i64.wrap (n : Int) = (n : Int) := by
  simp only [IntKind.wrap, IntKind.bits, IntKind.signed]; simp; omega
theorem u64_of_nat {n : Nat} (h : n ≤ 9223372036854775807) : IntKind.u64.wrap (n : Int) = (n : Int) := by
  simp only [IntKind.wrap, IntKind.bits, IntKind.signed]; simp; omega
set_option maxHeartbeats 400000 in
theorem mhas_yes (i : Nat) (hi : i < 5) (w : World) : Calls Tryz.prog 178 #[.int .i64 (i : Int)] w fun e w' => e = .returned (.bool true) ∧ w' = w := by
  have h1 : (i : Int) < 5 := by omega
  go_enter Tryz.func178, Tryz.ntmps178
  go_wp2
  go_ret
  exact ⟨ret_bool (by simp <;> omega), rfl⟩
set_option maxHeartbeats 400000 in
theorem mhas_no (i : Int) (hi : i < 0 ∨ 5 ≤ i) (w : World) : Calls Tryz.prog 178 #[.int .i64 i] w fun e w' => e = .returned (.bool false) ∧ w' = w := by
  by_cases h : 0 ≤ i
  · go_enter Tryz.func178, Tryz.ntmps178
    go_wp2
    go_ret
    exact ⟨ret_bool (by simp; omega), rfl⟩
  · go_enter Tryz.func178, Tryz.ntmps178
    go_wp2
    go_ret
    exact ⟨ret_bool (by simp), rfl⟩
set_option maxHeartbeats 400000 in
theorem mat_yes {w : World} {t r b : Nat} {v : Nat → Nat} (h : MkAt w t r b v) (i : Nat) (hi : i < 5) (x : Nat) (hx : v i = x) :
    Calls Tryz.prog 15 #[.pointer (some ⟨t, 0, none⟩), .int .i64 (i : Int)] w fun e w' => e = .returned (.int .i64 (x : Int)) ∧ w' = w := by
  have c0 := h.c0
  have hl := rload h.row i hi (x : Int) (by rw [hx])
  have hw := i64_of_nat (show x ≤ 9223372036854775807 by have := h.lt i hi; omega)
  go_enter Tryz.func15, Tryz.ntmps15
  go_wp2_with fail
  refine hl.mono ?_
  rintro e x ⟨rfl, rfl⟩
  go_wp2
  go_ret
  exact ⟨ret_int rfl, rfl⟩
set_option maxHeartbeats 400000 in
theorem mat_no {w : World} {t r b : Nat} {v : Nat → Nat} (h : MkAt w t r b v) (i : Int) (hi : i < 0 ∨ 5 ≤ i) :
    Calls Tryz.prog 15 #[.pointer (some ⟨t, 0, none⟩), .int .i64 i] w fun e w' => e = .returned (.int .i64 0) ∧ w' = w := by
  have c0 := h.c0
  have hl := load_no r (some ⟨b, 0, none⟩) 5 5 i hi w h.row.c0
  go_enter Tryz.func15, Tryz.ntmps15
  go_wp2_with fail
  refine hl.mono ?_
  rintro e x ⟨rfl, rfl⟩
  go_wp2
  go_ret
  exact ⟨rfl, rfl⟩
/-- How far a mark may rise. -/
def mostK (v : Nat → Nat) (i : Nat) (T : Int) : Int := if i = 0 then T else (v (i - 1) : Int)
set_option maxHeartbeats 400000 in
theorem mmost_zero (t : Nat) (T : Int) (w : World) :
    Calls Tryz.prog 179 #[.pointer (some ⟨t, 0, none⟩), .int .i64 0, .int .i64 T] w fun e w' => e = .returned (.int .i64 T) ∧ w' = w := by
  go_enter Tryz.func179, Tryz.ntmps179
  go_wp2
  go_ret
  exact ⟨rfl, rfl⟩
set_option maxHeartbeats 400000 in
theorem mmost_yes {w : World} {t r b : Nat} {v : Nat → Nat} (h : MkAt w t r b v) (i : Nat) (hi : i < 5) (T : Int) :
    Calls Tryz.prog 179 #[.pointer (some ⟨t, 0, none⟩), .int .i64 (i : Int), .int .i64 T] w fun e w' => e = .returned (.int .i64 (mostK v i T)) ∧ w' = w := by
  by_cases h0 : i = 0
  · subst h0; exact mmost_zero t T w
  · have e1 : mostK v i T = (v (i - 1) : Int) := by rw [mostK, if_neg h0]
    rw [e1]
    have hc := mat_yes h (i - 1) (by omega) _ rfl
    have hx : (i : Int) - 1 = ((i - 1 : Nat) : Int) := by omega
    have g0 : ((i : Int) == 0) = false := by simp; omega
    generalize v (i - 1) = x at *
    generalize i - 1 = j at *
    go_enter Tryz.func179, Tryz.ntmps179
    go_wp2_with fail
    refine (mhas_yes i hi _).mono ?_
    rintro e y ⟨rfl, rfl⟩
    go_wp2_with fail
    refine hc.mono ?_
    rintro e y ⟨rfl, rfl⟩
    go_wp2
    go_ret
    exact ⟨rfl, rfl⟩
set_option maxHeartbeats 400000 in
theorem mmost_no (t : Nat) (i T : Int) (hi : i < 0 ∨ 5 ≤ i) (w : World) :
    Calls Tryz.prog 179 #[.pointer (some ⟨t, 0, none⟩), .int .i64 i, .int .i64 T] w fun e w' => e = .returned (.int .i64 0) ∧ w' = w := by
  have g0 : (i == 0) = false := by simp; omega
  go_enter Tryz.func179, Tryz.ntmps179
  go_wp2_with fail
  refine (mhas_no i hi _).mono ?_
  rintro e y ⟨rfl, rfl⟩
  go_wp2
  go_ret
  exact ⟨rfl, rfl⟩
/-- What Raise tells, and the marks behind it. -/
def raiseE (v : Nat → Nat) (i to T : Int) : Int := if i < 0 ∨ 5 ≤ i then 1 else if to ≤ (v i.toNat : Int) then 8 else if mostK v i.toNat T < to then 13 else 0
def raiseV (v : Nat → Nat) (i to T : Int) : Nat → Nat := if raiseE v i to T = 0 then upM v i.toNat to.toNat else v
set_option maxHeartbeats 1000000 in
theorem mraise {w : World} {t r b : Nat} {v : Nat → Nat} (h : MkAt w t r b v) (i to T : Int) (ht : to ≤ 9223372036854775807) :
    Calls Tryz.prog 97 #[.pointer (some ⟨t, 0, none⟩), .int .i64 i, .int .i64 to, .int .i64 T] w fun e w' => e = .returned (.int .i64 (raiseE v i to T)) ∧ MkAt w' t r b (raiseV v i to T) ∧ Keeps (fun k => k = b) w w' := by
  by_cases hi : i < 0 ∨ 5 ≤ i
  · have e1 : raiseE v i to T = 1 := by rw [raiseE, if_pos hi]
    have e2 : raiseV v i to T = v := by rw [raiseV, e1]; rfl
    rw [e1, e2]
    go_enter Tryz.func97, Tryz.ntmps97
    go_wp2_with fail
    refine (mhas_no i hi _).mono ?_
    rintro e y ⟨rfl, rfl⟩
    go_wp2
    go_ret
    exact ⟨rfl, h, Keeps.refl _ _⟩
  obtain ⟨j, rfl⟩ := Int.eq_ofNat_of_zero_le (show 0 ≤ i by omega)
  have hj : j < 5 := by omega
  by_cases hle : to ≤ (v j : Int)
  · have e1 : raiseE v j to T = 8 := by rw [raiseE, if_neg hi, if_pos (by simpa using hle)]
    have e2 : raiseV v j to T = v := by rw [raiseV, e1]; rfl
    rw [e1, e2]
    have hat := mat_yes h j hj _ rfl
    generalize v j = x at *
    clear hi e1 e2
    go_enter Tryz.func97, Tryz.ntmps97
    go_wp2_with fail
    refine (mhas_yes j hj _).mono ?_
    rintro e y ⟨rfl, rfl⟩
    go_wp2_with fail
    refine hat.mono ?_
    rintro e y ⟨rfl, rfl⟩
    go_wp2
    go_ret
    exact ⟨rfl, h, Keeps.refl _ _⟩
  by_cases hov : mostK v j T < to
  · have e1 : raiseE v j to T = 13 := by rw [raiseE, if_neg hi, if_neg (by simpa using hle), if_pos (by simpa using hov)]
    have e2 : raiseV v j to T = v := by rw [raiseV, e1]; rfl
    rw [e1, e2]
    have hat := mat_yes h j hj _ rfl
    have hmo := mmost_yes h j hj T
    generalize v j = x at *
    generalize mostK v j T = y at *
    clear hi e1 e2
    go_enter Tryz.func97, Tryz.ntmps97
    go_wp2_with fail
    refine (mhas_yes j hj _).mono ?_
    rintro e y ⟨rfl, rfl⟩
    go_wp2_with fail
    refine hat.mono ?_
    rintro e y ⟨rfl, rfl⟩
    go_wp2_with fail
    refine hmo.mono ?_
    rintro e y ⟨rfl, rfl⟩
    go_wp2
    go_ret
    exact ⟨rfl, h, Keeps.refl _ _⟩
  · have e1 : raiseE v j to T = 0 := by rw [raiseE, if_neg hi, if_neg (by simpa using hle), if_neg (by simpa using hov)]
    obtain ⟨y, rfl⟩ := Int.eq_ofNat_of_zero_le (show 0 ≤ to by omega)
    have e2 : raiseV v j y T = upM v j y := by rw [raiseV, if_pos e1]; rfl
    rw [e1, e2]
    have hat := mat_yes h j hj _ rfl
    have hmo := mmost_yes h j hj T
    have c0 := h.c0
    have hst := store_yes r b 5 5 j _ (y : Int) hj w h.row.c0 (h.row.cs j hj) (h.row.fs j hj)
    have hwd := hide (h.word j y hj (by omega))
    have hu := u64_of_nat (show y ≤ 9223372036854775807 by omega)
    generalize v j = x at *
    generalize mostK v j T = z at *
    clear hi e1 e2 h
    go_enter Tryz.func97, Tryz.ntmps97
    go_wp2_with fail
    refine (mhas_yes j hj _).mono ?_
    rintro e y ⟨rfl, rfl⟩
    go_wp2_with fail
    refine hat.mono ?_
    rintro e y ⟨rfl, rfl⟩
    go_wp2_with fail
    refine hmo.mono ?_
    rintro e y ⟨rfl, rfl⟩
    go_wp2_with fail
    refine hst.mono ?_
    rintro e y ⟨rfl, rfl⟩
    go_wp2
    go_ret
    exact ⟨rfl, hwd.out, (Keeps.refl (fun k => k = b) _).setCell _ (fun _ => rfl) _⟩
end Go.Proofs.YtfghfbmmaclcnaaGreat
namespace Go.Proofs.YtfghfbmmaclcnaaGreat
set_option maxRecDepth 20000
open Go.RowKit
/-- The region of a page. -/
def regionN (v : Nat → Nat) (p T : Int) : Int := if p < 0 ∨ T < p then 0 else if (v 0 : Int) ≤ p then 1 else if (v 1 : Int) ≤ p then 2 else if (v 3 : Int) ≤ p then 3 else 4
set_option maxHeartbeats 1000000 in
theorem mregion {w : World} {t r b : Nat} {v : Nat → Nat} (h : MkAt w t r b v) (p T : Int) :
    Calls Tryz.prog 60 #[.pointer (some ⟨t, 0, none⟩), .int .i64 p, .int .i64 T] w fun e w' => e = .returned (.int .i64 (regionN v p T)) ∧ w' = w := by
  have a0 := mat_yes h 0 (by decide) _ rfl
  have a1 := mat_yes h 1 (by decide) _ rfl
  have a3 := mat_yes h 3 (by decide) _ rfl
  unfold regionN
  generalize v 0 = x0 at *
  generalize v 1 = x1 at *
  generalize v 3 = x3 at *
  clear h
  by_cases g0 : p < 0
  · rw [if_pos (.inl g0)]
    clear a0 a1 a3
    go_enter Tryz.func60, Tryz.ntmps60
    go_wp2
    go_ret
    exact ⟨rfl, rfl⟩
  by_cases g1 : T < p
  · rw [if_pos (.inr g1)]
    clear a0 a1 a3
    go_enter Tryz.func60, Tryz.ntmps60
    go_wp2
    go_ret
    exact ⟨rfl, rfl⟩
  rw [if_neg (by omega)]
  by_cases g2 : (x0 : Int) ≤ p
  · rw [if_pos g2]
    go_enter Tryz.func60, Tryz.ntmps60
    go_wp2_with fail
    refine a0.mono ?_
    rintro e y ⟨rfl, rfl⟩
    go_wp2
    go_ret
    exact ⟨rfl, rfl⟩
  rw [if_neg g2]
  by_cases g3 : (x1 : Int) ≤ p
  · rw [if_pos g3]
    go_enter Tryz.func60, Tryz.ntmps60
    go_wp2_with fail
    refine a0.mono ?_
    rintro e y ⟨rfl, rfl⟩
    go_wp2_with fail
    refine a1.mono ?_
    rintro e y ⟨rfl, rfl⟩
    go_wp2
    go_ret
    exact ⟨rfl, rfl⟩
  rw [if_neg g3]
  by_cases g4 : (x3 : Int) ≤ p
  · rw [if_pos g4]
    go_enter Tryz.func60, Tryz.ntmps60
    go_wp2_with fail
    refine a0.mono ?_
    rintro e y ⟨rfl, rfl⟩
    go_wp2_with fail
    refine a1.mono ?_
    rintro e y ⟨rfl, rfl⟩
    go_wp2_with fail
    refine a3.mono ?_
    rintro e y ⟨rfl, rfl⟩
    go_wp2
    go_ret
    exact ⟨rfl, rfl⟩
  · rw [if_neg g4]
    go_enter Tryz.func60, Tryz.ntmps60
    go_wp2_with fail
    refine a0.mono ?_
    rintro e y ⟨rfl, rfl⟩
    go_wp2_with fail
    refine a1.mono ?_
    rintro e y ⟨rfl, rfl⟩
    go_wp2_with fail
    refine a3.mono ?_
    rintro e y ⟨rfl, rfl⟩
    go_wp2
    go_ret
    exact ⟨rfl, rfl⟩
/-- What Begin tells, and the marks behind it. -/
def beginE (v : Nat → Nat) (p : Int) : Int := if p < 0 then 1 else if v 0 = 0 then 0 else 8
def beginV (v : Nat → Nat) (p : Int) : Nat → Nat := if beginE v p = 0 then fun _ => p.toNat else v
set_option maxHeartbeats 1000000 in
theorem mbegin {w : World} {t r b : Nat} {v : Nat → Nat} (h : MkAt w t r b v) (p : Int) (hp : p ≤ 9223372036854775807) :
    Calls Tryz.prog 80 #[.pointer (some ⟨t, 0, none⟩), .int .i64 p] w fun e w' => e = .returned (.int .i64 (beginE v p)) ∧ MkAt w' t r b (beginV v p) ∧ Keeps (fun k => k = b) w w' := by
  by_cases g0 : p < 0
  · have e1 : beginE v p = 1 := by rw [beginE, if_pos g0]
    have e2 : beginV v p = v := by rw [beginV, e1]; rfl
    rw [e1, e2]
    go_enter Tryz.func80, Tryz.ntmps80
    go_wp2
    go_ret
    exact ⟨rfl, h, Keeps.refl _ _⟩
  have a0 := mat_yes h 0 (by decide) _ rfl
  by_cases g1 : v 0 = 0
  · have e1 : beginE v p = 0 := by rw [beginE, if_neg g0, if_pos g1]
    obtain ⟨y, rfl⟩ := Int.eq_ofNat_of_zero_le (show 0 ≤ p by omega)
    have e2 : beginV v y = fun _ => y := by rw [beginV, if_pos e1]; rfl
    rw [e1, e2]
    rw [g1] at a0
    have hu := u64_of_nat (show y ≤ 9223372036854775807 by omega)
    have HH := hide h
    clear e1 e2 g1
    go_enter Tryz.func80, Tryz.ntmps80
    go_wp2_with fail
    refine a0.mono ?_
    rintro e x ⟨rfl, rfl⟩
    clear a0 h
    go_wp2
    go_loopw [13] (fun i wr => ∃ m : Nat, m ≤ 5 ∧ i = .int .i64 m ∧ MkAt wr t r b (fun j => if j < m then y else v j) ∧ Keeps (fun k => k = b) x wr) (fun i _ => 5 - (intOf i).toNat)
    case atStart => exact ⟨0, Nat.zero_le _, rfl, HH.out, Keeps.refl _ _⟩
    case round =>
      obtain ⟨m, hm, rfl, hR, hK⟩ := hrel
      have HK := hide hK
      by_cases hlt : m < 5
      · have hst := store_yes r b 5 5 m _ (y : Int) hlt wr hR.row.c0 (hR.row.cs m hlt) (hR.row.fs m hlt)
        have HW : Hid (MkAt (wr.setCell ⟨b, m, none⟩ (.int .u64 (y : Int))) t r b (fun j => if j < m + 1 then y else v j)) := by
          have h1 := hR.word m y hlt (by omega)
          have h2 : upM (fun j => if j < m then y else v j) m y = fun j => if j < m + 1 then y else v j := by
            funext j
            unfold upM
            by_cases e : j = m
            · rw [if_pos e, if_pos (by omega)]
            · rw [if_neg e]
              show (if j < m then y else v j) = _
              by_cases e2 : j < m
              · rw [if_pos e2, if_pos (by omega)]
              · rw [if_neg e2, if_neg (by omega)]
          rw [h2] at h1
          exact h1
        have HK2 : Hid (Keeps (fun k => k = b) x (wr.setCell ⟨b, m, none⟩ (.int .u64 (y : Int)))) := hK.setCell _ (fun _ => rfl) _
        have c0 := hR.c0
        clear hR hK
        go_wp2_with fail
        refine hst.mono ?_
        rintro e z ⟨rfl, rfl⟩
        go_wp2
        go_roundw
        case rel => exact ⟨m + 1, by omega, by go_num, HW.out, HK2.out⟩
        case measure => simp [intOf]; omega
      · go_wp2
        go_ret
        have e : m = 5 := by omega
        subst e
        exact ⟨rfl, ⟨hR.c0, hR.row.same (fun i hi => by rw [if_pos hi]), hR.ne, fun i hi => by omega⟩, HK.out⟩
  · have e1 : beginE v p = 8 := by rw [beginE, if_neg g0, if_neg g1]
    have e2 : beginV v p = v := by rw [beginV, e1]; rfl
    rw [e1, e2]
    generalize v 0 = x at *
    have d0 : ((x : Int) != 0) = true := by simp; omega
    clear e1 e2
    go_enter Tryz.func80, Tryz.ntmps80
    go_wp2_with fail
    refine a0.mono ?_
    rintro e x ⟨rfl, rfl⟩
    go_wp2
    go_ret
    exact ⟨rfl, h, Keeps.refl _ _⟩
set_option maxHeartbeats 1000000 in
theorem mnew (w : World) :
    Calls Tryz.prog 75 #[] w fun e w' => ∃ t r b, e = .returned (.pointer (some ⟨t, 0, none⟩)) ∧ MkAt w' t r b (fun _ => 0) ∧ w.heap.size ≤ t ∧ w.heap.size ≤ r ∧ w.heap.size ≤ b ∧ t < w'.heap.size ∧ Below w.heap.size w w' := by
  go_enter Tryz.func75, Tryz.ntmps75
  go_wp2_with fail
  refine (new_yes 5 (by decide) (by decide) _).mono ?_
  rintro e x ⟨r, b, rfl, hr, h1, h2, hb⟩
  have hlt : b < x.heap.size := World.block_lt_of_cell? x _ (hr.cs 0 (by decide))
  have HR := hide hr
  clear hr
  go_wp2
  go_ret
  refine ⟨x.heap.size, r, b, rfl, ⟨by simp, HR.out.under ((Below.refl _ _).alloc (Nat.le_refl _) _), by omega, fun _ _ => by omega⟩, by have := hb.size; omega, h1, h2, by simp, hb.alloc hb.size _⟩
theorem mn_at (i : Int) (w : World) : Calls Tryz.prog 15 #[.pointer none, .int .i64 i] w fun e w' => e = .returned (.int .i64 0) ∧ w' = w := by
  go_enter Tryz.func15, Tryz.ntmps15
  go_wp2
  go_ret
  exact ⟨rfl, rfl⟩
theorem mn_most (i T : Int) (w : World) : Calls Tryz.prog 179 #[.pointer none, .int .i64 i, .int .i64 T] w fun e w' => e = .returned (.int .i64 0) ∧ w' = w := by
  go_enter Tryz.func179, Tryz.ntmps179
  go_wp2
  go_ret
  exact ⟨rfl, rfl⟩
theorem mn_raise (i to T : Int) (w : World) : Calls Tryz.prog 97 #[.pointer none, .int .i64 i, .int .i64 to, .int .i64 T] w fun e w' => e = .returned (.int .i64 2) ∧ w' = w := by
  go_enter Tryz.func97, Tryz.ntmps97
  go_wp2
  go_ret
  exact ⟨rfl, rfl⟩
theorem mn_region (p T : Int) (w : World) : Calls Tryz.prog 60 #[.pointer none, .int .i64 p, .int .i64 T] w fun e w' => e = .returned (.int .i64 0) ∧ w' = w := by
  go_enter Tryz.func60, Tryz.ntmps60
  go_wp2
  go_ret
  exact ⟨rfl, rfl⟩
theorem mn_begin (p : Int) (w : World) : Calls Tryz.prog 80 #[.pointer none, .int .i64 p] w fun e w' => e = .returned (.int .i64 2) ∧ w' = w := by
  go_enter Tryz.func80, Tryz.ntmps80
  go_wp2
  go_ret
  exact ⟨rfl, rfl⟩
end Go.Proofs.YtfghfbmmaclcnaaGreat
namespace Go.Proofs.YtfghfbmmaclcnaaGreat
set_option maxRecDepth 20000
open Go.RowKit
/-- The reference's marks in block m. -/
structure RfIs (w : World) (m : Nat) (v : Nat → Nat) : Prop where
  c : ∀ i, i < 5 → w.cell? ⟨m, i, none⟩ = some (.int .i64 (v i : Int))
  f : ∀ i, i < 5 → w.frozen? ⟨m, i, none⟩ = false
theorem RfIs.keep {w w' : World} {T : Nat → Prop} {m : Nat} {v : Nat → Nat} (h : RfIs w m v) (hk : Keeps T w w') (hm : ¬ T m) : RfIs w' m v :=
  ⟨fun i hi => by rw [hk.cell (World.block_lt_of_cell? w _ (h.c i hi)) hm]; exact h.c i hi, fun i hi => by rw [hk.frozen (World.block_lt_of_cell? w _ (h.c i hi)) hm]; exact h.f i hi⟩
theorem RfIs.below {w w' : World} {m : Nat} {v : Nat → Nat} (h : RfIs w m v) (hb : Below w.heap.size w w') : RfIs w' m v := h.keep (Below.keeps (S := fun _ => False) hb) id
theorem RfIs.word {w : World} {m : Nat} {v : Nat → Nat} (h : RfIs w m v) (i y : Nat) (hi : i < 5) : RfIs (w.setCell ⟨m, i, none⟩ (.int .i64 (y : Int))) m (upM v i y) := by
  refine ⟨fun j hj => ?_, fun j hj => by rw [World.frozen?_setCell]; exact h.f j hj⟩
  by_cases e : j = i
  · subst e
    rw [World.cell?_setCell_same _ _ _ (h.c _ hj), upM_same]
  · rw [cell_set_off _ _ _ _ (fun c => e c.symm), upM_other _ _ _ _ e]; exact h.c j hj
set_option maxHeartbeats 1000000 in
theorem rraise {w : World} {m : Nat} {v : Nat → Nat} (h : RfIs w m v) (i to T : Int) :
    Calls Tryz.prog 113 #[.pointer (some ⟨m, 0, none⟩), .int .i64 i, .int .i64 to, .int .i64 T] w fun e w' => e = .returned (.int .i64 (raiseE v i to T)) ∧ RfIs w' m (raiseV v i to T) ∧ Keeps (fun k => k = m) w w' := by
  by_cases hi : i < 0 ∨ 5 ≤ i
  · have e1 : raiseE v i to T = 1 := by rw [raiseE, if_pos hi]
    have e2 : raiseV v i to T = v := by rw [raiseV, e1]; rfl
    rw [e1, e2]
    clear e1 e2
    rcases hi with hi | hi
    · go_enter Tryz.func113, Tryz.ntmps113
      go_wp2
      go_ret
      exact ⟨rfl, h, Keeps.refl _ _⟩
    · have d0 : decide (i < 0) = false := by simp; omega
      go_enter Tryz.func113, Tryz.ntmps113
      go_wp2
      go_ret
      exact ⟨rfl, h, Keeps.refl _ _⟩
  obtain ⟨j, rfl⟩ := Int.eq_ofNat_of_zero_le (show 0 ≤ i by omega)
  have hj : j < 5 := by omega
  have c0 := h.c j hj
  by_cases hle : to ≤ (v j : Int)
  · have e1 : raiseE v j to T = 8 := by rw [raiseE, if_neg hi, if_pos (by simpa using hle)]
    have e2 : raiseV v j to T = v := by rw [raiseV, e1]; rfl
    rw [e1, e2]
    generalize v j = x at *
    clear hi e1 e2
    go_enter Tryz.func113, Tryz.ntmps113
    go_wp2
    go_ret
    exact ⟨rfl, h, Keeps.refl _ _⟩
  have hmost : mostK v j T = if j = 0 then T else (v (j - 1) : Int) := rfl
  by_cases hov : mostK v j T < to
  · have e1 : raiseE v j to T = 13 := by rw [raiseE, if_neg hi, if_neg (by simpa using hle), if_pos (by simpa using hov)]
    have e2 : raiseV v j to T = v := by rw [raiseV, e1]; rfl
    rw [e1, e2]
    by_cases h0 : j = 0
    · subst h0
      rw [if_pos rfl] at hmost
      rw [hmost] at hov
      generalize v 0 = x at *
      clear hi e1 e2 hmost
      go_enter Tryz.func113, Tryz.ntmps113
      go_wp2
      go_ret
      exact ⟨rfl, h, Keeps.refl _ _⟩
    · rw [if_neg h0] at hmost
      rw [hmost] at hov
      have c1 := h.c (j - 1) (by omega)
      have hx : (j : Int) - 1 = ((j - 1 : Nat) : Int) := by omega
      have hq : j - 1 < 5 := by omega
      have hjp : (0 : Int) < (j : Int) := by omega
      generalize v j = x at *
      generalize v (j - 1) = y at *
      generalize j - 1 = q at *
      clear hi e1 e2 hmost
      go_enter Tryz.func113, Tryz.ntmps113
      go_wp2
      go_ret
      exact ⟨rfl, h, Keeps.refl _ _⟩
  · have e1 : raiseE v j to T = 0 := by rw [raiseE, if_neg hi, if_neg (by simpa using hle), if_neg (by simpa using hov)]
    obtain ⟨y, rfl⟩ := Int.eq_ofNat_of_zero_le (show 0 ≤ to by omega)
    have e2 : raiseV v j y T = upM v j y := by rw [raiseV, if_pos e1]; rfl
    rw [e1, e2]
    have hwd := hide (h.word j y hj)
    have hf := h.f j hj
    by_cases h0 : j = 0
    · subst h0
      rw [if_pos rfl] at hmost
      rw [hmost] at hov
      generalize v 0 = x at *
      clear hi e1 e2 hmost h
      go_enter Tryz.func113, Tryz.ntmps113
      go_wp2
      go_ret
      exact ⟨rfl, hwd.out, (Keeps.refl (fun k => k = m) _).setCell _ (fun _ => rfl) _⟩
    · rw [if_neg h0] at hmost
      rw [hmost] at hov
      have c1 := h.c (j - 1) (by omega)
      have hx : (j : Int) - 1 = ((j - 1 : Nat) : Int) := by omega
      have hq : j - 1 < 5 := by omega
      have hjp : (0 : Int) < (j : Int) := by omega
      generalize v j = x at *
      generalize v (j - 1) = z at *
      generalize j - 1 = q at *
      clear hi e1 e2 hmost h
      go_enter Tryz.func113, Tryz.ntmps113
      go_wp2
      go_ret
      exact ⟨rfl, hwd.out, (Keeps.refl (fun k => k = m) _).setCell _ (fun _ => rfl) _⟩
/-- They keep their order: all are at most the first one, and so on. -/
def OrdM (v : Nat → Nat) : Prop := v 1 ≤ v 0 ∧ v 2 ≤ v 1 ∧ v 3 ≤ v 2 ∧ v 4 ≤ v 3
set_option maxHeartbeats 1000000 in
theorem rbegin {w : World} {m : Nat} {v : Nat → Nat} (h : RfIs w m v) (ho : OrdM v) (p : Int) :
    Calls Tryz.prog 134 #[.pointer (some ⟨m, 0, none⟩), .int .i64 p] w fun e w' => e = .returned (.int .i64 (beginE v p)) ∧ RfIs w' m (beginV v p) ∧ Keeps (fun k => k = m) w w' := by
  by_cases g0 : p < 0
  · have e1 : beginE v p = 1 := by rw [beginE, if_pos g0]
    have e2 : beginV v p = v := by rw [beginV, e1]; rfl
    rw [e1, e2]
    go_enter Tryz.func134, Tryz.ntmps134
    go_wp2
    go_ret
    exact ⟨rfl, h, Keeps.refl _ _⟩
  by_cases g1 : v 0 = 0
  · have e1 : beginE v p = 0 := by rw [beginE, if_neg g0, if_pos g1]
    obtain ⟨y, rfl⟩ := Int.eq_ofNat_of_zero_le (show 0 ≤ p by omega)
    have e2 : beginV v y = fun _ => y := by rw [beginV, if_pos e1]; rfl
    rw [e1, e2]
    have hz : ∀ i, i < 5 → v i = 0 := fun i hi => by
      obtain ⟨o1, o2, o3, o4⟩ := ho
      have hi' : i = 0 ∨ i = 1 ∨ i = 2 ∨ i = 3 ∨ i = 4 := by omega
      rcases hi' with rfl | rfl | rfl | rfl | rfl <;> omega
    have HH := hide h
    have HZ := hide hz
    clear e1 e2 g1 hz
    go_enter Tryz.func134, Tryz.ntmps134
    go_wp2
    clear h
    go_loop [5] (fun i => ∃ k : Nat, k ≤ 5 ∧ i = .int .i64 k) (fun i => 5 - (intOf i).toNat)
    case atStart => exact ⟨0, Nat.zero_le _, rfl⟩
    case round =>
      obtain ⟨k, hk, rfl⟩ := hrel
      by_cases hlt : k < 5
      · have c0 := HH.out.c k hlt
        rw [HZ.out k hlt] at c0
        go_wp2
        go_round
        case rel => exact ⟨k + 1, by omega, by go_num⟩
        case measure => simp [intOf]; omega
      · go_wp2
        go_loopw [6] (fun i wr => ∃ k : Nat, k ≤ 5 ∧ i = .int .i64 k ∧ RfIs wr m (fun j => if j < k then y else v j) ∧ Keeps (fun k => k = m) w wr) (fun i _ => 5 - (intOf i).toNat)
        case atStart => exact ⟨0, Nat.zero_le _, rfl, HH.out, Keeps.refl _ _⟩
        case round =>
          obtain ⟨k, hk, rfl, hR, hK⟩ := hrel
          have HK := hide hK
          by_cases hlt : k < 5
          · have c0 := hR.c k hlt
            have f0 := hR.f k hlt
            have HW : Hid (RfIs (wr.setCell ⟨m, k, none⟩ (.int .i64 (y : Int))) m (fun j => if j < k + 1 then y else v j)) := by
              have h1 := hR.word k y hlt
              have h2 : upM (fun j => if j < k then y else v j) k y = fun j => if j < k + 1 then y else v j := by
                funext j
                unfold upM
                by_cases e : j = k
                · rw [if_pos e, if_pos (by omega)]
                · rw [if_neg e]
                  show (if j < k then y else v j) = _
                  by_cases e2 : j < k
                  · rw [if_pos e2, if_pos (by omega)]
                  · rw [if_neg e2, if_neg (by omega)]
              rw [h2] at h1
              exact h1
            have HK2 : Hid (Keeps (fun k => k = m) w (wr.setCell ⟨m, k, none⟩ (.int .i64 (y : Int)))) := hK.setCell _ (fun _ => rfl) _
            rw [if_neg (Nat.lt_irrefl _)] at c0
            generalize v k = vk at *
            clear hR hK
            go_wp2
            go_roundw
            case rel => exact ⟨k + 1, by omega, by go_num, HW.out, HK2.out⟩
            case measure => simp [intOf]; omega
          · go_wp2
            go_ret
            have e : k = 5 := by omega
            subst e
            exact ⟨rfl, ⟨fun i hi => by rw [hR.c i hi, if_pos hi], hR.f⟩, HK.out⟩
  · have e1 : beginE v p = 8 := by rw [beginE, if_neg g0, if_neg g1]
    have e2 : beginV v p = v := by rw [beginV, e1]; rfl
    rw [e1, e2]
    have c0 := h.c 0 (by decide)
    generalize v 0 = x at *
    have d0 : ((x : Int) != 0) = true := by simp; omega
    clear e1 e2
    go_enter Tryz.func134, Tryz.ntmps134
    go_wp2
    go_loopw [5] (fun i wr => i = .int .i64 0 ∧ wr = w) (fun i _ => 0)
    case atStart => exact ⟨rfl, rfl⟩
    case round =>
      obtain ⟨rfl, rfl⟩ := hrel
      go_wp2
      go_ret
      exact ⟨rfl, h, Keeps.refl _ _⟩
end Go.Proofs.YtfghfbmmaclcnaaGreat
