/- Package marks: Region, Begin, All, New; a nil set; the chapter's example (awake). -/
import Derived.Test.YtpnomcaionodjaaKa
namespace Go.Proofs.Ytpnomcaionodjaa
open Go.RowKit
/-- The region of a page. -/
def regionN (v : Nat → Nat) (p T : Int) : Int := if p < 0 ∨ T < p then 0 else if (v 0 : Int) ≤ p then 1 else if (v 1 : Int) ≤ p then 2 else if (v 3 : Int) ≤ p then 3 else 4
set_option maxHeartbeats 1000000 in
theorem mregion {w : World} {t r b : Nat} {v : Nat → Nat} (h : MkAt w t r b v) (p T : Int) :
    Calls Try.prog 15 #[.pointer (some ⟨t, 0, none⟩), .int .i64 p, .int .i64 T] w fun e w' => e = .returned (.int .i64 (regionN v p T)) ∧ w' = w := by
  have a0 := mat_yes h 0 (by decide) _ rfl
  have a1 := mat_yes h 1 (by decide) _ rfl
  have a3 := mat_yes h 3 (by decide) _ rfl
  unfold regionN
  generalize v 0 = x0 at *
  generalize v 1 = x1 at *
  generalize v 3 = x3 at *
  clear h
  by_cases g0 : p < 0
  · rw [if_pos (.inl g0)]
    clear a0 a1 a3
    go_enter Try.func15, Try.ntmps15
    go_wp2
    go_ret
    exact ⟨rfl, rfl⟩
  by_cases g1 : T < p
  · rw [if_pos (.inr g1)]
    clear a0 a1 a3
    go_enter Try.func15, Try.ntmps15
    go_wp2
    go_ret
    exact ⟨rfl, rfl⟩
  rw [if_neg (by omega)]
  by_cases g2 : (x0 : Int) ≤ p
  · rw [if_pos g2]
    go_enter Try.func15, Try.ntmps15
    go_wp2_with fail
    refine a0.mono ?_
    rintro e y ⟨rfl, rfl⟩
    go_wp2
    go_ret
    exact ⟨rfl, rfl⟩
  rw [if_neg g2]
  by_cases g3 : (x1 : Int) ≤ p
  · rw [if_pos g3]
    go_enter Try.func15, Try.ntmps15
    go_wp2_with fail
    refine a0.mono ?_
    rintro e y ⟨rfl, rfl⟩
    go_wp2_with fail
    refine a1.mono ?_
    rintro e y ⟨rfl, rfl⟩
    go_wp2
    go_ret
    exact ⟨rfl, rfl⟩
  rw [if_neg g3]
  by_cases g4 : (x3 : Int) ≤ p
  · rw [if_pos g4]
    go_enter Try.func15, Try.ntmps15
    go_wp2_with fail
    refine a0.mono ?_
    rintro e y ⟨rfl, rfl⟩
    go_wp2_with fail
    refine a1.mono ?_
    rintro e y ⟨rfl, rfl⟩
    go_wp2_with fail
    refine a3.mono ?_
    rintro e y ⟨rfl, rfl⟩
    go_wp2
    go_ret
    exact ⟨rfl, rfl⟩
  · rw [if_neg g4]
    go_enter Try.func15, Try.ntmps15
    go_wp2_with fail
    refine a0.mono ?_
    rintro e y ⟨rfl, rfl⟩
    go_wp2_with fail
    refine a1.mono ?_
    rintro e y ⟨rfl, rfl⟩
    go_wp2_with fail
    refine a3.mono ?_
    rintro e y ⟨rfl, rfl⟩
    go_wp2
    go_ret
    exact ⟨rfl, rfl⟩
set_option maxHeartbeats 1000000 in
theorem mall {w : World} {t r b : Nat} {v : Nat → Nat} (h : MkAt w t r b v) :
    Calls Try.prog 12 #[.pointer (some ⟨t, 0, none⟩)] w fun e w' => ∃ g, e = .returned (.slice (some ⟨g, 0, none⟩) 5 5) ∧ (∀ j, j < 5 → w'.cell? ⟨g, j, none⟩ = some (.int .i64 (v j : Int))) ∧ w.heap.size ≤ g ∧ Below w.heap.size w w' := by
  obtain ⟨i0, hi, hz0, hz1, hz2⟩ := info_parts Try.infoInt
  go_enter Try.func12, Try.ntmps12
  go_wp2_with (at_make; refine wpList_make_full _ rfl _ _ 35 rfl w.heap.size 3 i0 (.int .i64 0) 1 Try.underlying35 hi hz0 hz1 _ _ _ _ 5 rfl rfl rfl rfl ?b1 ?b2 (Nat.le_refl _) ?_)
  case b1 => rw [hz2]; decide
  case b2 => unfold maxLen; omega
  intro w1 hown hgrow
  have hown1 : w1.ownsRow w.heap.size 3 1 (.slice (some ⟨w.heap.size, 0, none⟩) 5 5) 5 (List.replicate 5 (.int .i64 0)) := by
    simpa [Value.cells, toList_madeCells_one] using hown
  have hb1 : Below w.heap.size w w1 := (Below.refl _ _).grown hgrow (Nat.le_refl _) (by simp)
  have H0 : Hid ((∀ j, j < 5 → ∃ u, w1.cell? ⟨w.heap.size, j, none⟩ = some u ∧ (j < 0 → u = .int .i64 (v j : Int))) ∧ ∀ j, j < 5 → w1.frozen? ⟨w.heap.size, j, none⟩ = false) :=
    ⟨fun j hj => ⟨.int .i64 0, by rw [hown1.cellAt j (by omega), List.getElem?_replicate, if_pos hj], fun h => by omega⟩, fun j hj => hown1.frozenAt j⟩
  generalize hgg : w.heap.size = g at *
  have HG : Hid (w.heap.size = g) := hgg
  have HB := hide hb1
  have HR := hide h
  clear hown hgrow hgg hown1 hb1 h
  go_wp2
  go_loopw [10] (fun i wr => ∃ m : Nat, m ≤ 5 ∧ i = .int .i64 m ∧ Below g w wr ∧ (∀ j, j < 5 → ∃ u, wr.cell? ⟨g, j, none⟩ = some u ∧ (j < m → u = .int .i64 (v j : Int))) ∧ ∀ j, j < 5 → wr.frozen? ⟨g, j, none⟩ = false) (fun i _ => 5 - (intOf i).toNat)
  case atStart => exact ⟨0, Nat.zero_le _, rfl, HB.out, H0.out.1, H0.out.2⟩
  case round =>
    obtain ⟨m, hm, rfl, hb, hcs, hfs⟩ := hrel
    have hR : MkAt wr t r b v := HR.out.below (by rw [HG.out]; exact hb)
    have HC := hide hcs
    have HF := hide hfs
    have HB' := hide hb
    clear hcs hfs hb H0
    by_cases hlt : m < 5
    · obtain ⟨u, hu, -⟩ := HC.out m hlt
      have hf := HF.out m hlt
      have hat := mat_yes hR m hlt _ rfl
      have HW : Hid (∀ j, j < 5 → ∃ u, (wr.setCell ⟨g, m, none⟩ (.int .i64 (v m : Int))).cell? ⟨g, j, none⟩ = some u ∧ (j < m + 1 → u = .int .i64 (v j : Int))) := fun j hj => by
        by_cases e : j = m
        · subst e
          exact ⟨_, World.cell?_setCell_same _ _ _ hu, fun _ => rfl⟩
        · obtain ⟨u', h1, h2⟩ := HC.out j hj
          exact ⟨u', by rw [cell_set_off _ _ _ _ (fun c => e c.symm)]; exact h1, fun hl => h2 (by omega)⟩
      generalize v m = x at *
      clear hR
      go_wp2_with fail
      refine hat.mono ?_
      rintro e y ⟨rfl, rfl⟩
      go_wp2
      go_roundw
      case rel =>
        exact ⟨m + 1, by omega, by go_num, HB'.out.setCell (Nat.le_refl _) _, HW.out, fun j hj => by rw [World.frozen?_setCell]; exact HF.out j hj⟩
      case measure => simp [intOf]; omega
    · go_wp2
      go_ret
      have e : m = 5 := by omega
      subst e
      refine ⟨g, rfl, fun j hj => ?_, by rw [HG.out]; exact Nat.le_refl _, by rw [HG.out]; exact HB'.out⟩
      obtain ⟨u, h1, h2⟩ := HC.out j hj
      rw [h1, h2 hj]
/-- What Begin tells, and the marks behind it. -/
def beginE (v : Nat → Nat) (p : Int) : Int := if p < 0 then 1 else if v 0 = 0 then 0 else 8
def beginV (v : Nat → Nat) (p : Int) : Nat → Nat := if beginE v p = 0 then fun _ => p.toNat else v
set_option maxHeartbeats 1000000 in
theorem mbegin {w : World} {t r b : Nat} {v : Nat → Nat} (h : MkAt w t r b v) (p : Int) (hp : p ≤ 9223372036854775807) :
    Calls Try.prog 8 #[.pointer (some ⟨t, 0, none⟩), .int .i64 p] w fun e w' => e = .returned (.int .i64 (beginE v p)) ∧ MkAt w' t r b (beginV v p) ∧ Keeps (fun k => k = b) w w' := by
  by_cases g0 : p < 0
  · have e1 : beginE v p = 1 := by rw [beginE, if_pos g0]
    have e2 : beginV v p = v := by rw [beginV, e1]; rfl
    rw [e1, e2]
    go_enter Try.func8, Try.ntmps8
    go_wp2
    go_ret
    exact ⟨rfl, h, Keeps.refl _ _⟩
  have a0 := mat_yes h 0 (by decide) _ rfl
  by_cases g1 : v 0 = 0
  · have e1 : beginE v p = 0 := by rw [beginE, if_neg g0, if_pos g1]
    obtain ⟨y, rfl⟩ := Int.eq_ofNat_of_zero_le (show 0 ≤ p by omega)
    have e2 : beginV v y = fun _ => y := by rw [beginV, if_pos e1]; rfl
    rw [e1, e2]
    rw [g1] at a0
    have hu := u64_of_nat (show y ≤ 9223372036854775807 by omega)
    have HH := hide h
    clear e1 e2 g1
    go_enter Try.func8, Try.ntmps8
    go_wp2_with fail
    refine a0.mono ?_
    rintro e x ⟨rfl, rfl⟩
    clear a0 h
    go_wp2
    go_loopw [13] (fun i wr => ∃ m : Nat, m ≤ 5 ∧ i = .int .i64 m ∧ MkAt wr t r b (fun j => if j < m then y else v j) ∧ Keeps (fun k => k = b) x wr) (fun i _ => 5 - (intOf i).toNat)
    case atStart => exact ⟨0, Nat.zero_le _, rfl, HH.out, Keeps.refl _ _⟩
    case round =>
      obtain ⟨m, hm, rfl, hR, hK⟩ := hrel
      have HK := hide hK
      by_cases hlt : m < 5
      · have hst := store_yes r b 5 5 m _ (y : Int) hlt wr hR.row.c0 (hR.row.cs m hlt) (hR.row.fs m hlt)
        have HW : Hid (MkAt (wr.setCell ⟨b, m, none⟩ (.int .u64 (y : Int))) t r b (fun j => if j < m + 1 then y else v j)) := by
          have h1 := hR.word m y hlt (by omega)
          have h2 : upM (fun j => if j < m then y else v j) m y = fun j => if j < m + 1 then y else v j := by
            funext j
            unfold upM
            by_cases e : j = m
            · rw [if_pos e, if_pos (by omega)]
            · rw [if_neg e]
              show (if j < m then y else v j) = _
              by_cases e2 : j < m
              · rw [if_pos e2, if_pos (by omega)]
              · rw [if_neg e2, if_neg (by omega)]
          rw [h2] at h1
          exact h1
        have HK2 : Hid (Keeps (fun k => k = b) x (wr.setCell ⟨b, m, none⟩ (.int .u64 (y : Int)))) := hK.setCell _ (fun _ => rfl) _
        have c0 := hR.c0
        clear hR hK
        go_wp2_with fail
        refine hst.mono ?_
        rintro e z ⟨rfl, rfl⟩
        go_wp2
        go_roundw
        case rel => exact ⟨m + 1, by omega, by go_num, HW.out, HK2.out⟩
        case measure => simp [intOf]; omega
      · go_wp2
        go_ret
        have e : m = 5 := by omega
        subst e
        exact ⟨rfl, ⟨hR.c0, hR.row.same (fun i hi => by rw [if_pos hi]), hR.ne, fun i hi => by omega⟩, HK.out⟩
  · have e1 : beginE v p = 8 := by rw [beginE, if_neg g0, if_neg g1]
    have e2 : beginV v p = v := by rw [beginV, e1]; rfl
    rw [e1, e2]
    generalize v 0 = x at *
    have d0 : ((x : Int) != 0) = true := by simp; omega
    clear e1 e2
    go_enter Try.func8, Try.ntmps8
    go_wp2_with fail
    refine a0.mono ?_
    rintro e x ⟨rfl, rfl⟩
    go_wp2
    go_ret
    exact ⟨rfl, h, Keeps.refl _ _⟩
set_option maxHeartbeats 1000000 in
theorem mnew (w : World) :
    Calls Try.prog 7 #[] w fun e w' => ∃ t r b, e = .returned (.pointer (some ⟨t, 0, none⟩)) ∧ MkAt w' t r b (fun _ => 0) ∧ w.heap.size ≤ t ∧ w.heap.size ≤ r ∧ w.heap.size ≤ b ∧ t < w'.heap.size ∧ Below w.heap.size w w' := by
  go_enter Try.func7, Try.ntmps7
  go_wp2_with fail
  refine (new_yes 5 (by decide) (by decide) _).mono ?_
  rintro e x ⟨r, b, rfl, hr, h1, h2, hb⟩
  have hlt : b < x.heap.size := World.block_lt_of_cell? x _ (hr.cs 0 (by decide))
  have HR := hide hr
  clear hr
  go_wp2
  go_ret
  refine ⟨x.heap.size, r, b, rfl, ⟨by simp, HR.out.under ((Below.refl _ _).alloc (Nat.le_refl _) _), by omega, fun _ _ => by omega⟩, by have := hb.size; omega, h1, h2, by simp, hb.alloc hb.size _⟩
theorem mn_at (i : Int) (w : World) : Calls Try.prog 13 #[.pointer none, .int .i64 i] w fun e w' => e = .returned (.int .i64 0) ∧ w' = w := by
  go_enter Try.func13, Try.ntmps13
  go_wp2
  go_ret
  exact ⟨rfl, rfl⟩
theorem mn_most (i T : Int) (w : World) : Calls Try.prog 14 #[.pointer none, .int .i64 i, .int .i64 T] w fun e w' => e = .returned (.int .i64 0) ∧ w' = w := by
  go_enter Try.func14, Try.ntmps14
  go_wp2
  go_ret
  exact ⟨rfl, rfl⟩
theorem mn_raise (i to T : Int) (w : World) : Calls Try.prog 10 #[.pointer none, .int .i64 i, .int .i64 to, .int .i64 T] w fun e w' => e = .returned (.int .i64 2) ∧ w' = w := by
  go_enter Try.func10, Try.ntmps10
  go_wp2
  go_ret
  exact ⟨rfl, rfl⟩
theorem mn_region (p T : Int) (w : World) : Calls Try.prog 15 #[.pointer none, .int .i64 p, .int .i64 T] w fun e w' => e = .returned (.int .i64 0) ∧ w' = w := by
  go_enter Try.func15, Try.ntmps15
  go_wp2
  go_ret
  exact ⟨rfl, rfl⟩
theorem mn_all (w : World) : Calls Try.prog 12 #[.pointer none] w fun e w' => e = .returned (.slice none 0 0) ∧ w' = w := by
  go_enter Try.func12, Try.ntmps12
  go_wp2
  go_ret
  exact ⟨rfl, rfl⟩
theorem mn_begin (p : Int) (w : World) : Calls Try.prog 8 #[.pointer none, .int .i64 p] w fun e w' => e = .returned (.int .i64 2) ∧ w' = w := by
  go_enter Try.func8, Try.ntmps8
  go_wp2
  go_ret
  exact ⟨rfl, rfl⟩
set_option maxHeartbeats 1000000 in
theorem awake13 (w : World) : Calls Try.prog 6 #[] w fun e w' => e = .returned (.bool true) ∧ Below w.heap.size w w' := by
  go_enter Try.func6, Try.ntmps6
  go_wp2_with fail
  refine (mnew _).mono ?_
  rintro e x1 ⟨t, r, b, rfl, h, h1, h2, h3, -, hb⟩
  go_wp2_with fail
  refine (mraise h 0 2 3 (by decide)).mono ?_
  rintro e x2 ⟨rfl, h', k⟩
  have e1 : raiseV (fun _ => 0) 0 2 3 = upM (fun _ => 0) 0 2 := rfl
  have e2 : raiseE (fun _ => 0) 0 2 3 = 0 := rfl
  rw [e1] at h'
  rw [e2]
  have hb2 : Below w.heap.size w x2 := hb.trans (k.below hb.size (fun k hk => by omega))
  have r1 := mregion h' 1 3
  have r2 := mregion h' 2 3
  have e3 : regionN (upM (fun _ => 0) 0 2) 1 3 = 2 := rfl
  have e4 : regionN (upM (fun _ => 0) 0 2) 2 3 = 1 := rfl
  rw [e3] at r1
  rw [e4] at r2
  clear h h' hb k e1 e2 e3 e4
  go_wp2_with fail
  refine r1.mono ?_
  rintro e y ⟨rfl, rfl⟩
  go_wp2_with fail
  refine r2.mono ?_
  rintro e y ⟨rfl, rfl⟩
  go_wp2
  go_ret
  exact ⟨rfl, hb2⟩
end Go.Proofs.Ytpnomcaionodjaa
