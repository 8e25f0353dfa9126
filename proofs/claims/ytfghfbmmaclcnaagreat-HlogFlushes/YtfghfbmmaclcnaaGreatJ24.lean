/- Parts of the proof: Vs Vt. -/
import Derived.Test.YtfghfbmmaclcnaaGreatJ23
namespace Go.Proofs.YtfghfbmmaclcnaaGreat
set_option maxRecDepth 20000
open Go.RowKit Go.Maps Go.Shelf
theorem or_three (w : World) (B : Nat) (x0 x1 x2 : Int) (h0 : w.cell? ⟨B, 0, none⟩ = some (.int .i64 x0)) (h1 : w.cell? ⟨B, 1, none⟩ = some (.int .i64 x1)) (h2 : w.cell? ⟨B, 2, none⟩ = some (.int .i64 x2)) :
    Calls Tryz.prog 74 #[.slice (some ⟨B, 0, none⟩) 3 3] w fun e w' => e = .returned (.int .i64 (if x0 ≠ 0 then x0 else if x1 ≠ 0 then x1 else x2)) ∧ w' = w := by
  by_cases n0 : x0 = 0
  · subst n0
    rw [if_neg (by decide)]
    by_cases n1 : x1 = 0
    · subst n1
      rw [if_neg (by decide)]
      by_cases n2 : x2 = 0
      · subst n2
        go_enter Tryz.func74, Tryz.ntmps74
        go_wp2
        refine wp_loop_rounds 4 ?_
        iterate 4
          rw [rounds_succ]
          go_wp2
        go_ret
        exact ⟨rfl, rfl⟩
      · have n0' : (x2 != 0) = true := by simpa using n2
        clear n2
        go_enter Tryz.func74, Tryz.ntmps74
        go_wp2
        refine wp_loop_rounds 3 ?_
        iterate 3
          rw [rounds_succ]
          go_wp2
        go_ret
        exact ⟨rfl, rfl⟩
    · rw [if_pos n1]
      have n0' : (x1 != 0) = true := by simpa using n1
      clear n1 h2
      go_enter Tryz.func74, Tryz.ntmps74
      go_wp2
      refine wp_loop_rounds 2 ?_
      iterate 2
        rw [rounds_succ]
        go_wp2
      go_ret
      exact ⟨rfl, rfl⟩
  · rw [if_pos n0]
    have n0' : (x0 != 0) = true := by simpa using n0
    clear n0 h1 h2
    go_enter Tryz.func74, Tryz.ntmps74
    go_wp2
    refine wp_loop_rounds 1 ?_
    rw [rounds_succ]
    go_wp2
    go_ret
    exact ⟨rfl, rfl⟩
theorem tnew_any (bs sp : Int) (w : World) : Calls Tryz.prog 71 #[.int .i64 bs, .int .i64 sp] w fun e w' => ∃ p, e = .returned (.tuple #[.pointer p, .int .i64 (if (5 ≤ bs ∧ bs ≤ 9) ∧ 1 ≤ sp ∧ sp ≤ 64 then 0 else 1)]) ∧ Below w.heap.size w w' := by
  by_cases h : (5 ≤ bs ∧ bs ≤ 9) ∧ 1 ≤ sp ∧ sp ≤ 64
  · rw [if_pos h]
    have := tNew_yes bs sp.toNat h.1 ⟨by omega, by omega⟩ w
    rw [show ((sp.toNat : Nat) : Int) = sp by omega] at this
    refine this.mono ?_
    rintro e w' ⟨t, r, b, rfl, -, -, -, -, hb⟩
    exact ⟨_, rfl, hb⟩
  · rw [if_neg h]
    refine (tNew_no bs sp h w).mono ?_
    rintro e w' ⟨rfl, hb⟩
    exact ⟨_, rfl, hb⟩
theorem pnew_any (bs n : Int) (w : World) : Calls Tryz.prog 72 #[.int .i64 bs, .int .i64 n] w fun e w' => ∃ p, e = .returned (.tuple #[.pointer p, .int .i64 (if (5 ≤ bs ∧ bs ≤ 9) ∧ 2 ≤ n ∧ n ≤ 8 then 0 else 1)]) ∧ Below w.heap.size w w' := by
  by_cases h : (5 ≤ bs ∧ bs ≤ 9) ∧ 2 ≤ n ∧ n ≤ 8
  · rw [if_pos h]
    have := pb_new_yes bs n.toNat h.1 ⟨by omega, by omega⟩ w
    rw [show ((n.toNat : Nat) : Int) = n by omega] at this
    refine this.mono ?_
    rintro e w' ⟨t, rfl, -, hb⟩
    exact ⟨_, rfl, hb⟩
  · rw [if_neg h]
    refine (pb_new_no bs n ?_ w).mono ?_
    · unfold mayB
      by_cases hb : 5 ≤ bs ∧ bs ≤ 9
      · right; omega
      · left; simp; omega
    rintro e w' ⟨rfl, rfl⟩
    exact ⟨_, rfl, Below.refl _ _⟩
theorem enew_any (n : Int) (w : World) : Calls Tryz.prog 73 #[.int .i64 n] w fun e w' => ∃ p, e = .returned (.tuple #[.pointer p, .int .i64 (if 1 ≤ n ∧ n ≤ 8 then 0 else 1)]) ∧ Below w.heap.size w w' := by
  by_cases h : 1 ≤ n ∧ n ≤ 8
  · rw [if_pos h]
    have := table_yes n.toNat (by omega) (by omega) w
    rw [show ((n.toNat : Nat) : Int) = n by omega] at this
    refine this.mono ?_
    rintro e w' ⟨t, rfl, -, hb⟩
    exact ⟨_, rfl, hb⟩
  · rw [if_neg h]
    refine (new_no n (by omega) w).mono ?_
    rintro e w' ⟨rfl, rfl⟩
    exact ⟨_, rfl, Below.refl _ _⟩
/-- May a log be made so? -/
def cfgB (c0 c1 c2 c5 : Int) : Prop := (5 ≤ c0 ∧ c0 ≤ 9) ∧ (2 ≤ c1 ∧ c1 ≤ 8) ∧ (1 ≤ c2 ∧ c2 ≤ 64) ∧ 1 ≤ c5 ∧ c5 ≤ 8
set_option maxHeartbeats 1000000 in
theorem hl_new_no (w : World) (c0 c1 c2 c3 c4 c5 : Int) (d : Nat) (hc : ¬ cfgB c0 c1 c2 c5) :
    Calls Tryz.prog 25 #[.agg #[.int .i64 c0, .int .i64 c1, .int .i64 c2, .int .i64 c3, .int .i64 c4, .int .i64 c5], .pointer (some ⟨d, 0, none⟩)] w fun e w' => e = .returned (.tuple #[.pointer none, .int .i64 1]) ∧ Below w.heap.size w w' := by
  have HT := hide (fun x => tnew_any c0 c2 x)
  have HP := hide (fun x => pnew_any c0 c1 x)
  have HE := hide (fun x => enew_any c5 x)
  obtain ⟨te, hte⟩ : ∃ te : Int, (if (5 ≤ c0 ∧ c0 ≤ 9) ∧ 1 ≤ c2 ∧ c2 ≤ 64 then (0 : Int) else 1) = te := ⟨_, rfl⟩
  obtain ⟨pe, hpe⟩ : ∃ pe : Int, (if (5 ≤ c0 ∧ c0 ≤ 9) ∧ 2 ≤ c1 ∧ c1 ≤ 8 then (0 : Int) else 1) = pe := ⟨_, rfl⟩
  obtain ⟨ee, hee⟩ : ∃ ee : Int, (if 1 ≤ c5 ∧ c5 ≤ 8 then (0 : Int) else 1) = ee := ⟨_, rfl⟩
  have HO : Hid ((if te ≠ 0 then te else if pe ≠ 0 then pe else ee) = 1) := by
    unfold Hid
    unfold cfgB at hc
    rw [← hte, ← hpe, ← hee]
    by_cases h1 : (5 ≤ c0 ∧ c0 ≤ 9) ∧ 1 ≤ c2 ∧ c2 ≤ 64
    · rw [if_pos h1, if_neg (by decide)]
      by_cases h2 : (5 ≤ c0 ∧ c0 ≤ 9) ∧ 2 ≤ c1 ∧ c1 ≤ 8
      · rw [if_pos h2, if_neg (by decide)]
        rw [if_neg (by omega)]
      · rw [if_neg h2]; rfl
    · rw [if_neg h1]; rfl
  rw [hte] at HT
  rw [hpe] at HP
  rw [hee] at HE
  have HOR := hide (fun x B h0 h1 h2 => or_three x B te pe ee h0 h1 h2)
  rw [HO.out] at HOR
  clear hte hpe hee hc HO
  go_enter Tryz.func25, Tryz.ntmps25
  have hbz := (Below.refl w.heap.size w).alloc (Nat.le_refl _) (.cells #[.int .i64 c0, .int .i64 c1, .int .i64 c2, .int .i64 c3, .int .i64 c4, .int .i64 c5] 23)
  have z0 : (w.alloc (.cells #[.int .i64 c0, .int .i64 c1, .int .i64 c2, .int .i64 c3, .int .i64 c4, .int .i64 c5] 23)).cell? ⟨w.heap.size, 0, none⟩ = some (.int .i64 c0) := by simp
  have z1 : (w.alloc (.cells #[.int .i64 c0, .int .i64 c1, .int .i64 c2, .int .i64 c3, .int .i64 c4, .int .i64 c5] 23)).cell? ⟨w.heap.size, 1, none⟩ = some (.int .i64 c1) := by simp
  have z5 : (w.alloc (.cells #[.int .i64 c0, .int .i64 c1, .int .i64 c2, .int .i64 c3, .int .i64 c4, .int .i64 c5] 23)).cell? ⟨w.heap.size, 5, none⟩ = some (.int .i64 c5) := by simp
  have HZ := hide (And.intro z0 (And.intro z1 z5))
  clear z0 z1 z5
  go_wp2_with fail
  generalize w.alloc (.cells #[.int .i64 c0, .int .i64 c1, .int .i64 c2, .int .i64 c3, .int .i64 c4, .int .i64 c5] 23) = z at *
  refine (HT.out _).mono ?_
  rintro e x1 ⟨p1, rfl, b1⟩
  have y0 := (b1.cell (World.block_lt_of_cell? z _ HZ.out.1)).trans HZ.out.1
  have y1 := (b1.cell (World.block_lt_of_cell? z _ HZ.out.2.1)).trans HZ.out.2.1
  have y5 := (b1.cell (World.block_lt_of_cell? z _ HZ.out.2.2)).trans HZ.out.2.2
  have hb1 := hbz.trans (b1.mono hbz.size)
  go_wp2_with fail
  refine (HP.out _).mono ?_
  rintro e x2 ⟨p2, rfl, b2⟩
  have u5 := (b2.cell (World.block_lt_of_cell? x1 _ y5)).trans y5
  have hb2 := hb1.trans (b2.mono hb1.size)
  clear y0 y1 y5 b1 hb1 hbz b2
  go_wp2_with fail
  refine (HE.out _).mono ?_
  rintro e x3 ⟨p3, rfl, b3⟩
  have hb3 := hb2.trans (b3.mono hb2.size)
  clear u5 b3 hb2
  have hb4 := hb3.alloc hb3.size (.cells #[.int .i64 te, .int .i64 pe, .int .i64 ee] 28)
  have hor := HOR.out (x3.alloc (.cells #[.int .i64 te, .int .i64 pe, .int .i64 ee] 28)) x3.heap.size (by simp) (by simp) (by simp)
  have HB4 := hide hb4
  clear HOR HT HP HE HZ hb4
  go_wp2_with fail
  refine hor.mono ?_
  rintro e x4 ⟨rfl, hx4⟩
  subst hx4
  clear hor
  go_wp2
  go_ret2
  exact ⟨rfl, HB4.out⟩
end Go.Proofs.YtfghfbmmaclcnaaGreat
namespace Go.Proofs.YtfghfbmmaclcnaaGreat
set_option maxRecDepth 20000
open Go.RowKit Go.Maps Go.Shelf
/-- A log as New makes it. -/
def hs0 (c : Cf) (d : Dv) : Hs := ⟨0, 1, fun _ => 0, 1, fun _ => 0, [], d, updF (fun _ => none) (0 % c.n) (some (0, fun _ => 0)), []⟩
theorem flyF_nil : flyF [] = fun _ => none := rfl
theorem lanF_nil (m : Nat) : lanF [] m = fun _ => none := rfl
/-- Whose a new log's blocks are. -/
def own0 (vt z x1 x2 x3 x4 x5 : Nat) (x : Nat) : Nat :=
  if vt ≤ x ∧ x ≤ vt + 3 then 6 else if z ≤ x ∧ x < x1 then 1 else if x1 ≤ x ∧ x < x2 then 2 else if x2 ≤ x ∧ x < x3 then 4 else if x4 ≤ x ∧ x < x5 then 3
  else if x = x5 then 5 else if x = x5 + 1 then 7 else if x = x5 + 2 then 8 else if x = x5 + 3 then 9 else 0
theorem own0_is {vt z x1 x2 x3 x4 x5 x : Nat} (hv : vt + 3 < z) (h1 : z ≤ x1) (h2 : x1 ≤ x2) (h3 : x2 ≤ x3) (h4 : x3 ≤ x4) (h5 : x4 ≤ x5) :
    (vt ≤ x ∧ x ≤ vt + 3 → own0 vt z x1 x2 x3 x4 x5 x = 6) ∧ (z ≤ x ∧ x < x1 → own0 vt z x1 x2 x3 x4 x5 x = 1) ∧ (x1 ≤ x ∧ x < x2 → own0 vt z x1 x2 x3 x4 x5 x = 2) ∧ (x2 ≤ x ∧ x < x3 → own0 vt z x1 x2 x3 x4 x5 x = 4) ∧ (x4 ≤ x ∧ x < x5 → own0 vt z x1 x2 x3 x4 x5 x = 3) ∧
    (x = x5 → own0 vt z x1 x2 x3 x4 x5 x = 5) ∧ (x = x5 + 1 → own0 vt z x1 x2 x3 x4 x5 x = 7) ∧ (x = x5 + 2 → own0 vt z x1 x2 x3 x4 x5 x = 8) ∧ (x = x5 + 3 → own0 vt z x1 x2 x3 x4 x5 x = 9) ∧ (own0 vt z x1 x2 x3 x4 x5 x ≠ 0 → ((vt ≤ x ∧ x ≤ vt + 3) ∨ z ≤ x) ∧ x < x5 + 4) ∧ own0 vt z x1 x2 x3 x4 x5 x ≤ 9 := by
  unfold own0
  refine ⟨fun h => ?_, fun h => ?_, fun h => ?_, fun h => ?_, fun h => ?_, fun h => ?_, fun h => ?_, fun h => ?_, fun h => ?_, fun h => ?_, ?_⟩
  all_goals
    repeat' split at *
    all_goals omega
set_option maxHeartbeats 2000000 in
theorem hl_new_yes (w : World) (c : Cf) (hc : CfOk c) (c3 c4 : Int) (vt : Nat) (d : Dv) (hd : DvIs w vt d) :
    Calls Tryz.prog 25 #[.agg #[.int .i64 c.b, .int .i64 (c.n : Int), .int .i64 (c.sp : Int), .int .i64 c3, .int .i64 c4, .int .i64 (c.ns : Int)], .pointer (some ⟨vt + 3, 0, none⟩)] w fun e w' => ∃ (o : Nat → Nat) (a : Ad), e = .returned (.tuple #[.pointer (some ⟨a.l, 0, none⟩), .int .i64 0]) ∧ Hp w' o a c (hs0 c d) 0 ∧ a.vt = vt ∧ (∀ x, o x ≠ 0 → (w.heap.size ≤ x ∨ InD vt x) ∧ o x ≤ 9) ∧ Below w.heap.size w w' := by
  have HT := hide (fun x => tNew_yes c.b c.sp hc.hb hc.hs x)
  have HP := hide (fun x => pb_new_yes c.b c.n hc.hb hc.hn x)
  have HE := hide (fun x => table_yes c.ns hc.he.1 hc.he.2 x)
  have HOR := hide (fun x B h0 h1 h2 => or_three x B 0 0 0 h0 h1 h2)
  have HD := hide hd
  have hvl := hd.lt
  clear hd
  have hmm := @run_makeMap Tryz.prog
  go_enter Tryz.func25, Tryz.ntmps25
  have hbz := (Below.refl w.heap.size w).alloc (Nat.le_refl _) (.cells #[.int .i64 c.b, .int .i64 (c.n : Int), .int .i64 (c.sp : Int), .int .i64 c3, .int .i64 c4, .int .i64 (c.ns : Int)] 23)
  have z0 : (w.alloc (.cells #[.int .i64 c.b, .int .i64 (c.n : Int), .int .i64 (c.sp : Int), .int .i64 c3, .int .i64 c4, .int .i64 (c.ns : Int)] 23)).cell? ⟨w.heap.size, 0, none⟩ = some (.int .i64 c.b) := by simp
  have z1 : (w.alloc (.cells #[.int .i64 c.b, .int .i64 (c.n : Int), .int .i64 (c.sp : Int), .int .i64 c3, .int .i64 c4, .int .i64 (c.ns : Int)] 23)).cell? ⟨w.heap.size, 1, none⟩ = some (.int .i64 (c.n : Int)) := by simp
  have z5 : (w.alloc (.cells #[.int .i64 c.b, .int .i64 (c.n : Int), .int .i64 (c.sp : Int), .int .i64 c3, .int .i64 c4, .int .i64 (c.ns : Int)] 23)).cell? ⟨w.heap.size, 5, none⟩ = some (.int .i64 (c.ns : Int)) := by simp
  have zs : w.heap.size < (w.alloc (.cells #[.int .i64 c.b, .int .i64 (c.n : Int), .int .i64 (c.sp : Int), .int .i64 c3, .int .i64 c4, .int .i64 (c.ns : Int)] 23)).heap.size := by simp
  have HZ := hide (And.intro z0 (And.intro z1 z5))
  clear z0 z1 z5
  go_wp2_with fail
  generalize w.alloc (.cells #[.int .i64 c.b, .int .i64 (c.n : Int), .int .i64 (c.sp : Int), .int .i64 c3, .int .i64 c4, .int .i64 (c.ns : Int)] 23) = z at *
  refine (HT.out _).mono ?_
  rintro e x1 ⟨at1, ar1, ab1, rfl, ht1, lt1, lr1, lb1, b1⟩
  have y0 := (b1.cell (World.block_lt_of_cell? z _ HZ.out.1)).trans HZ.out.1
  have y1 := (b1.cell (World.block_lt_of_cell? z _ HZ.out.2.1)).trans HZ.out.2.1
  have y5 := (b1.cell (World.block_lt_of_cell? z _ HZ.out.2.2)).trans HZ.out.2.2
  have hb1 := hbz.trans (b1.mono hbz.size)
  have HT1 := hide ht1
  clear ht1
  go_wp2_with fail
  refine (HP.out _).mono ?_
  rintro e x2 ⟨bt2, rfl, hp2, b2⟩
  have u5 := (b2.cell (World.block_lt_of_cell? x1 _ y5)).trans y5
  have hb2 := hb1.trans (b2.mono hb1.size)
  have HP2 := hide hp2
  have HB2 := hide b2
  clear y0 y1 y5 hp2
  go_wp2_with fail
  refine (HE.out _).mono ?_
  rintro e x3 ⟨et3, rfl, he3, b3⟩
  have hb3 := hb2.trans (b3.mono hb2.size)
  have HE3 := hide he3
  have HB3 := hide b3
  clear u5 he3
  have hb4 := hb3.alloc hb3.size (.cells #[.int .i64 0, .int .i64 0, .int .i64 0] 28)
  have hor := HOR.out (x3.alloc (.cells #[.int .i64 0, .int .i64 0, .int .i64 0] 28)) x3.heap.size (by simp) (by simp) (by simp)
  have HB4 := hide hb4
  have b4 := (Below.refl x3.heap.size x3).alloc (Nat.le_refl _) (.cells #[.int .i64 0, .int .i64 0, .int .i64 0] 28)
  clear HOR HT HP HE HZ hb4 hb3 hb2 hb1 hbz
  go_wp2_with fail
  refine hor.mono ?_
  rintro e x4 ⟨rfl, hx4⟩
  rw [← hx4] at HB4 b4
  clear hor hx4
  go_wp2_with fail
  refine (mnew _).mono ?_
  rintro e x5 ⟨mt, mr, mb, rfl, hm5, lmt, lmr, lmb, lmt', b5⟩
  have HM5 := hide hm5
  have HB5 := hide b5
  clear hm5
  go_wp2_with fail
  refine (drain_new _).mono ?_
  rintro e x6 ⟨rfl, hs6, hd6, b6⟩
  have HD6 := hide hd6
  have HB6 := hide b6
  clear hd6
  have a1 := (MapAs.made (M := MI) x6).alloc (.map #[] 0)
  have a2 := MapAs.made (M := MI) (x6.alloc (.map #[] 0))
  have e1 : (x6.alloc (.map #[] 0)).heap.size = x6.heap.size + 1 := by simp
  have e2 : ((x6.alloc (.map #[] 0)).alloc (.map #[] 0)).heap.size = x6.heap.size + 2 := by simp
  rw [e1] at a2
  have b7 : Below x6.heap.size x6 ((x6.alloc (.map #[] 0)).alloc (.map #[] 0)) := ((Below.refl x6.heap.size x6).alloc (Nat.le_refl _) (.map #[] 0)).alloc (by simp) (.map #[] 0)
  have HA1 := hide a1
  have HA2 := hide a2
  have HB7 := hide b7
  have HE2 := hide e2
  clear a1 a2 e1 e2 b7
  go_wp2_with fail
  generalize hx7 : (x6.alloc (.map #[] 0)).alloc (.map #[] 0) = x7 at *
  have h7s : x7.heap.size = x5.heap.size + 3 := by have := HE2.out; omega
  have hb8 := (Below.refl x7.heap.size x7).alloc (Nat.le_refl _) (.cells #[.pointer (some ⟨at1, 0, none⟩), .pointer (some ⟨bt2, 0, none⟩), .pointer (some ⟨mt, 0, none⟩), .pointer (some ⟨et3, 0, none⟩), .pointer (some ⟨x5.heap.size, 0, none⟩), .pointer (some ⟨vt + 3, 0, none⟩), .map (some (x5.heap.size + 1)), .map (some (x5.heap.size + 1 + 1))] 104)
  have hcell : ∀ i v, #[Value.pointer (some ⟨at1, 0, none⟩), .pointer (some ⟨bt2, 0, none⟩), .pointer (some ⟨mt, 0, none⟩), .pointer (some ⟨et3, 0, none⟩), .pointer (some ⟨x5.heap.size, 0, none⟩), .pointer (some ⟨vt + 3, 0, none⟩), .map (some (x5.heap.size + 1)), .map (some (x5.heap.size + 1 + 1))][i]? = some v → (x7.alloc (.cells #[.pointer (some ⟨at1, 0, none⟩), .pointer (some ⟨bt2, 0, none⟩), .pointer (some ⟨mt, 0, none⟩), .pointer (some ⟨et3, 0, none⟩), .pointer (some ⟨x5.heap.size, 0, none⟩), .pointer (some ⟨vt + 3, 0, none⟩), .map (some (x5.heap.size + 1)), .map (some (x5.heap.size + 1 + 1))] 104)).cell? ⟨x5.heap.size + 3, i, none⟩ = some v := fun i v hv => by
    rw [← h7s]
    rcases i with _ | _ | _ | _ | _ | _ | _ | _ | i
    all_goals first
      | (simp at hv; subst hv; simp; done)
      | (simp at hv)
  have hs8 : (x7.alloc (.cells #[.pointer (some ⟨at1, 0, none⟩), .pointer (some ⟨bt2, 0, none⟩), .pointer (some ⟨mt, 0, none⟩), .pointer (some ⟨et3, 0, none⟩), .pointer (some ⟨x5.heap.size, 0, none⟩), .pointer (some ⟨vt + 3, 0, none⟩), .map (some (x5.heap.size + 1)), .map (some (x5.heap.size + 1 + 1))] 104)).heap.size = x5.heap.size + 4 := by simp; omega
  generalize x7.alloc (.cells #[.pointer (some ⟨at1, 0, none⟩), .pointer (some ⟨bt2, 0, none⟩), .pointer (some ⟨mt, 0, none⟩), .pointer (some ⟨et3, 0, none⟩), .pointer (some ⟨x5.heap.size, 0, none⟩), .pointer (some ⟨vt + 3, 0, none⟩), .map (some (x5.heap.size + 1)), .map (some (x5.heap.size + 1 + 1))] 104) = x8 at *
  have hT1 := HT1.out
  have g1 := b1.size
  have g2 := b2.size
  have g3 := b3.size
  have g4 := b4.size
  have g5 := b5.size
  have k78 : Below x6.heap.size x6 x8 := HB7.out.trans (hb8.mono HB7.out.size)
  have k58 : Below x5.heap.size x5 x8 := b6.trans (k78.mono b6.size)
  have k48 : Below x4.heap.size x4 x8 := b5.trans (k58.mono b5.size)
  have k38 : Below x3.heap.size x3 x8 := b4.trans (k48.mono b4.size)
  have k28 : Below x2.heap.size x2 x8 := b3.trans (k38.mono b3.size)
  have k18 : Below x1.heap.size x1 x8 := b2.trans (k28.mono b2.size)
  have kw8 : Below w.heap.size w x8 := HB4.out.trans (k48.mono HB4.out.size)
  have OW := fun x => own0_is (vt := vt) (z := z.heap.size) (x1 := x1.heap.size) (x2 := x2.heap.size) (x3 := x3.heap.size) (x4 := x4.heap.size) (x5 := x5.heap.size) (x := x) (by omega) g1 g2 g3 g4 g5
  have hp8 : Hp x8 (own0 vt z.heap.size x1.heap.size x2.heap.size x3.heap.size x4.heap.size x5.heap.size) ⟨x5.heap.size + 3, at1, ar1, ab1, bt2, mt, mr, mb, et3, x2.heap.size, x3.heap.size, x5.heap.size, vt, x5.heap.size + 1, x5.heap.size + 1 + 1⟩ c { hs0 c d with F := fun _ => none } 0 := by
    refine ⟨hcell 0 _ rfl, hcell 1 _ rfl, hcell 2 _ rfl, hcell 3 _ rfl, hcell 4 _ rfl, hcell 5 _ rfl, hcell 6 _ rfl, hcell 7 _ rfl, (OW _).2.2.2.2.2.2.2.2.1 rfl, ⟨0, Nat.le_refl _, hT1.below k18⟩, ⟨(OW _).2.1 ⟨lt1, hT1.lt⟩, (OW _).2.1 ⟨lr1, World.block_lt_of_cell? x1 _ hT1.row.c0⟩, (OW _).2.1 ⟨lb1, World.block_lt_of_cell? x1 _ (hT1.row.cs 0 (by omega))⟩⟩,
      (HP2.out.below k28).wider (fun x e => (OW x).2.2.1 e), HM5.out.below k58, ⟨(OW _).2.2.2.2.1 ⟨lmt, lmt'⟩, (OW _).2.2.2.2.1 ⟨lmr, World.block_lt_of_cell? x5 _ HM5.out.row.c0⟩, (OW _).2.2.2.2.1 ⟨lmb, World.block_lt_of_cell? x5 _ (HM5.out.row.cs 0 (by omega))⟩⟩,
      HE3.out.below k38, fun x h1 h2 => (OW x).2.2.2.1 ⟨h1, h2⟩, (HD6.out.below k78).wider (fun x e => (OW x).2.2.2.2.2.1 e), HD.out.below kw8, fun x e => (OW x).1 e, ?_, (OW _).2.2.2.2.2.2.1 rfl, ?_, (OW _).2.2.2.2.2.2.2.1 rfl, fun x e => by have := ((OW x).2.2.2.2.2.2.2.2.2.1 e).2; omega⟩
    · have := HA1.out.below hb8
      rw [hs6] at this
      exact this
    · have := HA2.out.below hb8
      rw [hs6] at this
      exact this
  have hall : ∀ x, own0 vt z.heap.size x1.heap.size x2.heap.size x3.heap.size x4.heap.size x5.heap.size x ≠ 0 → (w.heap.size ≤ x ∨ InD vt x) := fun x e => by
    rcases ((OW x).2.2.2.2.2.2.2.2.2.1 e).1 with h | h
    · exact .inr h
    · exact .inl (by omega)
  have hnine : ∀ x, own0 vt z.heap.size x1.heap.size x2.heap.size x3.heap.size x4.heap.size x5.heap.size x ≤ 9 := fun x => (OW x).2.2.2.2.2.2.2.2.2.2
  obtain ⟨fb, gg, oo, hpp⟩ := hp8.pb
  have hopn := pb_open_yes hpp 0 (by omega) rfl (fun x e => hp8.sz x (by omega))
  simp only [Int.natCast_zero] at hopn
  generalize own0 vt z.heap.size x1.heap.size x2.heap.size x3.heap.size x4.heap.size x5.heap.size = o at *
  have HP8 := hide hp8
  have HAL := hide hall
  have HNI := hide hnine
  have HKW := hide kw8
  clear hp8 hall hnine OW hcell hb8 k78 k58 k48 k38 k28 k18 kw8 HA1 HA2 HB7 HE2 HD HD6 HB6 HM5 HB5 HE3 HB3 HP2 HB2 HT1 hT1 b1 b2 b3 b4 b5 b6 hx7 HB4
  refine hopn.mono ?_
  rintro e y ⟨rfl, hp9, k9⟩
  obtain ⟨o9, g9, X9, K9⟩ := HP8.out.setBf k9 hp9 (Nat.le_refl _)
  have HF : Hid (∃ (o : Nat → Nat) (a : Ad), (⟨a.l, 0, none⟩ : Addr) = ⟨x5.heap.size + 3, 0, none⟩ ∧ Hp y o a c (hs0 c d) 0 ∧ a.vt = vt ∧ (∀ x, o x ≠ 0 → (w.heap.size ≤ x ∨ InD vt x) ∧ o x ≤ 9) ∧ Below w.heap.size w y) := by
    refine ⟨o9, _, rfl, g9, rfl, fun x e => ?_, ?_⟩
    · by_cases hx : x < x8.heap.size
      · rw [X9.old x hx] at e ⊢
        exact ⟨HAL.out x e, HNI.out x⟩
      · exact ⟨.inl (by have := HKW.out.size; omega), X9.new x (by omega)⟩
    · refine HKW.out.trans (k9.below HKW.out.size (fun x e => ?_))
      rcases HAL.out x (by omega) with h | h
      · exact h
      · have h6 := HP8.out.ov x h
        omega
  clear HP8 HAL HNI HKW hp9 k9 g9 X9 K9 hopn hpp
  go_wp2
  go_ret2
  obtain ⟨o', a', e1, r⟩ := HF.out
  refine ⟨o', a', ?_, r⟩
  rw [e1]
  rfl
end Go.Proofs.YtfghfbmmaclcnaaGreat
