/- Parts of the proof: Uy. -/
import Derived.Test.YtfghfbmmaclcnaaGreatJ30
import Derived.Deep.RegionHeld3
namespace Go.Proofs.YtfghfbmmaclcnaaGreat
set_option maxRecDepth 20000
open Go.RowKit Go.Maps
theorem results_tmp4 {fn : Func} {t u v z : Tmp} (h : fn.results = #[.tmp t, .tmp u, .tmp v, .tmp z]) (tmps : Array Value) (P : Program) (w : World) :
    (results fn tmps).run P w = .ok (.tuple #[tmps.getD t undef, tmps.getD u undef, tmps.getD v undef, tmps.getD z undef]) w := by
  simp [results, h]
theorem rtnew_any (bs sp : Int) (w : World) : Calls Tryz.prog 102 #[.int .i64 bs, .int .i64 sp] w fun e w' => ∃ p, e = .returned (.tuple #[.pointer p, .int .i64 (if (5 ≤ bs ∧ bs ≤ 9) ∧ 1 ≤ sp ∧ sp ≤ 64 then 0 else 1)]) ∧ Below w.heap.size w w' := by
  by_cases h : (5 ≤ bs ∧ bs ≤ 9) ∧ 1 ≤ sp ∧ sp ≤ 64
  · rw [if_pos h]
    have := rNew_yes bs sp.toNat h.1 ⟨by omega, by omega⟩ w
    rw [show ((sp.toNat : Nat) : Int) = sp by omega] at this
    refine this.mono ?_
    rintro e w' ⟨rfl, -, hb⟩
    exact ⟨_, rfl, hb⟩
  · rw [if_neg h]
    refine (rNew_no bs sp h w).mono ?_
    rintro e w' ⟨rfl, hb⟩
    exact ⟨_, rfl, hb⟩
theorem rpnew_any (bs n : Int) (w : World) : Calls Tryz.prog 103 #[.int .i64 bs, .int .i64 n] w fun e w' => ∃ p, e = .returned (.tuple #[.pointer p, .int .i64 (if (5 ≤ bs ∧ bs ≤ 9) ∧ 2 ≤ n ∧ n ≤ 8 then 0 else 1)]) ∧ Below w.heap.size w w' := by
  by_cases h : (5 ≤ bs ∧ bs ≤ 9) ∧ 2 ≤ n ∧ n ≤ 8
  · rw [if_pos h]
    have := rb_new_yes bs n.toNat h.1 ⟨by omega, by omega⟩ (fun _ _ => 0) w
    rw [show ((n.toNat : Nat) : Int) = n by omega] at this
    refine this.mono ?_
    rintro e w' ⟨rfl, -, -, hb⟩
    exact ⟨_, rfl, hb⟩
  · rw [if_neg h]
    refine (rb_new_no bs n (by omega) w).mono ?_
    rintro e w' ⟨rfl, rfl⟩
    exact ⟨_, rfl, Below.refl _ _⟩
theorem renew_any (n : Int) (w : World) : Calls Tryz.prog 104 #[.int .i64 n] w fun e w' => ∃ p, e = .returned (.tuple #[.pointer p, .int .i64 (if 1 ≤ n ∧ n ≤ 8 then 0 else 1)]) ∧ Below w.heap.size w w' := by
  by_cases h : 1 ≤ n ∧ n ≤ 8
  · rw [if_pos h]
    have := rnew_yes n.toNat (by omega) (by omega) w
    rw [show ((n.toNat : Nat) : Int) = n by omega] at this
    refine this.mono ?_
    rintro e w' ⟨m, b, rfl, -, -, -, hb⟩
    exact ⟨_, rfl, hb⟩
  · rw [if_neg h]
    refine (rnew_no n (by omega) w).mono ?_
    rintro e w' ⟨rfl, rfl⟩
    exact ⟨_, rfl, Below.refl _ _⟩
set_option maxHeartbeats 1000000 in
theorem rl_new_no (w : World) (c0 c1 c2 c3 c4 c5 : Int) (d : Nat) (hc : ¬ cfgB c0 c1 c2 c5) :
    Calls Tryz.prog 40 #[.agg #[.int .i64 c0, .int .i64 c1, .int .i64 c2, .int .i64 c3, .int .i64 c4, .int .i64 c5], .pointer (some ⟨d, 0, none⟩)] w fun e w' => e = .returned (.tuple #[.pointer none, .int .i64 1]) ∧ Below w.heap.size w w' := by
  have HT := hide (fun x => rtnew_any c0 c2 x)
  have HP := hide (fun x => rpnew_any c0 c1 x)
  have HE := hide (fun x => renew_any c5 x)
  obtain ⟨te, hte⟩ : ∃ te : Int, (if (5 ≤ c0 ∧ c0 ≤ 9) ∧ 1 ≤ c2 ∧ c2 ≤ 64 then (0 : Int) else 1) = te := ⟨_, rfl⟩
  obtain ⟨pe, hpe⟩ : ∃ pe : Int, (if (5 ≤ c0 ∧ c0 ≤ 9) ∧ 2 ≤ c1 ∧ c1 ≤ 8 then (0 : Int) else 1) = pe := ⟨_, rfl⟩
  obtain ⟨ee, hee⟩ : ∃ ee : Int, (if 1 ≤ c5 ∧ c5 ≤ 8 then (0 : Int) else 1) = ee := ⟨_, rfl⟩
  have HO : (te != 0) = true ∨ (te = 0 ∧ (pe != 0) = true) ∨ (te = 0 ∧ pe = 0 ∧ (ee != 0) = true) := by
    unfold cfgB at hc
    rw [← hte, ← hpe, ← hee]
    by_cases h1 : (5 ≤ c0 ∧ c0 ≤ 9) ∧ 1 ≤ c2 ∧ c2 ≤ 64
    · rw [if_pos h1]
      by_cases h2 : (5 ≤ c0 ∧ c0 ≤ 9) ∧ 2 ≤ c1 ∧ c1 ≤ 8
      · rw [if_pos h2]
        rw [if_neg (by omega)]
        exact .inr (.inr ⟨rfl, rfl, by decide⟩)
      · rw [if_neg h2]; exact .inr (.inl ⟨rfl, by decide⟩)
    · rw [if_neg h1]; exact .inl (by decide)
  rw [hte] at HT
  rw [hpe] at HP
  rw [hee] at HE
  clear hte hpe hee hc
  rcases HO with h0 | ⟨rfl, h0⟩ | ⟨rfl, rfl, h0⟩
  all_goals
    go_enter Tryz.func40, Tryz.ntmps40
    have hbz := (Below.refl w.heap.size w).alloc (Nat.le_refl _) (.cells #[.int .i64 c0, .int .i64 c1, .int .i64 c2, .int .i64 c3, .int .i64 c4, .int .i64 c5] 23)
    have z0 : (w.alloc (.cells #[.int .i64 c0, .int .i64 c1, .int .i64 c2, .int .i64 c3, .int .i64 c4, .int .i64 c5] 23)).cell? ⟨w.heap.size, 0, none⟩ = some (.int .i64 c0) := by simp
    have z1 : (w.alloc (.cells #[.int .i64 c0, .int .i64 c1, .int .i64 c2, .int .i64 c3, .int .i64 c4, .int .i64 c5] 23)).cell? ⟨w.heap.size, 1, none⟩ = some (.int .i64 c1) := by simp
    have z5 : (w.alloc (.cells #[.int .i64 c0, .int .i64 c1, .int .i64 c2, .int .i64 c3, .int .i64 c4, .int .i64 c5] 23)).cell? ⟨w.heap.size, 5, none⟩ = some (.int .i64 c5) := by simp
    have HZ := hide (And.intro z0 (And.intro z1 z5))
    clear z0 z1 z5
    go_wp2_with fail
    generalize w.alloc (.cells #[.int .i64 c0, .int .i64 c1, .int .i64 c2, .int .i64 c3, .int .i64 c4, .int .i64 c5] 23) = z at *
    refine (HT.out _).mono ?_
    rintro e x1 ⟨p1, rfl, b1⟩
    have y0 := (b1.cell (World.block_lt_of_cell? z _ HZ.out.1)).trans HZ.out.1
    have y1 := (b1.cell (World.block_lt_of_cell? z _ HZ.out.2.1)).trans HZ.out.2.1
    have y5 := (b1.cell (World.block_lt_of_cell? z _ HZ.out.2.2)).trans HZ.out.2.2
    have hb1 := hbz.trans (b1.mono hbz.size)
    go_wp2_with fail
    refine (HP.out _).mono ?_
    rintro e x2 ⟨p2, rfl, b2⟩
    have u5 := (b2.cell (World.block_lt_of_cell? x1 _ y5)).trans y5
    have hb2 := hb1.trans (b2.mono hb1.size)
    clear y0 y1 y5 b1 hb1 hbz b2
    go_wp2_with fail
    refine (HE.out _).mono ?_
    rintro e x3 ⟨p3, rfl, b3⟩
    have hb3 := hb2.trans (b3.mono hb2.size)
    have HB3 := hide hb3
    clear u5 b3 hb2 hb3 HT HP HE HZ
    go_wp2
    go_ret2
    exact ⟨rfl, HB3.out⟩
section
variable {w : World} {o o' : Nat → Nat} {a : Ad} {b : Rd} {c : Cf} {s : Hs} {f g : Int → Option Int} {k : Nat}
/-- Another owner function that gives the program's the same. -/
theorem Hg.own (h : Hg w o a c s f g k) (e : ∀ j, 1 ≤ j → j ≤ 9 → ∀ x, o' x = j ↔ o x = j) (hz : ∀ x, o' x ≠ 0 → x < w.heap.size) : Hg w o' a c s f g k := by
  have q : ∀ j, 1 ≤ j → j ≤ 9 → ∀ x, o x = j → o' x = j := fun j h1 h2 x hx => (e j h1 h2 x).2 hx
  have e2 : (fun x => o' x = 2) = fun x => o x = 2 := funext fun x => propext (e 2 (by omega) (by omega) x)
  have e5 : (fun x => o' x = 5) = fun x => o x = 5 := funext fun x => propext (e 5 (by omega) (by omega) x)
  exact ⟨h.c0, h.c1, h.c2, h.c3, h.c4, h.c5, h.c6, h.c7, q 9 (by omega) (by omega) _ h.ol, h.tl, ⟨q 1 (by omega) (by omega) _ h.ot.1, q 1 (by omega) (by omega) _ h.ot.2.1, q 1 (by omega) (by omega) _ h.ot.2.2⟩, by rw [e2]; exact h.pb, h.mm,
    ⟨q 3 (by omega) (by omega) _ h.om.1, q 3 (by omega) (by omega) _ h.om.2.1, q 3 (by omega) (by omega) _ h.om.2.2⟩, h.ep, fun x h1 h2 => q 4 (by omega) (by omega) _ (h.oe x h1 h2), by rw [e5]; exact h.du, h.dv, fun x hx => q 6 (by omega) (by omega) _ (h.ov x hx), h.fl, q 7 (by omega) (by omega) _ h.of, h.la, q 8 (by omega) (by omega) _ h.ob, hz⟩
theorem Hr.own (h : Hr w o b c s k) (e : ∀ j, 11 ≤ j → ∀ x, o' x = j ↔ o x = j) (hz : ∀ x, o' x ≠ 0 → x < w.heap.size) : Hr w o' b c s k := by
  have q : ∀ j, 11 ≤ j → ∀ x, o x = j → o' x = j := fun j h1 x hx => (e j h1 x).2 hx
  have e2 : (fun x => o' x = 12) = fun x => o x = 12 := funext fun x => propext (e 12 (by omega) x)
  have e5 : (fun x => o' x = 15) = fun x => o x = 15 := funext fun x => propext (e 15 (by omega) x)
  obtain ⟨vi, vj, d1, d2, d3⟩ := h.dv
  obtain ⟨vf, f1, f2, f3⟩ := h.fl
  exact ⟨h.c0, h.c1, h.c2, h.c3, h.c4, h.c5, h.f6, q 19 (by omega) _ h.ol, h.tl, q 11 (by omega) _ h.ot, by rw [e2]; exact h.pb, h.mm, q 13 (by omega) _ h.om, h.ep, ⟨q 14 (by omega) _ h.oe.1, q 14 (by omega) _ h.oe.2⟩, by rw [e5]; exact h.du,
    ⟨vi, vj, d1, fun z hz => q 16 (by omega) _ (d2 z hz), fun z hz => q 16 (by omega) _ (d3 z hz)⟩, q 16 (by omega) _ h.ov, ⟨vf, f1, f2, fun z hz => q 17 (by omega) _ (f3 z hz)⟩, hz⟩
end
theorem refD_zero (w : World) : RefD (w.alloc (.cells #[.bool false, .slice none 0 0, .slice none 0 0] 83)) w.heap.size dv0 (.slice none 0 0) (.slice none 0 0) :=
  ⟨by simp [dv0], by simp, by simp, by simp, by simp, by simp, World.ownsRow_nil _ _ _ _, World.ownsRow_nil _ _ _ _, fun g e => by simp [Value.ownBlock] at e, good0⟩
set_option maxHeartbeats 2000000 in
theorem begin_yes (w : World) (c : Cf) (hc : CfOk c) (c3 c4 : Int) :
    Calls Tryz.prog 7 #[.agg #[.int .i64 c.b, .int .i64 (c.n : Int), .int .i64 (c.sp : Int), .int .i64 c3, .int .i64 c4, .int .i64 (c.ns : Int)]] w fun e w' => ∃ (o : Nat → Nat) (a : Ad) (b : Rd), e = .returned (.tuple #[.pointer (some ⟨a.l, 0, none⟩), .pointer (some ⟨b.l, 0, none⟩), .int .i64 0, .int .i64 0]) ∧ Bt w' o a b c (hs0 c dv0) 0 ∧ (∀ x, o x ≠ 0 → w.heap.size ≤ x) ∧ Below w.heap.size w w' := by
  have HL := hide (fun x vt hd => hl_new_yes x c hc c3 c4 vt dv0 hd)
  have HR := hide (fun x vm hd => rl_new_yes x c hc c3 c4 vm dv0 hd)
  have hbz := (Below.refl w.heap.size w).alloc (Nat.le_refl _) (.cells #[.int .i64 c.b, .int .i64 (c.n : Int), .int .i64 (c.sp : Int), .int .i64 c3, .int .i64 c4, .int .i64 (c.ns : Int)] 23)
  have zs : w.heap.size < (w.alloc (.cells #[.int .i64 c.b, .int .i64 (c.n : Int), .int .i64 (c.sp : Int), .int .i64 c3, .int .i64 c4, .int .i64 (c.ns : Int)] 23)).heap.size := by simp
  have hcc : ∀ j, (w.alloc (.cells #[.int .i64 c.b, .int .i64 (c.n : Int), .int .i64 (c.sp : Int), .int .i64 c3, .int .i64 c4, .int .i64 (c.ns : Int)] 23)).cell? ⟨w.heap.size, j, none⟩ = (#[.int .i64 c.b, .int .i64 (c.n : Int), .int .i64 (c.sp : Int), .int .i64 c3, .int .i64 c4, .int .i64 (c.ns : Int)] : Array Value)[j]? := fun j => by simp
  generalize hz : w.alloc (.cells #[.int .i64 c.b, .int .i64 (c.n : Int), .int .i64 (c.sp : Int), .int .i64 c3, .int .i64 c4, .int .i64 (c.ns : Int)] 23) = z at *
  have HC : Hid (∀ y, Below z.heap.size z y → y.cell? ⟨w.heap.size, 0, none⟩ = some (.int .i64 c.b) ∧ y.cell? ⟨w.heap.size, 1, none⟩ = some (.int .i64 (c.n : Int)) ∧ y.cell? ⟨w.heap.size, 2, none⟩ = some (.int .i64 (c.sp : Int)) ∧ y.cell? ⟨w.heap.size, 3, none⟩ = some (.int .i64 c3) ∧ y.cell? ⟨w.heap.size, 4, none⟩ = some (.int .i64 c4) ∧ y.cell? ⟨w.heap.size, 5, none⟩ = some (.int .i64 (c.ns : Int))) := fun y b =>
    ⟨by rw [b.cell zs, hcc]; rfl, by rw [b.cell zs, hcc]; rfl, by rw [b.cell zs, hcc]; rfl, by rw [b.cell zs, hcc]; rfl, by rw [b.cell zs, hcc]; rfl, by rw [b.cell zs, hcc]; rfl⟩
  have HBZ := hide hbz
  have hzd := below_drewN (Below.refl z.heap.size z) 1
  have hnew := device_new (z.drewN 1)
  obtain ⟨s0, s1, s2, s3, s4, s5⟩ := HC.out _ (Below.refl _ _)
  have HZD := hide hzd
  have HZS := hide zs
  clear hbz hcc hzd zs
  go_enter Tryz.func7, Tryz.ntmps7
  go_wp2_with fail
  go_region_held3 (fun W => W.cell? ⟨w.heap.size, 0, none⟩ = some (.int .i64 c.b) ∧ W.cell? ⟨w.heap.size, 1, none⟩ = some (.int .i64 (c.n : Int)) ∧ W.cell? ⟨w.heap.size, 2, none⟩ = some (.int .i64 (c.sp : Int)) ∧ W.cell? ⟨w.heap.size, 3, none⟩ = some (.int .i64 c3) ∧ W.cell? ⟨w.heap.size, 4, none⟩ = some (.int .i64 c4) ∧ W.cell? ⟨w.heap.size, 5, none⟩ = some (.int .i64 (c.ns : Int))) (first | assumption | go_keep) (first | (go_at_call 37; refine hnew.mono ?_; rintro e y1 ⟨rfl, z1, hd1, b1⟩; have q1 := HZD.out.trans (b1.mono HZD.out.size); have t1 := HC.out y1 q1) | (go_at_call 25; refine (HL.out y1 _ hd1).mono ?_; rintro e y2 ⟨o1, a1, rfl, hp2, av, ho1, b2⟩; have q2 := q1.trans (b2.mono q1.size); have t2 := HC.out y2 q2))
  all_goals
    obtain ⟨u0, u1, u2, u3, u4, u5⟩ := t2
    go_wp2_with fail
    refine (HR.out _ y2.heap.size (refD_zero y2)).mono ?_
    rintro e y4 ⟨o2, a2, rfl, hr4, ho2, b4⟩
    have hsz1 := hp2.sz
    have hb3 := (Below.refl y2.heap.size y2).alloc (Nat.le_refl _) (.cells #[.bool false, .slice none 0 0, .slice none 0 0] 83)
    have hb4 := hb3.trans (b4.mono hb3.size)
    have hp4 := hp2.below hb4
    have hsz4 := hr4.sz
    have hge1 : ∀ x, o1 x ≠ 0 → w.heap.size ≤ x := fun x e => by
      have h1 := (ho1 x e).1
      have h2 := b1.size
      have h3 := HZS.out
      simp [InD] at h1 h2
      omega
    have hle1 : ∀ x, o1 x ≤ 9 := fun x => by
      by_cases e : o1 x = 0
      · omega
      · exact (ho1 x e).2
    have hge2 : ∀ x, o2 x ≠ 0 → y2.heap.size ≤ x ∧ 11 ≤ o2 x := fun x e => by
      have h1 := ho2 x e
      simp at h1
      omega
    have hs2 := q2.size
    have hs3 := HZS.out
    have HE : Hid (Bt y4 (fun x => if o1 x ≠ 0 then o1 x else o2 x) a1 a2 c (hs0 c dv0) 0 ∧ (∀ x, (if o1 x ≠ 0 then o1 x else o2 x) ≠ 0 → w.heap.size ≤ x) ∧ Below w.heap.size w y4) := by
      refine ⟨⟨hp4.own (fun j j1 j9 x => ?_) (fun x e => ?_), hr4.own (fun j j1 x => ?_) (fun x e => ?_)⟩, fun x e => ?_, ?_⟩
      · by_cases e : o1 x = 0
        · simp only [e, ne_eq, not_true_eq_false, if_false]
          constructor
          · intro e2; have := hge2 x (by omega); omega
          · intro e2; omega
        · simp only [e, ne_eq, not_false_eq_true, if_true]
      · split at e
        · rename_i e1; exact Nat.lt_of_lt_of_le (hsz1 x e1) hb4.size
        · exact hsz4 x e
      · by_cases e : o1 x = 0
        · simp only [e, ne_eq, not_true_eq_false, if_false]
        · simp only [e, ne_eq, not_false_eq_true, if_true]
          have h1 := hle1 x
          have h2 := hsz1 x e
          constructor
          · intro e2; omega
          · intro e2; have := hge2 x (by omega); omega
      · split at e
        · rename_i e1; exact Nat.lt_of_lt_of_le (hsz1 x e1) hb4.size
        · exact hsz4 x e
      · split at e
        · rename_i e1; exact hge1 x e1
        · have := hge2 x e; omega
      · have h1 := HBZ.out.trans (q2.mono HBZ.out.size)
        exact h1.trans (hb4.mono h1.size)
    clear hr4 hp4 hp2 hge1 hge2 hle1 ho1 ho2 HL HR
    go_wp2
    (try simp only [Exit.inBlock, Exit.then])
    refine bodyPost_ret (results_tmp4 rfl _ _ _) rfl ?_
    exact ⟨_, _, _, rfl, HE.out⟩
set_option maxHeartbeats 2000000 in
theorem begin_no (w : World) (c0 c1 c2 c3 c4 c5 : Int) (hc : ¬ cfgB c0 c1 c2 c5) :
    Calls Tryz.prog 7 #[.agg #[.int .i64 c0, .int .i64 c1, .int .i64 c2, .int .i64 c3, .int .i64 c4, .int .i64 c5]] w fun e w' => e = .returned (.tuple #[.pointer none, .pointer none, .int .i64 1, .int .i64 1]) ∧ Below w.heap.size w w' := by
  have HL := hide (fun x d => hl_new_no x c0 c1 c2 c3 c4 c5 d hc)
  have HR := hide (fun x d => rl_new_no x c0 c1 c2 c3 c4 c5 d hc)
  have hbz := (Below.refl w.heap.size w).alloc (Nat.le_refl _) (.cells #[.int .i64 c0, .int .i64 c1, .int .i64 c2, .int .i64 c3, .int .i64 c4, .int .i64 c5] 23)
  have zs : w.heap.size < (w.alloc (.cells #[.int .i64 c0, .int .i64 c1, .int .i64 c2, .int .i64 c3, .int .i64 c4, .int .i64 c5] 23)).heap.size := by simp
  have hcc : ∀ j, (w.alloc (.cells #[.int .i64 c0, .int .i64 c1, .int .i64 c2, .int .i64 c3, .int .i64 c4, .int .i64 c5] 23)).cell? ⟨w.heap.size, j, none⟩ = (#[.int .i64 c0, .int .i64 c1, .int .i64 c2, .int .i64 c3, .int .i64 c4, .int .i64 c5] : Array Value)[j]? := fun j => by simp
  generalize hz : w.alloc (.cells #[.int .i64 c0, .int .i64 c1, .int .i64 c2, .int .i64 c3, .int .i64 c4, .int .i64 c5] 23) = z at *
  have HC : Hid (∀ y, Below z.heap.size z y → y.cell? ⟨w.heap.size, 0, none⟩ = some (.int .i64 c0) ∧ y.cell? ⟨w.heap.size, 1, none⟩ = some (.int .i64 c1) ∧ y.cell? ⟨w.heap.size, 2, none⟩ = some (.int .i64 c2) ∧ y.cell? ⟨w.heap.size, 3, none⟩ = some (.int .i64 c3) ∧ y.cell? ⟨w.heap.size, 4, none⟩ = some (.int .i64 c4) ∧ y.cell? ⟨w.heap.size, 5, none⟩ = some (.int .i64 c5)) := fun y b =>
    ⟨by rw [b.cell zs, hcc]; rfl, by rw [b.cell zs, hcc]; rfl, by rw [b.cell zs, hcc]; rfl, by rw [b.cell zs, hcc]; rfl, by rw [b.cell zs, hcc]; rfl, by rw [b.cell zs, hcc]; rfl⟩
  have HBZ := hide hbz
  have hzd := below_drewN (Below.refl z.heap.size z) 1
  have hnew := device_new (z.drewN 1)
  obtain ⟨s0, s1, s2, s3, s4, s5⟩ := HC.out _ (Below.refl _ _)
  have HZD := hide hzd
  clear hbz hcc hzd zs hc
  go_enter Tryz.func7, Tryz.ntmps7
  go_wp2_with fail
  go_region_held3 (fun W => W.cell? ⟨w.heap.size, 0, none⟩ = some (.int .i64 c0) ∧ W.cell? ⟨w.heap.size, 1, none⟩ = some (.int .i64 c1) ∧ W.cell? ⟨w.heap.size, 2, none⟩ = some (.int .i64 c2) ∧ W.cell? ⟨w.heap.size, 3, none⟩ = some (.int .i64 c3) ∧ W.cell? ⟨w.heap.size, 4, none⟩ = some (.int .i64 c4) ∧ W.cell? ⟨w.heap.size, 5, none⟩ = some (.int .i64 c5)) (first | assumption | go_keep) (first | (go_at_call 37; refine hnew.mono ?_; rintro e y1 ⟨rfl, -, -, b1⟩; have q1 := HZD.out.trans (b1.mono HZD.out.size); have t1 := HC.out y1 q1) | (go_at_call 25; refine (HL.out y1 _).mono ?_; rintro e y2 ⟨rfl, b2⟩; have q2 := q1.trans (b2.mono q1.size); have t2 := HC.out y2 q2))
  all_goals
    obtain ⟨u0, u1, u2, u3, u4, u5⟩ := t2
    have hb3 := q2.alloc q2.size (.cells #[.bool false, .slice none 0 0, .slice none 0 0] 83)
    go_wp2_with fail
    refine (HR.out _ _).mono ?_
    rintro e y4 ⟨rfl, b4⟩
    have HE := hide (HBZ.out.trans ((hb3.trans (b4.mono hb3.size)).mono HBZ.out.size))
    clear HL HR hb3 b4
    go_wp2
    (try simp only [Exit.inBlock, Exit.then])
    refine bodyPost_ret (results_tmp4 rfl _ _ _) rfl ?_
    exact ⟨rfl, HE.out⟩
end Go.Proofs.YtfghfbmmaclcnaaGreat
