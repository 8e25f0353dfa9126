/- Parts of the proof: Un Uo. -/
import Derived.Test.YtfghfbmmaclcnaaGreatJ29
namespace Go.Proofs.YtfghfbmmaclcnaaGreat
set_option maxRecDepth 20000
open Go.RowKit
/-- Whose the blocks of a reference's log are, as New makes it. -/
def own9 (vm z x1 x2 x3 x4 : Nat) (x : Nat) : Nat :=
  if x = vm then 16 else if z ≤ x ∧ x < x1 then 11 else if x = x1 then 12 else if x2 ≤ x ∧ x < x3 then 14 else if x3 ≤ x ∧ x < x4 then 12
  else if x = x4 then 13 else if x = x4 + 1 then 15 else if x = x4 + 2 then 19 else 0
theorem own9_is {vm z x1 x2 x3 x4 x : Nat} (hv : vm < z) (h1 : z < x1) (h2 : x2 = x1 + 1) (h3 : x2 ≤ x3) (h4 : x3 ≤ x4) :
    (x = vm → own9 vm z x1 x2 x3 x4 x = 16) ∧ (z ≤ x ∧ x < x1 → own9 vm z x1 x2 x3 x4 x = 11) ∧ (x = x1 → own9 vm z x1 x2 x3 x4 x = 12) ∧ (x2 ≤ x ∧ x < x3 → own9 vm z x1 x2 x3 x4 x = 14) ∧ (x3 ≤ x ∧ x < x4 → own9 vm z x1 x2 x3 x4 x = 12) ∧
    (x = x4 → own9 vm z x1 x2 x3 x4 x = 13) ∧ (x = x4 + 1 → own9 vm z x1 x2 x3 x4 x = 15) ∧ (x = x4 + 2 → own9 vm z x1 x2 x3 x4 x = 19) ∧ (own9 vm z x1 x2 x3 x4 x ≠ 0 → (x = vm ∨ z ≤ x) ∧ x < x4 + 3 ∧ 11 ≤ own9 vm z x1 x2 x3 x4 x) := by
  unfold own9
  refine ⟨fun h => ?_, fun h => ?_, fun h => ?_, fun h => ?_, fun h => ?_, fun h => ?_, fun h => ?_, fun h => ?_, fun h => ?_⟩
  all_goals
    repeat' split at *
    all_goals omega
theorem made_at (x : World) (n i : Nat) (l : List Value × TypeId) {v : Value} (hn : n = x.heap.size) (hv : l.1[i]? = some v) : (x.alloc (.cells l.1.toArray l.2)).cell? ⟨n, i, none⟩ = some v := by
  subst hn
  simp [hv]
theorem made_arr (x : World) (n i : Nat) (l : Array Value) (T : TypeId) {v : Value} (hn : n = x.heap.size) (hv : l[i]? = some v) : (x.alloc (.cells l T)).cell? ⟨n, i, none⟩ = some v := by
  subst hn
  simp [hv]
theorem made_frz (x : World) (n i : Nat) (l : Array Value) (T : TypeId) (hn : n = x.heap.size) : (x.alloc (.cells l T)).frozen? ⟨n, i, none⟩ = false := by
  subst hn
  simp
theorem made_fr (x : World) (n i : Nat) {l : List Value × TypeId} (hn : n = x.heap.size) : (x.alloc (.cells l.1.toArray l.2)).frozen? ⟨n, i, none⟩ = false := by
  subst hn
  simp
set_option maxHeartbeats 2000000 in
theorem rl_new_yes (w : World) (c : Cf) (hc : CfOk c) (c3 c4 : Int) (vm : Nat) (d : Dv) (hd : RefD w vm d (.slice none 0 0) (.slice none 0 0)) :
    Calls Tryz.prog 40 #[.agg #[.int .i64 c.b, .int .i64 (c.n : Int), .int .i64 (c.sp : Int), .int .i64 c3, .int .i64 c4, .int .i64 (c.ns : Int)], .pointer (some ⟨vm, 0, none⟩)] w fun e w' => ∃ (o : Nat → Nat) (a : Rd), e = .returned (.tuple #[.pointer (some ⟨a.l, 0, none⟩), .int .i64 0]) ∧ Hr w' o a c (hs0 c d) 0 ∧ (∀ x, o x ≠ 0 → (w.heap.size ≤ x ∨ x = vm) ∧ 11 ≤ o x) ∧ Below w.heap.size w w' := by
  have HT := hide (fun x => rNew_yes c.b c.sp hc.hb hc.hs x)
  have HP := hide (fun x => rb_new_yes c.b c.n hc.hb hc.hn (fun _ _ => 0) x)
  have HE := hide (fun x => rnew_yes c.ns hc.he.1 hc.he.2 x)
  have HD := hide hd
  have hvl := hd.lt
  clear hd
  go_enter Tryz.func40, Tryz.ntmps40
  have hbz := (Below.refl w.heap.size w).alloc (Nat.le_refl _) (.cells #[.int .i64 c.b, .int .i64 (c.n : Int), .int .i64 (c.sp : Int), .int .i64 c3, .int .i64 c4, .int .i64 (c.ns : Int)] 23)
  have z0 : (w.alloc (.cells #[.int .i64 c.b, .int .i64 (c.n : Int), .int .i64 (c.sp : Int), .int .i64 c3, .int .i64 c4, .int .i64 (c.ns : Int)] 23)).cell? ⟨w.heap.size, 0, none⟩ = some (.int .i64 c.b) := by simp
  have z1 : (w.alloc (.cells #[.int .i64 c.b, .int .i64 (c.n : Int), .int .i64 (c.sp : Int), .int .i64 c3, .int .i64 c4, .int .i64 (c.ns : Int)] 23)).cell? ⟨w.heap.size, 1, none⟩ = some (.int .i64 (c.n : Int)) := by simp
  have z5 : (w.alloc (.cells #[.int .i64 c.b, .int .i64 (c.n : Int), .int .i64 (c.sp : Int), .int .i64 c3, .int .i64 c4, .int .i64 (c.ns : Int)] 23)).cell? ⟨w.heap.size, 5, none⟩ = some (.int .i64 (c.ns : Int)) := by simp
  have zs : w.heap.size < (w.alloc (.cells #[.int .i64 c.b, .int .i64 (c.n : Int), .int .i64 (c.sp : Int), .int .i64 c3, .int .i64 c4, .int .i64 (c.ns : Int)] 23)).heap.size := by simp
  have HZ := hide (And.intro z0 (And.intro z1 z5))
  clear z0 z1 z5
  go_wp2_with fail
  generalize w.alloc (.cells #[.int .i64 c.b, .int .i64 (c.n : Int), .int .i64 (c.sp : Int), .int .i64 c3, .int .i64 c4, .int .i64 (c.ns : Int)] 23) = z at *
  refine (HT.out _).mono ?_
  rintro e x1 ⟨rfl, ht1, b1⟩
  have y0 := (b1.cell (World.block_lt_of_cell? z _ HZ.out.1)).trans HZ.out.1
  have y1 := (b1.cell (World.block_lt_of_cell? z _ HZ.out.2.1)).trans HZ.out.2.1
  have y5 := (b1.cell (World.block_lt_of_cell? z _ HZ.out.2.2)).trans HZ.out.2.2
  have hb1 := hbz.trans (b1.mono hbz.size)
  have HT1 := hide ht1
  have HB1 := hide b1
  clear ht1
  go_wp2_with fail
  refine (HP.out _).mono ?_
  rintro e x2 ⟨rfl, hp2, hs2, b2⟩
  have u5 := (b2.cell (World.block_lt_of_cell? x1 _ y5)).trans y5
  have hb2 := hb1.trans (b2.mono hb1.size)
  have HP2 := hide hp2
  have HB2 := hide b2
  have HS2 := hide hs2
  clear y0 y1 y5 hp2 b1 hb1 hbz hs2
  go_wp2_with fail
  refine (HE.out _).mono ?_
  rintro e x3 ⟨em, eb, rfl, he3, lem, leb, b3⟩
  have hb3 := hb2.trans (b3.mono hb2.size)
  have HE3 := hide he3
  have HB3 := hide b3
  have hp3 := HP2.out.below b3
  have hopn := rb_open_yes hp3 (by simp) 0 (by omega) (fun j hj => absurd hj (by simp))
  simp only [Int.natCast_zero] at hopn
  have HP3 := hide hp3
  have HBW3 := hide hb3
  clear u5 he3 b2 hb2 b3 hb3 hp3 HT HP HE HZ
  go_wp2_with fail
  refine hopn.mono ?_
  rintro e x4 ⟨rfl, ⟨lb, vl', hp4, hlb⟩, k4⟩
  have HP4 := hide hp4
  have HK4 := hide k4
  clear hopn hp4 k4
  go_wp2
  have hbl := HP4.out.lt
  generalize hx5 : ((x4.alloc (Obj.cells #[.int .i64 0, .int .i64 0, .int .i64 0, .int .i64 0, .int .i64 0] 167)).alloc (Obj.cells #[.slice none 0 0, .slice none 0 0] 170)).alloc (Obj.cells #[.pointer (some ⟨z.heap.size, 0, none⟩), .pointer (some ⟨x1.heap.size, 0, none⟩), .pointer (some ⟨x4.heap.size, 0, none⟩), .pointer (some ⟨em, 0, none⟩), .pointer (some ⟨x4.heap.size + 1, 0, none⟩), .pointer (some ⟨vm, 0, none⟩), .slice none 0 0] 91) = x5 at *
  have s5 : x5.heap.size = x4.heap.size + 3 := by rw [← hx5]; simp
  have hb5 : Below x4.heap.size x4 x5 := by
    rw [← hx5]
    exact (((Below.refl _ x4).alloc (Nat.le_refl _) _).alloc (by simp) _).alloc (by simp; omega) _
  have m4 : RfIs (x4.alloc (Obj.cells #[.int .i64 0, .int .i64 0, .int .i64 0, .int .i64 0, .int .i64 0] 167)) x4.heap.size (fun _ => 0) := by
    refine ⟨fun i hi => ?_, fun i hi => ?_⟩
    all_goals
      rcases i with _ | _ | _ | _ | _ | i
      all_goals first
        | (simp; done)
        | omega
  have m5 : RfIs x5 x4.heap.size (fun _ => 0) := by
    rw [← hx5]
    exact m4.below (((Below.refl _ _).alloc (Nat.le_refl _) _).alloc (by simp) _)
  have l0 : ∀ i v, #[Value.pointer (some ⟨z.heap.size, 0, none⟩), .pointer (some ⟨x1.heap.size, 0, none⟩), .pointer (some ⟨x4.heap.size, 0, none⟩), .pointer (some ⟨em, 0, none⟩), .pointer (some ⟨x4.heap.size + 1, 0, none⟩), .pointer (some ⟨vm, 0, none⟩), .slice none 0 0][i]? = some v → x5.cell? ⟨x4.heap.size + 2, i, none⟩ = some v := fun i v hv => by
    rw [← hx5]
    exact made_arr _ _ _ _ _ (by simp) hv
  have lf : x5.frozen? ⟨x4.heap.size + 2, 6, none⟩ = false := by
    rw [← hx5]
    exact made_frz _ _ _ _ _ (by simp)
  have d4 : RefW ((x4.alloc (Obj.cells #[.int .i64 0, .int .i64 0, .int .i64 0, .int .i64 0, .int .i64 0] 167)).alloc (Obj.cells #[.slice none 0 0, .slice none 0 0] 170)) (fun x => x = x4.heap.size + 1) (x4.heap.size + 1) [] 0 :=
    ⟨0, fun _ => default, fun _ => false, .slice none 0 0, .slice none 0 0, Nat.le_refl _, ⟨made_at _ _ _ ([.slice none 0 0, .slice none 0 0], 170) (by simp) rfl, made_fr _ _ _ (l := ([.slice none 0 0, .slice none 0 0], 170)) (by simp), made_at _ _ _ ([.slice none 0 0, .slice none 0 0], 170) (by simp) rfl, made_fr _ _ _ (l := ([.slice none 0 0, .slice none 0 0], 170)) (by simp), rfl, Own3.nil _, World.ownsRow_nil _ _ _ _, fun k e => by simp [Value.ownBlock] at e, fun k e => by simp [Value.ownBlock] at e, fun k e => by simp [Value.ownBlock] at e⟩, rfl⟩
  have d5 : RefW x5 (fun x => x = x4.heap.size + 1) (x4.heap.size + 1) [] 0 := by
    rw [← hx5]
    exact d4.below ((Below.refl _ _).alloc (Nat.le_refl _) _)
  have g1 := HT1.out.lt
  have g2 := HS2.out
  have g3 := HB3.out.size
  have g4 := HK4.out.size
  have g0 := HB1.out.size
  have k4w : Below w.heap.size x3 x4 := HK4.out.below (by omega) (fun k e => by omega)
  have kw5 : Below w.heap.size w x5 := (HBW3.out.trans k4w).trans (hb5.mono (by omega))
  have k15 : Below x1.heap.size x1 x5 := (HB2.out.trans (HB3.out.mono (by omega))).trans ((HK4.out.below (B := x1.heap.size) (by omega) (fun k e => by omega)).trans (hb5.mono (by omega)))
  have OW := fun x => own9_is (vm := vm) (z := z.heap.size) (x1 := x1.heap.size) (x2 := x2.heap.size) (x3 := x3.heap.size) (x4 := x4.heap.size) (x := x) (by omega) g1 g2 g3 g4
  have te := HE3.out
  have lm3 : em < x3.heap.size := World.block_lt_of_cell? x3 _ te.c0
  have lb3 : eb < x3.heap.size := World.block_lt_of_cell? x3 _ (te.cs 0 (by have := hc.he; omega))
  have e4 : RefAt x4 em eb c.ns 1 (fun _ => 0) := te.keep HK4.out (by omega) (by omega)
  have hlk : Lk c.n (sizeN c.b) (updF (fun _ => none) (0 % c.n) (some (0, fun _ => 0))) (insL (0, lb) []) (fun b j => if b = lb then 0 else (fun _ _ => (0 : Int)) b j) := (Lk.empty (by have := hc.hn; omega) (fun _ _ => 0)).opens rfl (fun x hx => by simp at hx)
  have hr : Hr x5 (own9 vm z.heap.size x1.heap.size x2.heap.size x3.heap.size x4.heap.size) ⟨x4.heap.size + 2, z.heap.size, x1.heap.size, x4.heap.size, em, eb, x4.heap.size + 1, vm⟩ c (hs0 c d) 0 :=
    ⟨l0 0 _ rfl, l0 1 _ rfl, l0 2 _ rfl, l0 3 _ rfl, l0 4 _ rfl, l0 5 _ rfl, lf, (OW _).2.2.2.2.2.2.2.1 rfl, HT1.out.below k15, (OW _).2.1 ⟨Nat.le_refl _, g1⟩,
      ⟨_, _, _, (HP4.out.below hb5).wider (fun x e => by
        rcases e with e | ⟨e1, e2⟩
        · exact (OW x).2.2.1 e
        · exact (OW x).2.2.2.2.1 ⟨e1, e2⟩), hlk⟩,
      m5, (OW _).2.2.2.2.2.1 rfl, e4.below hb5, ⟨(OW _).2.2.2.1 ⟨lem, lm3⟩, (OW _).2.2.2.1 ⟨leb, lb3⟩⟩, d5.wider (fun x e => (OW x).2.2.2.2.2.2.1 e),
      ⟨_, _, HD.out.below kw5, fun q e => by simp [Value.ownBlock] at e, fun q e => by simp [Value.ownBlock] at e⟩, (OW _).1 rfl,
      ⟨_, l0 6 _ rfl, World.ownsRow_nil _ _ _ _, fun q e => by simp [Value.ownBlock] at e⟩, fun x e => by have := ((OW x).2.2.2.2.2.2.2.2 e).2.1; omega⟩
  have HF : Hid (∃ (o : Nat → Nat) (a : Rd), (⟨a.l, 0, none⟩ : Addr) = ⟨x4.heap.size + 1 + 1, 0, none⟩ ∧ Hr x5 o a c (hs0 c d) 0 ∧ (∀ x, o x ≠ 0 → (w.heap.size ≤ x ∨ x = vm) ∧ 11 ≤ o x) ∧ Below w.heap.size w x5) :=
    ⟨_, _, rfl, hr, fun x e => ⟨by rcases ((OW x).2.2.2.2.2.2.2.2 e).1 with q | q; exact .inr q; exact .inl (by omega), ((OW x).2.2.2.2.2.2.2.2 e).2.2⟩, kw5⟩
  clear hr hlk e4 OW te k15 kw5 k4w d4 d5 lf l0 m4 m5 hb5 s5 hx5 HP4 HK4 HT1 HB1 HB2 HB3 HP2 HP3 HE3 HD HS2 HBW3
  go_ret2
  obtain ⟨o', a', e1, r⟩ := HF.out
  refine ⟨o', a', ?_, r⟩
  rw [e1]
  rfl
end Go.Proofs.YtfghfbmmaclcnaaGreat
namespace Go.Proofs.YtfghfbmmaclcnaaGreat
set_option maxRecDepth 20000
open Go.RowKit
/-- Both tell the same. -/
structure Bt (w : World) (o : Nat → Nat) (a : Ad) (b : Rd) (c : Cf) (s : Hs) (k : Nat) : Prop where
  p : Hp w o a c s k
  r : Hr w o b c s k
/-- The program is one call ahead. -/
structure Bf (w : World) (o : Nat → Nat) (a : Ad) (b : Rd) (c : Cf) (s : Hs) (k : Nat) (s' : Hs) (k' : Nat) : Prop where
  p : Hp w o a c s' k'
  r : Hr w o b c s k
/-- Whoever's blocks they are. -/
def OwX (o : Nat → Nat) : Nat → Prop := fun x => o x ≠ 0
/-- Behind a call on both. -/
def Bq (w : World) (o : Nat → Nat) (a : Ad) (b : Rd) (c : Cf) (s : Hs) (k : Nat) (w' : World) : Prop := ∃ o', Bt w' o' a b c s k ∧ (∀ x, x < w.heap.size → o' x = o x) ∧ Keeps (OwX o) w w'
section
variable {w w' : World} {o : Nat → Nat} {a : Ad} {b : Rd} {c : Cf} {s s' : Hs} {k k' : Nat}
theorem Bt.below (h : Bt w o a b c s k) (hb : Below w.heap.size w w') : Bt w' o a b c s k := ⟨h.p.below hb, h.r.below hb⟩
theorem Bt.here (h : Bt w o a b c s k) : Bq w o a b c s k w := ⟨o, h, fun _ _ => rfl, Keeps.refl _ _⟩
theorem Bf.below (h : Bf w o a b c s k s' k') (hb : Below w.heap.size w w') : Bf w' o a b c s k s' k' := ⟨h.p.below hb, h.r.below hb⟩
/-- The program's call. -/
theorem Bt.first (h : Bt w o a b c s k) (q : Hq w o a c s' k' w') : ∃ o', Bf w' o' a b c s k s' k' ∧ (∀ x, x < w.heap.size → o' x = o x) ∧ Keeps (OwX o) w w' := by
  obtain ⟨o', g, X, K⟩ := q
  refine ⟨o', ⟨g, h.r.keep K (fun x h1 h2 => ?_) X.old g.sz⟩, X.old, K.wider (fun x _ t => ?_)⟩
  · unfold Ow19 at h1; unfold Ow9 at h2; omega
  · unfold Ow9 at t; unfold OwX; omega
/-- The reference's. -/
theorem Bf.second (h : Bf w o a b c s k s' k') (q : Rq19 w o b c s' k' w') : Bq w o a b c s' k' w' := by
  obtain ⟨o', g, X, K⟩ := q
  refine ⟨o', ⟨h.p.keep K (fun x h1 h2 => ?_) X.old g.sz, g⟩, X.old, K.wider (fun x _ t => ?_)⟩
  · unfold Ow9 at h1; unfold Ow19 at h2; omega
  · unfold Ow19 at t; unfold OwX; omega
theorem Bq.behind {o1 : Nat → Nat} {w1 : World} (X : ∀ x, x < w.heap.size → o1 x = o x) (K : Keeps (OwX o) w w1) (q : Bq w1 o1 a b c s k w') : Bq w o a b c s k w' := by
  obtain ⟨o', g, X2, K2⟩ := q
  have hs := K.size
  refine ⟨o', g, fun x hx => by rw [X2 x (by omega), X x hx], K.trans K2 (fun x hx t => ?_)⟩
  unfold OwX at *
  rw [X x hx] at t; exact t
theorem Bq.below (q : Bq w o a b c s k w') {w'' : World} (hb : Below w'.heap.size w' w'') : Bq w o a b c s k w'' := by
  obtain ⟨o', g, X, K⟩ := q
  exact ⟨o', g.below hb, X, K.trans (Below.keeps (S := OwX o) hb) (fun _ _ e => e)⟩
end
end Go.Proofs.YtfghfbmmaclcnaaGreat
