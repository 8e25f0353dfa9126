/- Parts of the proof: Up Uq Ur Us Ut Uu Uv Uw. -/
import Derived.Test.YtfghfbmmaclcnaaGreatJ30
import Derived.Deep.Slices
import Derived.Deep.RegionHeld3
import Derived.ChangeArms
import Derived.ChangeSame
import Derived.ProofKit
namespace Go.Proofs.YtfghfbmmaclcnaaGreat
set_option maxRecDepth 20000
open Go.ChangeShapes Go.WideShapes Go.ChangeAt Go.RowKit
structure Al where
  kd : Int
  n : Int
  a : Int
  w : Int
instance : Inhabited Al := ⟨⟨0, 0, 0, 0⟩⟩
def Al.cells (x : Al) : List Value := [.int .i64 x.kd, .int .i64 x.n, .int .u64 x.a, .int .u64 x.w]
structure AlOk (x : Al) : Prop where
  kd : -9223372036854775808 ≤ x.kd ∧ x.kd ≤ 9223372036854775807
  n : -9223372036854775808 ≤ x.n ∧ x.n ≤ 9223372036854775807
  a : 0 ≤ x.a ∧ x.a ≤ 18446744073709551615
  w : 0 ≤ x.w ∧ x.w ≤ 18446744073709551615
theorem Alcells_3 : Tryz.prog.cellsOf 3 = 1 := by kernel_rfl
theorem Alcells_32 : Tryz.prog.cellsOf 32 = 1 := by kernel_rfl
theorem Alcells : Tryz.prog.cellsOf 34 = 4 := by kernel_rfl
theorem Allist {α : Type} {l : List α} (h : l.length = 4) : ∃ c0 c1 c2 c3, l = [c0, c1, c2, c3] := by
  match l, h with
  | [c0, c1, c2, c3], _ => exact ⟨c0, c1, c2, c3, rfl⟩
theorem Al_of_trod {H : Type} {enc : TypeId × Value → H} {W : World} {base : Nat} {sp : Nat → Bool} {held : Bool} {fuel : Nat} {cs : List Value} {x : DataW H × List MemPlace}
    (h : DataW.trod enc Tryz.prog W base sp held fuel 34 cs = some x) (hl : cs.length = 4) : ∃ a : Al, AlOk a ∧ cs = a.cells := by
  obtain ⟨c0, c1, c2, c3, rfl⟩ := Allist hl
  obtain ⟨xs, m, _, hx, _, hlen, hfs⟩ := DataW.trod_struct Tryz.underlying34 h
  obtain ⟨y0, y1, y2, y3, rfl⟩ := Allist (l := xs) hlen
  have f0 := hfs 0 _ rfl
  have f1 := hfs 1 _ rfl
  have f2 := hfs 2 _ rfl
  have f3 := hfs 3 _ rfl
  simp [Alcells_3] at f0
  simp [Alcells_3] at f1
  simp [Alcells_32] at f2
  simp [Alcells_32] at f3
  obtain ⟨v0, e0, _, w0⟩ := DataW.trod_int Tryz.underlying3 f0
  obtain ⟨v1, e1, _, w1⟩ := DataW.trod_int Tryz.underlying3 f1
  obtain ⟨v2, e2, _, w2⟩ := DataW.trod_int Tryz.underlying32 f2
  obtain ⟨v3, e3, _, w3⟩ := DataW.trod_int Tryz.underlying32 f3
  cases e0; cases e1; cases e2; cases e3
  exact ⟨⟨v0, v1, v2, v3⟩, ⟨bounds_i64 w0, bounds_i64 w1, bounds_u64 w2, bounds_u64 w3⟩, rfl⟩
/-- A call as an argument. -/
def IsAl (_ : World) (v : Value) : Prop := ∃ x : Al, AlOk x ∧ v = .agg #[.int .i64 x.kd, .int .i64 x.n, .int .u64 x.a, .int .u64 x.w]
set_option maxRecDepth 100000 in
theorem open_Al {H : Type} {enc : TypeId × Value → H} {W : World} {base : Nat} {v : Value} {d : DataW H} {p : List MemPlace} (hv : Value.okWide Tryz.prog W .any base 34 v)
    (h : DataW.Trod enc Tryz.prog W 0 (fun _ => true) true 34 v d p) : IsAl W v := by
  obtain ⟨cs, rfl, hsz⟩ := okWide_struct Tryz.underlying34 hv
  rw [Alcells] at hsz
  obtain ⟨l⟩ := cs
  obtain ⟨fuel, hf⟩ := h
  obtain ⟨x, hx, e⟩ := Al_of_trod (cs := l) (by simpa [Value.cells] using hf) (by simpa using hsz)
  exact ⟨x, hx, by rw [e]; rfl⟩
/-- A call in memory. -/
structure AlAt (w : World) (b off : Nat) (x : Al) : Prop where
  c0 : w.cell? ⟨b, off, none⟩ = some (.int .i64 x.kd)
  c1 : w.cell? ⟨b, off + 1, none⟩ = some (.int .i64 x.n)
  c2 : w.cell? ⟨b, off + 2, none⟩ = some (.int .u64 x.a)
  c3 : w.cell? ⟨b, off + 3, none⟩ = some (.int .u64 x.w)
theorem AlAt.lt {w : World} {b off : Nat} {x : Al} (h : AlAt w b off x) : b < w.heap.size := World.block_lt_of_cell? w _ h.c0
theorem AlAt.below {w w' : World} {b off : Nat} {x : Al} (h : AlAt w b off x) (hb : Below w.heap.size w w') : AlAt w' b off x :=
  ⟨by rw [hb.cell h.lt]; exact h.c0, by rw [hb.cell h.lt]; exact h.c1, by rw [hb.cell h.lt]; exact h.c2, by rw [hb.cell h.lt]; exact h.c3⟩
theorem AlAt.under {w w' : World} {b off B : Nat} {x : Al} (h : AlAt w b off x) (hb : Below B w w') (hB : b < B) : AlAt w' b off x :=
  ⟨by rw [hb.cell hB]; exact h.c0, by rw [hb.cell hB]; exact h.c1, by rw [hb.cell hB]; exact h.c2, by rw [hb.cell hB]; exact h.c3⟩
/-- A slice of calls that is read. -/
def Als (w : World) (ao : Option Addr) (n : Nat) (z : Nat → Al) : Prop := ∀ j, j < n → AlOk (z j) ∧ ∃ b off, ao = some ⟨b, off, none⟩ ∧ AlAt w b (off + j * 4) (z j)
theorem Als.below {w w' : World} {ao : Option Addr} {n : Nat} {z : Nat → Al} (h : Als w ao n z) (hb : Below w.heap.size w w') : Als w' ao n z := fun j hj => by
  obtain ⟨h0, b, off, h1, h2⟩ := h j hj
  exact ⟨h0, b, off, h1, h2.below hb⟩
def IsAls (w : World) (v : Value) : Prop := ∃ ao len cap z, v = .slice ao len cap ∧ len ≤ 9223372036854775807 ∧ Als w ao len z
set_option maxRecDepth 100000 in
theorem open_Als {H : Type} {enc : TypeId × Value → H} {W : World} {base : Nat} {v : Value} {d : DataW H} {p : List MemPlace} (hv : Value.okWide Tryz.prog W .any base 24 v)
    (h : DataW.Trod enc Tryz.prog W 0 (fun _ => true) true 24 v d p) : IsAls W v := by
  obtain ⟨ao, len, cap, rfl⟩ := okWide_slice Tryz.underlying24 hv
  obtain ⟨fuel, hf⟩ := h
  rcases Go.Deep.open_slice Tryz.underlying24 hf with ⟨hcs, _⟩ | ⟨a, l, c, m, n, D, Pl, hcs, _, hl, hm, hmm, _, hc⟩
  · simp [Value.cells] at hcs
    obtain ⟨rfl, rfl, rfl⟩ := hcs
    exact ⟨_, _, _, fun _ => default, rfl, by decide, fun j hj => by omega⟩
  · simp [Value.cells] at hcs
    obtain ⟨rfl, rfl, rfl⟩ := hcs
    simp only [if_true] at hmm
    subst hmm
    rw [Alcells] at hc
    obtain ⟨b, off, spot⟩ := a
    have hone : ∀ i, i < m → ∃ z : Al, AlOk z ∧ W.cell? ((Addr.add ⟨b, off, spot⟩ (i * 4)).add 0) = some (.int .i64 z.kd) ∧ W.cell? ((Addr.add ⟨b, off, spot⟩ (i * 4)).add 1) = some (.int .i64 z.n) ∧ W.cell? ((Addr.add ⟨b, off, spot⟩ (i * 4)).add 2) = some (.int .u64 z.a) ∧ W.cell? ((Addr.add ⟨b, off, spot⟩ (i * 4)).add 3) = some (.int .u64 z.w) := by
      intro i hi
      obtain ⟨cs', h1, h2⟩ := hc i hi
      obtain ⟨_, hlen, hget⟩ := World.cells?_some h1
      obtain ⟨z, hz, rfl⟩ := Al_of_trod h2 hlen
      exact ⟨z, hz, hget 0 (by decide), hget 1 (by decide), hget 2 (by decide), hget 3 (by decide)⟩
    by_cases h0 : len = 0
    · subst h0
      exact ⟨_, _, _, fun _ => default, rfl, by decide, fun j hj => by omega⟩
    · have hspot : spot = none := by
        obtain ⟨z, _, h1, _⟩ := hone 0 (by omega)
        simpa [Addr.add] using World.cell?_spot h1
      subst hspot
      obtain ⟨z, hz⟩ := Go.Deep.choose_lt hone
      refine ⟨_, _, _, z, rfl, by unfold maxLen at hm; omega, fun j hj => ?_⟩
      obtain ⟨k0, k1⟩ := hz j (by omega)
      refine ⟨k0, b, off, rfl, ?_⟩
      simp only [Go.WideShapes.add_plain, Nat.add_zero] at k1
      obtain ⟨a0, a1, a2, a3⟩ := k1
      exact ⟨a0, a1, a2, a3⟩
def alO (x : Al) : Obj := .cells #[.int .i64 x.kd, .int .i64 x.n, .int .u64 x.a, .int .u64 x.w] 34
theorem al_made (w : World) (x : Al) : AlAt (w.alloc (alO x)) w.heap.size 0 x := ⟨by simp [alO], by simp [alO], by simp [alO], by simp [alO]⟩
section
variable {w : World} {o : Nat → Nat} {a : Ad} {b : Rd} {c : Cf} {s : Hs} {k : Nat}
theorem hl_settleP (h : Hp w o a c s k) (hw : Wf c s k) (hk : k ≤ 900) :
    Calls Tryz.prog 33 #[.pointer (some ⟨a.l, 0, none⟩)] w fun e w' => e = .returned (.int .i64 (settleN c s : Int)) ∧ Hq w o a c (settleS c s) k w' := by
  refine (hl_settle h (by omega) hw.len hw.act).mono ?_
  rintro e w' ⟨rfl, hq⟩
  refine ⟨rfl, ?_⟩
  unfold Hq
  rw [settleS_L, settleS_two]
  exact hq
set_option maxHeartbeats 2000000 in
theorem does_turn (h : Bt w o a b c s k) (hw : Wf c s k) (hc : CfOk c) (hk : k ≤ 700) (hnow : 1 ≤ s.now ∧ s.now ≤ 100000) (x : Al) (hx : x.kd = 2) :
    Calls Tryz.prog 8 #[.pointer (some ⟨a.l, 0, none⟩), .pointer (some ⟨b.l, 0, none⟩), .agg #[.int .i64 x.kd, .int .i64 x.n, .int .u64 x.a, .int .u64 x.w]] w fun e w' => e = .returned (.bool true) ∧ Bq w o a b c (turnHS c s) (k + 1) w' := by
  have hb1 := (Below.refl w.heap.size w).alloc (Nat.le_refl _) (alO x)
  have a1 := al_made w x
  have c0 := a1.c0
  simp only [hx] at c0
  have h1 := h.below hb1
  have HP := hide (hl_turn h1.p hw (by omega))
  have HF := hide (fun y o1 (g : Bf y o1 a b c s k (turnHS c s) (k + 1)) => rl_turn g.r hw hc (by omega) hnow)
  have H0 := hide h
  have H1 := hide h1
  obtain ⟨kd, n, av, wv⟩ := x
  simp only at hx
  subst hx
  simp only [alO] at *
  generalize turnHE c s = E at *
  generalize turnHS c s = S at *
  clear h h1 a1 hw hc
  go_enter Tryz.func8, Tryz.ntmps8
  go_wp2_with fail
  refine HP.out.mono ?_
  rintro e y ⟨rfl, hq⟩
  obtain ⟨o1, g1, X1, K1⟩ := H1.out.first hq
  have hf := HF.out y o1 g1
  have HG := hide (fun y2 q => Bq.behind (w := w) (fun x hx => X1 x (by have := hb1.size; omega)) ((Below.keeps (S := OwX o) hb1).trans K1 (fun x hx t => t)) (g1.second (w' := y2) q))
  clear hq g1 X1 K1
  go_wp2_with fail
  refine hf.mono ?_
  rintro e y2 ⟨rfl, hq⟩
  have HE := hide (HG.out y2 hq)
  clear hq hf HG
  go_wp2
  go_ret
  exact ⟨ret_bool (by simp), HE.out⟩
set_option maxHeartbeats 2000000 in
theorem does_close (h : Bt w o a b c s k) (hw : Wf c s k) (hc : CfOk c) (hk : k ≤ 700) (hnow : 1 ≤ s.now ∧ s.now ≤ 100000) (x : Al) (hx : x.kd = 15) :
    Calls Tryz.prog 8 #[.pointer (some ⟨a.l, 0, none⟩), .pointer (some ⟨b.l, 0, none⟩), .agg #[.int .i64 x.kd, .int .i64 x.n, .int .u64 x.a, .int .u64 x.w]] w fun e w' => e = .returned (.bool true) ∧ Bq w o a b c (closeHS c s) (k + 1) w' := by
  have hb1 := (Below.refl w.heap.size w).alloc (Nat.le_refl _) (alO x)
  have a1 := al_made w x
  have c0 := a1.c0
  simp only [hx] at c0
  have h1 := h.below hb1
  have HP := hide (hl_close h1.p hw (by omega))
  have HF := hide (fun y o1 (g : Bf y o1 a b c s k (closeHS c s) (k + 1)) => rl_close g.r hw hc (by omega) hnow)
  have H0 := hide h
  have H1 := hide h1
  obtain ⟨kd, n, av, wv⟩ := x
  simp only at hx
  subst hx
  simp only [alO] at *
  generalize closeHE c s = E at *
  generalize closeHS c s = S at *
  clear h h1 a1 hw hc
  go_enter Tryz.func8, Tryz.ntmps8
  go_wp2_with fail
  refine HP.out.mono ?_
  rintro e y ⟨rfl, hq⟩
  obtain ⟨o1, g1, X1, K1⟩ := H1.out.first hq
  have hf := HF.out y o1 g1
  have HG := hide (fun y2 q => Bq.behind (w := w) (fun x hx => X1 x (by have := hb1.size; omega)) ((Below.keeps (S := OwX o) hb1).trans K1 (fun x hx t => t)) (g1.second (w' := y2) q))
  clear hq g1 X1 K1
  go_wp2_with fail
  refine hf.mono ?_
  rintro e y2 ⟨rfl, hq⟩
  have HE := hide (HG.out y2 hq)
  clear hq hf HG
  go_wp2
  go_ret
  exact ⟨ret_bool (by simp), HE.out⟩
set_option maxHeartbeats 2000000 in
theorem does_help (h : Bt w o a b c s k) (hw : Wf c s k) (hc : CfOk c) (hk : k ≤ 700) (hnow : 1 ≤ s.now ∧ s.now ≤ 100000) (x : Al) (hx : x.kd = 3) :
    Calls Tryz.prog 8 #[.pointer (some ⟨a.l, 0, none⟩), .pointer (some ⟨b.l, 0, none⟩), .agg #[.int .i64 x.kd, .int .i64 x.n, .int .u64 x.a, .int .u64 x.w]] w fun e w' => e = .returned (.bool true) ∧ Bq w o a b c ((helpR c s).2) (k + 1) w' := by
  have hb1 := (Below.refl w.heap.size w).alloc (Nat.le_refl _) (alO x)
  have a1 := al_made w x
  have c0 := a1.c0
  simp only [hx] at c0
  have h1 := h.below hb1
  have HP := hide (hl_help h1.p hw (by omega))
  have HF := hide (fun y o1 (g : Bf y o1 a b c s k ((helpR c s).2) (k + 1)) => rl_help g.r hw hc (by omega) hnow)
  have H0 := hide h
  have H1 := hide h1
  obtain ⟨kd, n, av, wv⟩ := x
  simp only at hx
  subst hx
  simp only [alO] at *
  generalize (helpR c s).1 = E at *
  generalize (helpR c s).2 = S at *
  clear h h1 a1 hw hc
  go_enter Tryz.func8, Tryz.ntmps8
  go_wp2_with fail
  refine HP.out.mono ?_
  rintro e y ⟨rfl, hq⟩
  obtain ⟨o1, g1, X1, K1⟩ := H1.out.first hq
  have hf := HF.out y o1 g1
  have HG := hide (fun y2 q => Bq.behind (w := w) (fun x hx => X1 x (by have := hb1.size; omega)) ((Below.keeps (S := OwX o) hb1).trans K1 (fun x hx t => t)) (g1.second (w' := y2) q))
  clear hq g1 X1 K1
  go_wp2_with fail
  refine hf.mono ?_
  rintro e y2 ⟨rfl, hq⟩
  have HE := hide (HG.out y2 hq)
  clear hq hf HG
  go_wp2
  go_ret
  exact ⟨ret_bool (by simp), HE.out⟩
set_option maxHeartbeats 2000000 in
theorem does_land (h : Bt w o a b c s k) (hw : Wf c s k) (hc : CfOk c) (hk : k ≤ 700) (_hnow : 1 ≤ s.now ∧ s.now ≤ 100000) (x : Al) (hx : x.kd = 7) :
    Calls Tryz.prog 8 #[.pointer (some ⟨a.l, 0, none⟩), .pointer (some ⟨b.l, 0, none⟩), .agg #[.int .i64 x.kd, .int .i64 x.n, .int .u64 x.a, .int .u64 x.w]] w fun e w' => e = .returned (.bool true) ∧ Bq w o a b c (landS s) k w' := by
  have hb1 := (Below.refl w.heap.size w).alloc (Nat.le_refl _) (alO x)
  have a1 := al_made w x
  have c0 := a1.c0
  simp only [hx] at c0
  have h1 := h.below hb1
  have HP := hide (hl_land h1.p hw (by omega))
  have HF := hide (fun y o1 (g : Bf y o1 a b c s k (landS s) k) => rl_land g.r hw (by omega) hc.hs.2)
  have H0 := hide h
  have H1 := hide h1
  obtain ⟨kd, n, av, wv⟩ := x
  simp only at hx
  subst hx
  simp only [alO] at *
  generalize landN s.dv s.L = E at *
  generalize landS s = S at *
  clear h h1 a1 hw hc
  go_enter Tryz.func8, Tryz.ntmps8
  go_wp2_with fail
  refine HP.out.mono ?_
  rintro e y ⟨rfl, hq⟩
  obtain ⟨o1, g1, X1, K1⟩ := H1.out.first hq
  have hf := HF.out y o1 g1
  have HG := hide (fun y2 q => Bq.behind (w := w) (fun x hx => X1 x (by have := hb1.size; omega)) ((Below.keeps (S := OwX o) hb1).trans K1 (fun x hx t => t)) (g1.second (w' := y2) q))
  clear hq g1 X1 K1
  go_wp2_with fail
  refine hf.mono ?_
  rintro e y2 ⟨rfl, hq⟩
  have HE := hide (HG.out y2 hq)
  clear hq hf HG
  go_wp2
  go_ret
  exact ⟨ret_bool (by simp), HE.out⟩
set_option maxHeartbeats 2000000 in
theorem does_settle (h : Bt w o a b c s k) (hw : Wf c s k) (hc : CfOk c) (hk : k ≤ 700) (hnow : 1 ≤ s.now ∧ s.now ≤ 100000) (x : Al) (hx : x.kd = 8) :
    Calls Tryz.prog 8 #[.pointer (some ⟨a.l, 0, none⟩), .pointer (some ⟨b.l, 0, none⟩), .agg #[.int .i64 x.kd, .int .i64 x.n, .int .u64 x.a, .int .u64 x.w]] w fun e w' => e = .returned (.bool true) ∧ Bq w o a b c (settleS c s) k w' := by
  have hb1 := (Below.refl w.heap.size w).alloc (Nat.le_refl _) (alO x)
  have a1 := al_made w x
  have c0 := a1.c0
  simp only [hx] at c0
  have h1 := h.below hb1
  have HP := hide (hl_settleP h1.p hw (by omega))
  have HF := hide (fun y o1 (g : Bf y o1 a b c s k (settleS c s) k) => rl_settle g.r (by omega) hc.he.2 ⟨hnow.1, by omega⟩ hw.len hw.act)
  have H0 := hide h
  have H1 := hide h1
  obtain ⟨kd, n, av, wv⟩ := x
  simp only at hx
  subst hx
  simp only [alO] at *
  generalize settleN c s = E at *
  generalize settleS c s = S at *
  clear h h1 a1 hw hc
  go_enter Tryz.func8, Tryz.ntmps8
  go_wp2_with fail
  refine HP.out.mono ?_
  rintro e y ⟨rfl, hq⟩
  obtain ⟨o1, g1, X1, K1⟩ := H1.out.first hq
  have hf := HF.out y o1 g1
  have HG := hide (fun y2 q => Bq.behind (w := w) (fun x hx => X1 x (by have := hb1.size; omega)) ((Below.keeps (S := OwX o) hb1).trans K1 (fun x hx t => t)) (g1.second (w' := y2) q))
  clear hq g1 X1 K1
  go_wp2_with fail
  refine hf.mono ?_
  rintro e y2 ⟨rfl, hq⟩
  have HE := hide (HG.out y2 hq)
  clear hq hf HG
  go_wp2
  go_ret
  exact ⟨ret_bool (by simp), HE.out⟩
end
end Go.Proofs.YtfghfbmmaclcnaaGreat
namespace Go.Proofs.YtfghfbmmaclcnaaGreat
set_option maxRecDepth 20000
open Go.RowKit
section
variable {w : World} {o : Nat → Nat} {a : Ad} {b : Rd} {c : Cf} {s : Hs} {k : Nat}
set_option maxHeartbeats 2000000 in
theorem does_ro (h : Bt w o a b c s k) (hw : Wf c s k) (hc : CfOk c) (hk : k ≤ 700) (hnow : 1 ≤ s.now ∧ s.now ≤ 100000) (x : Al) (hx : x.kd = 4) (hn : -9223372036854775808 ≤ x.n ∧ x.n ≤ 9223372036854775807) :
    Calls Tryz.prog 8 #[.pointer (some ⟨a.l, 0, none⟩), .pointer (some ⟨b.l, 0, none⟩), .agg #[.int .i64 x.kd, .int .i64 x.n, .int .u64 x.a, .int .u64 x.w]] w fun e w' => e = .returned (.bool true) ∧ Bq w o a b c (shiftS c s 0 1 x.n) (k + 1) w' := by
  have hb0 := (Below.refl w.heap.size w).alloc (Nat.le_refl _) (alO x)
  have hb1 := hb0.trans ((below_drewN (Below.refl _ _) 1).mono hb0.size)
  have a1 := al_made w x
  have c0 := a1.c0
  have c1 := a1.c1
  simp only [hx] at c0
  simp only [Nat.zero_add] at c1
  have h1 := h.below hb1
  obtain ⟨kd, n, av, wv⟩ := x
  simp only at hx hn c1
  subst hx
  have HP := hide (hl_shiftRO h1.p hw (by omega) n hn.2)
  have HF := hide (fun y o1 (g : Bf y o1 a b c s k (shiftS c s 0 1 n) (k + 1)) => rl_shift g.r hw (by omega) hc.he.2 hnow hc.hs.2 0 1 n (.inl ⟨rfl, rfl⟩))
  have H1 := hide h1
  have hwo : ¬ OwX o w.heap.size := fun e => by have := h.p.sz _ e; omega
  have HWO := hide hwo
  have HWS : Hid (w.heap.size < ((w.alloc (alO ⟨4, n, av, wv⟩)).drewN 1).heap.size) := by unfold Hid; simp
  have C1 := hide c1
  simp only [alO] at *
  generalize shiftE s 0 n = E at *
  generalize shiftS c s 0 1 n = S at *
  clear h h1 a1 hw hc hn hwo
  go_enter Tryz.func8, Tryz.ntmps8
  go_wp2
  go_region_held3 (fun W => W.cell? ⟨w.heap.size, 1, none⟩ = some (.int .i64 n)) (first | assumption | go_keep) (first | (go_at_call 30; refine HP.out.mono ?_; rintro e y ⟨rfl, hq⟩; obtain ⟨o1, g1, X1, K1⟩ := H1.out.first hq; have q1 := (K1.cell (p := ⟨w.heap.size, 1, none⟩) HWS.out HWO.out).trans C1.out) | (go_at_call 44; refine (HF.out y o1 g1).mono ?_; rintro e y2 ⟨rfl, hq2⟩; obtain ⟨o2, g2, X2, K2⟩ := hq2; have q2 := (K2.cell (p := ⟨w.heap.size, 1, none⟩) (Nat.lt_of_lt_of_le HWS.out K1.size) (fun e => HWO.out (by unfold OwX; have := X1 w.heap.size HWS.out; unfold Ow19 at e; simp only at e; omega))).trans q1))
  all_goals
    have HE : Hid (Bq w o a b c S (k + 1) y2) := Bq.behind (w := w) (fun x hx => X1 x (by have := HWS.out; simp at this ⊢; omega)) ((Below.keeps (S := OwX o) hb1).trans K1 (fun x hx t => t)) (g1.second (w' := y2) ⟨o2, g2, X2, K2⟩)
    go_wp2
    go_ret
    exact ⟨ret_bool (by simp), HE.out⟩
set_option maxHeartbeats 2000000 in
theorem does_hd (h : Bt w o a b c s k) (hw : Wf c s k) (hc : CfOk c) (hk : k ≤ 700) (hnow : 1 ≤ s.now ∧ s.now ≤ 100000) (x : Al) (hx : x.kd = 5) (hn : -9223372036854775808 ≤ x.n ∧ x.n ≤ 9223372036854775807) :
    Calls Tryz.prog 8 #[.pointer (some ⟨a.l, 0, none⟩), .pointer (some ⟨b.l, 0, none⟩), .agg #[.int .i64 x.kd, .int .i64 x.n, .int .u64 x.a, .int .u64 x.w]] w fun e w' => e = .returned (.bool true) ∧ Bq w o a b c (shiftS c s 3 2 x.n) (k + 1) w' := by
  have hb0 := (Below.refl w.heap.size w).alloc (Nat.le_refl _) (alO x)
  have hb1 := hb0.trans ((below_drewN (Below.refl _ _) 1).mono hb0.size)
  have a1 := al_made w x
  have c0 := a1.c0
  have c1 := a1.c1
  simp only [hx] at c0
  simp only [Nat.zero_add] at c1
  have h1 := h.below hb1
  obtain ⟨kd, n, av, wv⟩ := x
  simp only at hx hn c1
  subst hx
  have HP := hide (hl_shiftHd h1.p hw (by omega) n hn.2)
  have HF := hide (fun y o1 (g : Bf y o1 a b c s k (shiftS c s 3 2 n) (k + 1)) => rl_shift g.r hw (by omega) hc.he.2 hnow hc.hs.2 3 2 n (.inr ⟨rfl, rfl⟩))
  have H1 := hide h1
  have hwo : ¬ OwX o w.heap.size := fun e => by have := h.p.sz _ e; omega
  have HWO := hide hwo
  have HWS : Hid (w.heap.size < ((w.alloc (alO ⟨5, n, av, wv⟩)).drewN 1).heap.size) := by unfold Hid; simp
  have C1 := hide c1
  simp only [alO] at *
  generalize shiftE s 3 n = E at *
  generalize shiftS c s 3 2 n = S at *
  clear h h1 a1 hw hc hn hwo
  go_enter Tryz.func8, Tryz.ntmps8
  go_wp2
  go_region_held3 (fun W => W.cell? ⟨w.heap.size, 1, none⟩ = some (.int .i64 n)) (first | assumption | go_keep) (first | (go_at_call 31; refine HP.out.mono ?_; rintro e y ⟨rfl, hq⟩; obtain ⟨o1, g1, X1, K1⟩ := H1.out.first hq; have q1 := (K1.cell (p := ⟨w.heap.size, 1, none⟩) HWS.out HWO.out).trans C1.out) | (go_at_call 44; refine (HF.out y o1 g1).mono ?_; rintro e y2 ⟨rfl, hq2⟩; obtain ⟨o2, g2, X2, K2⟩ := hq2; have q2 := (K2.cell (p := ⟨w.heap.size, 1, none⟩) (Nat.lt_of_lt_of_le HWS.out K1.size) (fun e => HWO.out (by unfold OwX; have := X1 w.heap.size HWS.out; unfold Ow19 at e; simp only at e; omega))).trans q1))
  all_goals
    have HE : Hid (Bq w o a b c S (k + 1) y2) := Bq.behind (w := w) (fun x hx => X1 x (by have := HWS.out; simp at this ⊢; omega)) ((Below.keeps (S := OwX o) hb1).trans K1 (fun x hx t => t)) (g1.second (w' := y2) ⟨o2, g2, X2, K2⟩)
    go_wp2
    go_ret
    exact ⟨ret_bool (by simp), HE.out⟩
set_option maxHeartbeats 2000000 in
theorem does_flush (h : Bt w o a b c s k) (hw : Wf c s k) (hc : CfOk c) (hk : k ≤ 700) (x : Al) (hx : x.kd = 6) :
    Calls Tryz.prog 8 #[.pointer (some ⟨a.l, 0, none⟩), .pointer (some ⟨b.l, 0, none⟩), .agg #[.int .i64 x.kd, .int .i64 x.n, .int .u64 x.a, .int .u64 x.w]] w fun e w' => e = .returned (.bool true) ∧ Bq w o a b c (flushS c s x.n) (k + 1) w' := by
  have hb1 := (Below.refl w.heap.size w).alloc (Nat.le_refl _) (alO x)
  have a1 := al_made w x
  have c0 := a1.c0
  have c1 := a1.c1
  simp only [hx] at c0
  simp only [Nat.zero_add] at c1
  have h1 := h.below hb1
  obtain ⟨kd, n, av, wv⟩ := x
  simp only at hx c1
  subst hx
  have HP := hide (hl_flush h1.p hw (by omega) n)
  have HF := hide (fun y o1 (g : Bf y o1 a b c s k (flushS c s n) (k + 1)) => rl_flush g.r hw hc (by omega) n)
  have H1 := hide h1
  have hwo : ¬ OwX o w.heap.size := fun e => by have := h.p.sz _ e; omega
  have HWO := hide hwo
  have HWS : Hid (w.heap.size < (w.alloc (alO ⟨6, n, av, wv⟩)).heap.size) := by unfold Hid; simp
  have C1 := hide c1
  simp only [alO] at *
  generalize flushE c s n = E at *
  generalize flushT c s n = TT at *
  generalize flushS c s n = S at *
  clear h h1 a1 hw hc hwo
  go_enter Tryz.func8, Tryz.ntmps8
  go_wp2_with fail
  refine HP.out.mono ?_
  rintro e y ⟨rfl, hq⟩
  obtain ⟨o1, g1, X1, K1⟩ := H1.out.first hq
  have q1 := (K1.cell (p := ⟨w.heap.size, 1, none⟩) HWS.out HWO.out).trans C1.out
  have hf := HF.out y o1 g1
  have HG := hide (fun y2 q => Bq.behind (w := w) (fun x hx => X1 x (by have := hb1.size; omega)) ((Below.keeps (S := OwX o) hb1).trans K1 (fun x hx t => t)) (g1.second (w' := y2) q))
  clear hq g1 X1 K1 HP HF
  go_wp2_with fail
  refine hf.mono ?_
  rintro e y2 ⟨rfl, hq⟩
  have HE := hide (HG.out y2 hq)
  clear hq hf HG
  go_wp2
  go_ret
  exact ⟨ret_bool (by simp), HE.out⟩
end
end Go.Proofs.YtfghfbmmaclcnaaGreat
namespace Go.Proofs.YtfghfbmmaclcnaaGreat
set_option maxRecDepth 20000
open Go.RowKit
section
variable {w : World} {o : Nat → Nat} {a : Ad} {b : Rd} {c : Cf} {s : Hs} {k : Nat}
theorem hl_takeQ (h : Hp w o a c s k) (n : Int) : Calls Tryz.prog 23 #[.pointer (some ⟨a.l, 0, none⟩), .int .i64 n] w fun e w' => e = .returned (.tuple #[.int .u64 (takeA (sizeN c.b) s.P s.O n : Int), .int .i64 (takeK (sizeN c.b) c.sp s.P s.O n : Int), .int .i64 (takeET (sizeN c.b) n)]) ∧ Hq w o a c { s with O := takeO (sizeN c.b) s.O n } k w' := hl_take h n
theorem rl_take (h : Hr w o b c s k) (hw : Wf c s k) (hc : CfOk c) (ho : s.O ≤ 1024) (n : Int) :
    Calls Tryz.prog 41 #[.pointer (some ⟨b.t, 0, none⟩), .int .i64 n] w fun e w' => e = .returned (.tuple #[.int .u64 (takeA (sizeN c.b) s.P s.O n : Int), .int .i64 (takeK (sizeN c.b) c.sp s.P s.O n : Int), .int .i64 (takeET (sizeN c.b) n)]) ∧ Rq19 w o b c { s with O := takeO (sizeN c.b) s.O n } k w' := by
  have hz := sizeN_bounds c.b
  have hp := hw.hp
  have hs := hc.hs
  refine (rTake h.tl (by omega) (by omega) hs.2 ho n).mono ?_
  rintro e w' ⟨rfl, ht, hk⟩
  exact ⟨rfl, h.setTl hk ht⟩
set_option maxHeartbeats 2000000 in
theorem does_take (h : Bt w o a b c s k) (hw : Wf c s k) (hc : CfOk c) (_hk : k ≤ 700) (x : Al) (hx : x.kd = 1) :
    Calls Tryz.prog 8 #[.pointer (some ⟨a.l, 0, none⟩), .pointer (some ⟨b.l, 0, none⟩), .agg #[.int .i64 x.kd, .int .i64 x.n, .int .u64 x.a, .int .u64 x.w]] w fun e w' => e = .returned (.bool true) ∧ Bq w o a b c ({ s with O := takeO (sizeN c.b) s.O x.n }) (k) w' := by
  have hb1 := (Below.refl w.heap.size w).alloc (Nat.le_refl _) (alO x)
  have a1 := al_made w x
  have c0 := a1.c0
  have c1 := a1.c1
  simp only [hx] at c0
  simp only [Nat.zero_add] at c1
  have h1 := h.below hb1
  obtain ⟨kd, n, av, wv⟩ := x
  simp only at hx c1
  subst hx
  have HO : s.O ≤ 1024 := by have := h1.p.hP; omega
  have HP := hide (hl_takeQ h1.p n)
  have HF := hide (fun y o1 (g : Bf y o1 a b c s k ({ s with O := takeO (sizeN c.b) s.O n }) (k)) => rl_take (g.r.drew 1) hw hc HO n)
  have H1 := hide h1
  have hwo : ¬ OwX o w.heap.size := fun e => by have := h.p.sz _ e; omega
  have HWO := hide hwo
  have HWS : Hid (w.heap.size < (w.alloc (alO ⟨1, n, av, wv⟩)).heap.size) := by unfold Hid; simp
  have C1 := hide c1
  simp only [alO] at *
  generalize (takeA (sizeN c.b) s.P s.O n : Int) = TA at *
  generalize (takeK (sizeN c.b) c.sp s.P s.O n : Int) = TK at *
  generalize takeET (sizeN c.b) n = TE at *
  generalize ({ s with O := takeO (sizeN c.b) s.O n } : Hs) = S at *
  clear h h1 a1 hw hc hwo
  go_enter Tryz.func8, Tryz.ntmps8
  go_wp2_with fail
  refine HP.out.mono ?_
  rintro e y ⟨rfl, hq⟩
  obtain ⟨o1, g1, X1, K1⟩ := H1.out.first hq
  have q1 := (K1.cell (p := ⟨w.heap.size, 1, none⟩) HWS.out HWO.out).trans C1.out
  have hf := HF.out y o1 g1
  have z0 := g1.r.c0
  have HG := hide (fun y2 q => Bq.behind (w := w) (fun x hx => X1 x (by have := hb1.size; omega)) ((Below.keeps (S := OwX o) hb1).trans K1 (fun x hx t => t)) (g1.second (w' := y2) (Rq19.after g1.r (below_drewN (Below.refl _ _) 1) q)))
  have HWY : Hid (w.heap.size < (y.drewN 1).heap.size) := by unfold Hid; have h1 := HWS.out; have h2 := K1.size; simp at h1 h2 ⊢; omega
  have HO1 : Hid (o1 w.heap.size = 0) := by
    unfold Hid
    have h1 := X1 w.heap.size HWS.out
    have h2 := HWO.out
    unfold OwX at h2
    omega
  clear hq g1 X1 K1 HP HF
  go_wp2
  go_region_held3 (fun W => W.cell? ⟨b.l, 0, none⟩ = some (.pointer (some ⟨b.t, 0, none⟩)) ∧ W.cell? ⟨w.heap.size, 1, none⟩ = some (.int .i64 n)) (first | assumption | go_keep) (first | (go_at_call 41; refine hf.mono ?_; rintro e y2 ⟨rfl, hq⟩; have HE := hide (HG.out y2 hq); obtain ⟨o2, g2, X2, K2⟩ := hq; have z2 := g2.c0; have q2 : y2.cell? ⟨w.heap.size, 1, none⟩ = some (.int .i64 n) := (K2.cell (p := ⟨w.heap.size, 1, none⟩) HWY.out (fun e => by have := HO1.out; unfold Ow19 at e; simp only at e; omega)).trans q1))
  all_goals
    clear g2 X2 K2 HG hf
    go_wp2
    go_ret
    exact ⟨ret_bool (by simp), HE.out⟩
end
end Go.Proofs.YtfghfbmmaclcnaaGreat
namespace Go.Proofs.YtfghfbmmaclcnaaGreat
set_option maxRecDepth 20000
open Go.RowKit
section
variable {w : World} {o : Nat → Nat} {a : Ad} {b : Rd} {c : Cf} {s : Hs} {k : Nat}
theorem hl_do (h : Hp w o a c s k) (x : Int) (hx : okI x) : Calls Tryz.prog 38 #[.pointer (some ⟨a.vt + 3, 0, none⟩), .int .i64 x] w fun e w' => e = .returned (.int .i64 (doE s.dv x)) ∧ Hq w o a c { s with dv := doD s.dv x } k w' := by
  refine (device_do h.dv x hx).mono ?_
  rintro e w' ⟨rfl, hd, hk⟩
  exact ⟨rfl, h.setDv hk hd⟩
theorem rl_do (h : Hr w o b c s k) (x : Int) (hx : okI x) : Calls Tryz.prog 48 #[.pointer (some ⟨b.v, 0, none⟩), .int .i64 x] w fun e w' => e = .returned (.int .i64 (doE s.dv x)) ∧ Rq19 w o b c { s with dv := doD s.dv x } k w' := by
  obtain ⟨vi, vj, hrd, hvi, hvj⟩ := h.dv
  refine (ref_do' hrd x hx).mono ?_
  rintro e w' ⟨rfl, ⟨vi', hd, hb⟩, hk⟩
  exact ⟨rfl, h.setDv hvi hvj hk hd hb (fun q e => .inl e)⟩
end
end Go.Proofs.YtfghfbmmaclcnaaGreat
namespace Go.Proofs.YtfghfbmmaclcnaaGreat
set_option maxRecDepth 20000
open Go.RowKit
section
variable {w : World} {o : Nat → Nat} {a : Ad} {b : Rd} {c : Cf} {s : Hs} {k : Nat}
set_option maxHeartbeats 2000000 in
theorem does_do (h : Bt w o a b c s k) (x : Al) (hx : x.kd = 9) (hn : okI x.n) :
    Calls Tryz.prog 8 #[.pointer (some ⟨a.l, 0, none⟩), .pointer (some ⟨b.l, 0, none⟩), .agg #[.int .i64 x.kd, .int .i64 x.n, .int .u64 x.a, .int .u64 x.w]] w fun e w' => e = .returned (.bool true) ∧ Bq w o a b c { s with dv := doD s.dv x.n } k w' := by
  have hb0 := (Below.refl w.heap.size w).alloc (Nat.le_refl _) (alO x)
  have hb1 := hb0.trans ((below_drewN (Below.refl _ _) 1).mono hb0.size)
  have a1 := al_made w x
  have c0 := a1.c0
  have c1 := a1.c1
  simp only [hx] at c0
  simp only [Nat.zero_add] at c1
  have h1 := h.below hb1
  obtain ⟨kd, n, av, wv⟩ := x
  simp only at hx hn c1
  subst hx
  have HV := hide (hl_device h1.p)
  have HP := hide (hl_do h1.p n hn)
  have HF := hide (fun y o1 (g : Bf y o1 a b c s k ({ s with dv := doD s.dv n } : Hs) k) => rl_do g.r n hn)
  have H1 := hide h1
  have hwo : ¬ OwX o w.heap.size := fun e => by have := h.p.sz _ e; omega
  have HWO := hide hwo
  have HWS : Hid (w.heap.size < ((w.alloc (alO ⟨9, n, av, wv⟩)).drewN 1).heap.size) := by unfold Hid; simp
  have C1 := hide c1
  have c5 := (h.below hb0).r.c5
  simp only [alO] at *
  generalize doE s.dv n = E at *
  generalize ({ s with dv := doD s.dv n } : Hs) = S at *
  clear h h1 a1 hn hwo
  go_enter Tryz.func8, Tryz.ntmps8
  go_wp2
  go_region_held3 (fun W => W.cell? ⟨b.l, 5, none⟩ = some (.pointer (some ⟨b.v, 0, none⟩)) ∧ W.cell? ⟨w.heap.size, 1, none⟩ = some (.int .i64 n)) (first | assumption | go_keep) (first | (go_at_call 19; refine HV.out.mono ?_; rintro e y0 ⟨rfl, rfl⟩) | (go_at_call 38; refine HP.out.mono ?_; rintro e y ⟨rfl, hq⟩; obtain ⟨o1, g1, X1, K1⟩ := H1.out.first hq; have z1 := g1.r.c5; have q1 := (K1.cell (p := ⟨w.heap.size, 1, none⟩) HWS.out HWO.out).trans C1.out) | (go_at_call 48; refine (HF.out y o1 g1).mono ?_; rintro e y2 ⟨rfl, hq2⟩; obtain ⟨o2, g2, X2, K2⟩ := hq2; have z2 := g2.c5; have q2 := (K2.cell (p := ⟨w.heap.size, 1, none⟩) (Nat.lt_of_lt_of_le HWS.out K1.size) (fun e => HWO.out (by unfold OwX; have := X1 w.heap.size HWS.out; unfold Ow19 at e; simp only at e; omega))).trans q1))
  all_goals
    have HE : Hid (Bq w o a b c S k y2) := Bq.behind (w := w) (fun x hx => X1 x (by have := HWS.out; simp at this ⊢; omega)) ((Below.keeps (S := OwX o) hb1).trans K1 (fun x hx t => t)) (g1.second (w' := y2) ⟨o2, g2, X2, K2⟩)
    go_wp2
    go_ret
    exact ⟨ret_bool (by simp), HE.out⟩
end
end Go.Proofs.YtfghfbmmaclcnaaGreat
namespace Go.Proofs.YtfghfbmmaclcnaaGreat
set_option maxRecDepth 20000
open Go.RowKit
section
variable {w : World} {o : Nat → Nat} {a : Ad} {b : Rd} {c : Cf} {s : Hs} {k : Nat}
set_option maxHeartbeats 2000000 in
theorem does_none (h : Bt w o a b c s k) (x : Al) (hx : ¬ (1 ≤ x.kd ∧ x.kd ≤ 15)) :
    Calls Tryz.prog 8 #[.pointer (some ⟨a.l, 0, none⟩), .pointer (some ⟨b.l, 0, none⟩), .agg #[.int .i64 x.kd, .int .i64 x.n, .int .u64 x.a, .int .u64 x.w]] w fun e w' => e = .returned (.bool true) ∧ Bq w o a b c s k w' := by
  have hb1 := (Below.refl w.heap.size w).alloc (Nat.le_refl _) (alO x)
  have a1 := al_made w x
  have c0 := a1.c0
  have HE := hide (fun (y : World) (q : Below w.heap.size w y) => h.here.below q)
  have HB := hide hb1
  obtain ⟨kd, n, av, wv⟩ := x
  simp only at hx c0
  have g : ∀ i : Int, 1 ≤ i → i ≤ 15 → (kd == i) = false := fun i h1 h2 => by rw [beq_eq_false_iff_ne]; intro e; exact hx ⟨by omega, by omega⟩
  have g1 := g 1 (by decide) (by decide); have g2 := g 2 (by decide) (by decide); have g3 := g 3 (by decide) (by decide); have g4 := g 4 (by decide) (by decide); have g5 := g 5 (by decide) (by decide)
  have g6 := g 6 (by decide) (by decide); have g7 := g 7 (by decide) (by decide); have g8 := g 8 (by decide) (by decide); have g9 := g 9 (by decide) (by decide); have g10 := g 10 (by decide) (by decide)
  have g11 := g 11 (by decide) (by decide); have g12 := g 12 (by decide) (by decide); have g13 := g 13 (by decide) (by decide); have g14 := g 14 (by decide) (by decide); have g15 := g 15 (by decide) (by decide)
  simp only [alO] at *
  clear h a1 hx g hb1
  go_enter Tryz.func8, Tryz.ntmps8
  go_wp2
  go_ret
  exact ⟨rfl, HE.out _ HB.out⟩
end
end Go.Proofs.YtfghfbmmaclcnaaGreat
namespace Go.Proofs.YtfghfbmmaclcnaaGreat
set_option maxRecDepth 20000
open Go.RowKit
section
variable {w : World} {o : Nat → Nat} {a : Ad} {b : Rd} {c : Cf} {s : Hs} {k : Nat}
/-- The log behind a call of its table. -/
def epS (c : Cf) (s : Hs) (kd n : Int) : Hs := { s with now := s.now, v := doesV c.ns s.now s.v kd n }
theorem ep_behind (h : Hp w o a c s k) {kd n : Int} {e : Ending} {w' : World} (q : DoesIt w a.eB a.eC a.et c.ns s.now s.v k kd n e w') : e = .returned (.int .i64 (doesE c.ns s.v kd n)) ∧ Hq w o a c (epS c s kd n) (k + 1) w' := by
  obtain ⟨rfl, ht, hk⟩ := q
  exact ⟨rfl, h.setEp hk ht (Nat.le_succ k)⟩
theorem hl_enter (h : Hp w o a c s k) (hk : k ≤ 1000) (n : Int) : Calls Tryz.prog 49 #[.pointer (some ⟨a.et, 0, none⟩), .int .i64 n] w fun e w' => e = .returned (.int .i64 (doesE c.ns s.v 1 n)) ∧ Hq w o a c (epS c s 1 n) (k + 1) w' :=
  (enter_any h.ep (by omega) n).mono fun _ _ q => ep_behind h q
theorem hl_refresh (h : Hp w o a c s k) (n : Int) : Calls Tryz.prog 51 #[.pointer (some ⟨a.et, 0, none⟩), .int .i64 n] w fun e w' => e = .returned (.int .i64 (doesE c.ns s.v 2 n)) ∧ Hq w o a c (epS c s 2 n) (k + 1) w' :=
  (refresh_any h.ep n).mono fun _ _ q => ep_behind h q
theorem hl_leave (h : Hp w o a c s k) (n : Int) : Calls Tryz.prog 52 #[.pointer (some ⟨a.et, 0, none⟩), .int .i64 n] w fun e w' => e = .returned (.int .i64 (doesE c.ns s.v 3 n)) ∧ Hq w o a c (epS c s 3 n) (k + 1) w' :=
  (leave_any h.ep n).mono fun _ _ q => ep_behind h q
theorem rl_ep (h : Hr w o b c s k) (kd n : Int) (hkd : kd = 1 ∨ kd = 2 ∨ kd = 3) : Calls Tryz.prog 50 #[.pointer (some ⟨b.e, 0, none⟩), .int .i64 kd, .int .i64 n] w fun e w' => e = .returned (.int .i64 (doesE c.ns s.v kd n)) ∧ Rq19 w o b c (epS c s kd n) (k + 1) w' := by
  refine (rdoes_any h.ep kd n hkd).mono ?_
  rintro e w' ⟨rfl, ht, hk⟩
  exact ⟨rfl, (h.setEp ((apart_keeps hk).wider (fun x _ t => .inr (by omega))) ht).more (Nat.le_succ k)⟩
end
end Go.Proofs.YtfghfbmmaclcnaaGreat
namespace Go.Proofs.YtfghfbmmaclcnaaGreat
set_option maxRecDepth 20000
open Go.RowKit
section
variable {w : World} {o : Nat → Nat} {a : Ad} {b : Rd} {c : Cf} {s : Hs} {k : Nat}
set_option maxHeartbeats 2000000 in
theorem does_enter (h : Bt w o a b c s k) (x : Al) (hx : x.kd = 10) (hk : k ≤ 700) :
    Calls Tryz.prog 8 #[.pointer (some ⟨a.l, 0, none⟩), .pointer (some ⟨b.l, 0, none⟩), .agg #[.int .i64 x.kd, .int .i64 x.n, .int .u64 x.a, .int .u64 x.w]] w fun e w' => e = .returned (.bool true) ∧ Bq w o a b c (epS c s 1 x.n) (k + 1) w' := by
  have hb0 := (Below.refl w.heap.size w).alloc (Nat.le_refl _) (alO x)
  have hb1 := hb0.trans ((below_drewN (Below.refl _ _) 1).mono hb0.size)
  have a1 := al_made w x
  have c0 := a1.c0
  have c1 := a1.c1
  simp only [hx] at c0
  simp only [Nat.zero_add] at c1
  have h1 := h.below hb1
  obtain ⟨kd, n, av, wv⟩ := x
  simp only at hx c1
  subst hx
  have HV := hide (hl_epoch h1.p)
  have HP := hide (hl_enter h1.p (by omega) n)
  have HF := hide (fun y o1 (g : Bf y o1 a b c s k (epS c s 1 n) (k + 1)) => rl_ep g.r 1 n (by omega))
  have H1 := hide h1
  have hwo : ¬ OwX o w.heap.size := fun e => by have := h.p.sz _ e; omega
  have HWO := hide hwo
  have HWS : Hid (w.heap.size < ((w.alloc (alO ⟨10, n, av, wv⟩)).drewN 1).heap.size) := by unfold Hid; simp
  have C1 := hide c1
  have c3 := (h.below hb0).r.c3
  simp only [alO] at *
  generalize doesE c.ns s.v 1 n = E at *
  generalize epS c s 1 n = S at *
  clear h h1 a1 hwo
  go_enter Tryz.func8, Tryz.ntmps8
  go_wp2
  go_region_held3 (fun W => W.cell? ⟨b.l, 3, none⟩ = some (.pointer (some ⟨b.e, 0, none⟩)) ∧ W.cell? ⟨w.heap.size, 1, none⟩ = some (.int .i64 n)) (first | assumption | go_keep) (first | (go_at_call 9; refine HV.out.mono ?_; rintro e y0 ⟨rfl, rfl⟩) | (go_at_call 49; refine HP.out.mono ?_; rintro e y ⟨rfl, hq⟩; obtain ⟨o1, g1, X1, K1⟩ := H1.out.first hq; have z1 := g1.r.c3; have q1 := (K1.cell (p := ⟨w.heap.size, 1, none⟩) HWS.out HWO.out).trans C1.out) | (go_at_call 50; refine (HF.out y o1 g1).mono ?_; rintro e y2 ⟨rfl, hq2⟩; obtain ⟨o2, g2, X2, K2⟩ := hq2; have z2 := g2.c3; have q2 := (K2.cell (p := ⟨w.heap.size, 1, none⟩) (Nat.lt_of_lt_of_le HWS.out K1.size) (fun e => HWO.out (by unfold OwX; have := X1 w.heap.size HWS.out; unfold Ow19 at e; simp only at e; omega))).trans q1))
  all_goals
    have HE : Hid (Bq w o a b c S (k + 1) y2) := Bq.behind (w := w) (fun x hx => X1 x (by have := HWS.out; simp at this ⊢; omega)) ((Below.keeps (S := OwX o) hb1).trans K1 (fun x hx t => t)) (g1.second (w' := y2) ⟨o2, g2, X2, K2⟩)
    go_wp2
    go_ret
    exact ⟨ret_bool (by simp), HE.out⟩
set_option maxHeartbeats 2000000 in
theorem does_refresh (h : Bt w o a b c s k) (x : Al) (hx : x.kd = 11) :
    Calls Tryz.prog 8 #[.pointer (some ⟨a.l, 0, none⟩), .pointer (some ⟨b.l, 0, none⟩), .agg #[.int .i64 x.kd, .int .i64 x.n, .int .u64 x.a, .int .u64 x.w]] w fun e w' => e = .returned (.bool true) ∧ Bq w o a b c (epS c s 2 x.n) (k + 1) w' := by
  have hb0 := (Below.refl w.heap.size w).alloc (Nat.le_refl _) (alO x)
  have hb1 := hb0.trans ((below_drewN (Below.refl _ _) 1).mono hb0.size)
  have a1 := al_made w x
  have c0 := a1.c0
  have c1 := a1.c1
  simp only [hx] at c0
  simp only [Nat.zero_add] at c1
  have h1 := h.below hb1
  obtain ⟨kd, n, av, wv⟩ := x
  simp only at hx c1
  subst hx
  have HV := hide (hl_epoch h1.p)
  have HP := hide (hl_refresh h1.p n)
  have HF := hide (fun y o1 (g : Bf y o1 a b c s k (epS c s 2 n) (k + 1)) => rl_ep g.r 2 n (by omega))
  have H1 := hide h1
  have hwo : ¬ OwX o w.heap.size := fun e => by have := h.p.sz _ e; omega
  have HWO := hide hwo
  have HWS : Hid (w.heap.size < ((w.alloc (alO ⟨11, n, av, wv⟩)).drewN 1).heap.size) := by unfold Hid; simp
  have C1 := hide c1
  have c3 := (h.below hb0).r.c3
  simp only [alO] at *
  generalize doesE c.ns s.v 2 n = E at *
  generalize epS c s 2 n = S at *
  clear h h1 a1 hwo
  go_enter Tryz.func8, Tryz.ntmps8
  go_wp2
  go_region_held3 (fun W => W.cell? ⟨b.l, 3, none⟩ = some (.pointer (some ⟨b.e, 0, none⟩)) ∧ W.cell? ⟨w.heap.size, 1, none⟩ = some (.int .i64 n)) (first | assumption | go_keep) (first | (go_at_call 9; refine HV.out.mono ?_; rintro e y0 ⟨rfl, rfl⟩) | (go_at_call 51; refine HP.out.mono ?_; rintro e y ⟨rfl, hq⟩; obtain ⟨o1, g1, X1, K1⟩ := H1.out.first hq; have z1 := g1.r.c3; have q1 := (K1.cell (p := ⟨w.heap.size, 1, none⟩) HWS.out HWO.out).trans C1.out) | (go_at_call 50; refine (HF.out y o1 g1).mono ?_; rintro e y2 ⟨rfl, hq2⟩; obtain ⟨o2, g2, X2, K2⟩ := hq2; have z2 := g2.c3; have q2 := (K2.cell (p := ⟨w.heap.size, 1, none⟩) (Nat.lt_of_lt_of_le HWS.out K1.size) (fun e => HWO.out (by unfold OwX; have := X1 w.heap.size HWS.out; unfold Ow19 at e; simp only at e; omega))).trans q1))
  all_goals
    have HE : Hid (Bq w o a b c S (k + 1) y2) := Bq.behind (w := w) (fun x hx => X1 x (by have := HWS.out; simp at this ⊢; omega)) ((Below.keeps (S := OwX o) hb1).trans K1 (fun x hx t => t)) (g1.second (w' := y2) ⟨o2, g2, X2, K2⟩)
    go_wp2
    go_ret
    exact ⟨ret_bool (by simp), HE.out⟩
set_option maxHeartbeats 2000000 in
theorem does_leave (h : Bt w o a b c s k) (x : Al) (hx : x.kd = 12) :
    Calls Tryz.prog 8 #[.pointer (some ⟨a.l, 0, none⟩), .pointer (some ⟨b.l, 0, none⟩), .agg #[.int .i64 x.kd, .int .i64 x.n, .int .u64 x.a, .int .u64 x.w]] w fun e w' => e = .returned (.bool true) ∧ Bq w o a b c (epS c s 3 x.n) (k + 1) w' := by
  have hb0 := (Below.refl w.heap.size w).alloc (Nat.le_refl _) (alO x)
  have hb1 := hb0.trans ((below_drewN (Below.refl _ _) 1).mono hb0.size)
  have a1 := al_made w x
  have c0 := a1.c0
  have c1 := a1.c1
  simp only [hx] at c0
  simp only [Nat.zero_add] at c1
  have h1 := h.below hb1
  obtain ⟨kd, n, av, wv⟩ := x
  simp only at hx c1
  subst hx
  have HV := hide (hl_epoch h1.p)
  have HP := hide (hl_leave h1.p n)
  have HF := hide (fun y o1 (g : Bf y o1 a b c s k (epS c s 3 n) (k + 1)) => rl_ep g.r 3 n (by omega))
  have H1 := hide h1
  have hwo : ¬ OwX o w.heap.size := fun e => by have := h.p.sz _ e; omega
  have HWO := hide hwo
  have HWS : Hid (w.heap.size < ((w.alloc (alO ⟨12, n, av, wv⟩)).drewN 1).heap.size) := by unfold Hid; simp
  have C1 := hide c1
  have c3 := (h.below hb0).r.c3
  simp only [alO] at *
  generalize doesE c.ns s.v 3 n = E at *
  generalize epS c s 3 n = S at *
  clear h h1 a1 hwo
  go_enter Tryz.func8, Tryz.ntmps8
  go_wp2
  go_region_held3 (fun W => W.cell? ⟨b.l, 3, none⟩ = some (.pointer (some ⟨b.e, 0, none⟩)) ∧ W.cell? ⟨w.heap.size, 1, none⟩ = some (.int .i64 n)) (first | assumption | go_keep) (first | (go_at_call 9; refine HV.out.mono ?_; rintro e y0 ⟨rfl, rfl⟩) | (go_at_call 52; refine HP.out.mono ?_; rintro e y ⟨rfl, hq⟩; obtain ⟨o1, g1, X1, K1⟩ := H1.out.first hq; have z1 := g1.r.c3; have q1 := (K1.cell (p := ⟨w.heap.size, 1, none⟩) HWS.out HWO.out).trans C1.out) | (go_at_call 50; refine (HF.out y o1 g1).mono ?_; rintro e y2 ⟨rfl, hq2⟩; obtain ⟨o2, g2, X2, K2⟩ := hq2; have z2 := g2.c3; have q2 := (K2.cell (p := ⟨w.heap.size, 1, none⟩) (Nat.lt_of_lt_of_le HWS.out K1.size) (fun e => HWO.out (by unfold OwX; have := X1 w.heap.size HWS.out; unfold Ow19 at e; simp only at e; omega))).trans q1))
  all_goals
    have HE : Hid (Bq w o a b c S (k + 1) y2) := Bq.behind (w := w) (fun x hx => X1 x (by have := HWS.out; simp at this ⊢; omega)) ((Below.keeps (S := OwX o) hb1).trans K1 (fun x hx t => t)) (g1.second (w' := y2) ⟨o2, g2, X2, K2⟩)
    go_wp2
    go_ret
    exact ⟨ret_bool (by simp), HE.out⟩
end
end Go.Proofs.YtfghfbmmaclcnaaGreat
