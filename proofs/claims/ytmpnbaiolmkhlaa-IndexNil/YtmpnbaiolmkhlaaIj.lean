/- The law's grows: what a look tells is done, on both. -/
import Derived.Test.YtmpnbaiolmkhlaaIi
import Derived.Deep.Slices
import Derived.Deep.RegionHeld3
import Derived.ChangeArms
import Derived.ChangeSame
import Derived.ProofKit
namespace Go.Proofs.Ytmpnbaiolmkhlaa
set_option maxRecDepth 20000
open Go.ChangeShapes Go.WideShapes Go.ChangeAt Go.RowKit
structure Ax where
  kd : Int
  h : Int
  sl : Int
  old : Int
  mi : Bool
  ad : Int
  bk : Int
  sp : Int
instance : Inhabited Ax := ⟨⟨0, 0, 0, 0, false, 0, 0, 0⟩⟩
def Ax.cells (x : Ax) : List Value := [.int .i64 x.kd, .int .u64 x.h, .int .i64 x.sl, .int .u64 x.old, .bool x.mi, .int .u64 x.ad, .int .i64 x.bk, .int .i64 x.sp]
structure AxOk (x : Ax) : Prop where
  kd : -9223372036854775808 ≤ x.kd ∧ x.kd ≤ 9223372036854775807
  h : 0 ≤ x.h ∧ x.h ≤ 18446744073709551615
  sl : -9223372036854775808 ≤ x.sl ∧ x.sl ≤ 9223372036854775807
  old : 0 ≤ x.old ∧ x.old ≤ 18446744073709551615
  ad : 0 ≤ x.ad ∧ x.ad ≤ 18446744073709551615
  bk : -9223372036854775808 ≤ x.bk ∧ x.bk ≤ 9223372036854775807
  sp : -9223372036854775808 ≤ x.sp ∧ x.sp ≤ 9223372036854775807
theorem Axcells_4 : Try.prog.cellsOf 4 = 1 := by kernel_rfl
theorem Axcells_3 : Try.prog.cellsOf 3 = 1 := by kernel_rfl
theorem Axcells_32 : Try.prog.cellsOf 32 = 1 := by kernel_rfl
theorem Axcells : Try.prog.cellsOf 34 = 8 := by kernel_rfl
theorem Axlist {α : Type} {l : List α} (h : l.length = 8) : ∃ c0 c1 c2 c3 c4 c5 c6 c7, l = [c0, c1, c2, c3, c4, c5, c6, c7] := by
  match l, h with
  | [c0, c1, c2, c3, c4, c5, c6, c7], _ => exact ⟨c0, c1, c2, c3, c4, c5, c6, c7, rfl⟩
theorem Ax_of_trod {H : Type} {enc : TypeId × Value → H} {W : World} {base : Nat} {sp : Nat → Bool} {held : Bool} {fuel : Nat} {cs : List Value} {x : DataW H × List MemPlace}
    (h : DataW.trod enc Try.prog W base sp held fuel 34 cs = some x) (hl : cs.length = 8) : ∃ a : Ax, AxOk a ∧ cs = a.cells := by
  obtain ⟨c0, c1, c2, c3, c4, c5, c6, c7, rfl⟩ := Axlist hl
  obtain ⟨xs, m, _, hx, _, hlen, hfs⟩ := DataW.trod_struct Try.underlying34 h
  obtain ⟨y0, y1, y2, y3, y4, y5, y6, y7, rfl⟩ := Axlist (l := xs) hlen
  have f0 := hfs 0 _ rfl
  have f1 := hfs 1 _ rfl
  have f2 := hfs 2 _ rfl
  have f3 := hfs 3 _ rfl
  have f4 := hfs 4 _ rfl
  have f5 := hfs 5 _ rfl
  have f6 := hfs 6 _ rfl
  have f7 := hfs 7 _ rfl
  simp [Axcells_3] at f0
  simp [Axcells_32] at f1
  simp [Axcells_3] at f2
  simp [Axcells_32] at f3
  simp [Axcells_4] at f4
  simp [Axcells_32] at f5
  simp [Axcells_3] at f6
  simp [Axcells_3] at f7
  obtain ⟨v0, e0, _, w0⟩ := DataW.trod_int Try.underlying3 f0
  obtain ⟨v1, e1, _, w1⟩ := DataW.trod_int Try.underlying32 f1
  obtain ⟨v2, e2, _, w2⟩ := DataW.trod_int Try.underlying3 f2
  obtain ⟨v3, e3, _, w3⟩ := DataW.trod_int Try.underlying32 f3
  obtain ⟨v4, e4, _⟩ := DataW.trod_bool Try.underlying4 f4
  obtain ⟨v5, e5, _, w5⟩ := DataW.trod_int Try.underlying32 f5
  obtain ⟨v6, e6, _, w6⟩ := DataW.trod_int Try.underlying3 f6
  obtain ⟨v7, e7, _, w7⟩ := DataW.trod_int Try.underlying3 f7
  cases e0; cases e1; cases e2; cases e3; cases e4; cases e5; cases e6; cases e7
  exact ⟨⟨v0, v1, v2, v3, v4, v5, v6, v7⟩, ⟨bounds_i64 w0, bounds_u64 w1, bounds_i64 w2, bounds_u64 w3, bounds_u64 w5, bounds_i64 w6, bounds_i64 w7⟩, rfl⟩
/-- A call as an argument. -/
def IsAx (_ : World) (v : Value) : Prop := ∃ x : Ax, AxOk x ∧ v = .agg #[.int .i64 x.kd, .int .u64 x.h, .int .i64 x.sl, .int .u64 x.old, .bool x.mi, .int .u64 x.ad, .int .i64 x.bk, .int .i64 x.sp]
set_option maxRecDepth 100000 in
theorem open_Ax {H : Type} {enc : TypeId × Value → H} {W : World} {base : Nat} {v : Value} {d : DataW H} {p : List MemPlace} (hv : Value.okWide Try.prog W .any base 34 v)
    (h : DataW.Trod enc Try.prog W 0 (fun _ => true) true 34 v d p) : IsAx W v := by
  obtain ⟨cs, rfl, hsz⟩ := okWide_struct Try.underlying34 hv
  rw [Axcells] at hsz
  obtain ⟨l⟩ := cs
  obtain ⟨fuel, hf⟩ := h
  obtain ⟨x, hx, e⟩ := Ax_of_trod (cs := l) (by simpa [Value.cells] using hf) (by simpa using hsz)
  exact ⟨x, hx, by rw [e]; rfl⟩
/-- A call in memory. -/
structure AxAt (w : World) (b off : Nat) (x : Ax) : Prop where
  c0 : w.cell? ⟨b, off, none⟩ = some (.int .i64 x.kd)
  c1 : w.cell? ⟨b, off + 1, none⟩ = some (.int .u64 x.h)
  c2 : w.cell? ⟨b, off + 2, none⟩ = some (.int .i64 x.sl)
  c3 : w.cell? ⟨b, off + 3, none⟩ = some (.int .u64 x.old)
  c4 : w.cell? ⟨b, off + 4, none⟩ = some (.bool x.mi)
  c5 : w.cell? ⟨b, off + 5, none⟩ = some (.int .u64 x.ad)
  c6 : w.cell? ⟨b, off + 6, none⟩ = some (.int .i64 x.bk)
  c7 : w.cell? ⟨b, off + 7, none⟩ = some (.int .i64 x.sp)
theorem AxAt.lt {w : World} {b off : Nat} {x : Ax} (h : AxAt w b off x) : b < w.heap.size := World.block_lt_of_cell? w _ h.c0
theorem AxAt.below {w w' : World} {b off : Nat} {x : Ax} (h : AxAt w b off x) (hb : Below w.heap.size w w') : AxAt w' b off x :=
  ⟨by rw [hb.cell h.lt]; exact h.c0, by rw [hb.cell h.lt]; exact h.c1, by rw [hb.cell h.lt]; exact h.c2, by rw [hb.cell h.lt]; exact h.c3, by rw [hb.cell h.lt]; exact h.c4, by rw [hb.cell h.lt]; exact h.c5, by rw [hb.cell h.lt]; exact h.c6, by rw [hb.cell h.lt]; exact h.c7⟩
theorem AxAt.under {w w' : World} {b off B : Nat} {x : Ax} (h : AxAt w b off x) (hb : Below B w w') (hB : b < B) : AxAt w' b off x :=
  ⟨by rw [hb.cell hB]; exact h.c0, by rw [hb.cell hB]; exact h.c1, by rw [hb.cell hB]; exact h.c2, by rw [hb.cell hB]; exact h.c3, by rw [hb.cell hB]; exact h.c4, by rw [hb.cell hB]; exact h.c5, by rw [hb.cell hB]; exact h.c6, by rw [hb.cell hB]; exact h.c7⟩
/-- A slice of calls that is read. -/
def Axs (w : World) (ao : Option Addr) (n : Nat) (z : Nat → Ax) : Prop := ∀ j, j < n → AxOk (z j) ∧ ∃ b off, ao = some ⟨b, off, none⟩ ∧ AxAt w b (off + j * 8) (z j)
theorem Axs.below {w w' : World} {ao : Option Addr} {n : Nat} {z : Nat → Ax} (h : Axs w ao n z) (hb : Below w.heap.size w w') : Axs w' ao n z := fun j hj => by
  obtain ⟨h0, b, off, h1, h2⟩ := h j hj
  exact ⟨h0, b, off, h1, h2.below hb⟩
def IsAxs (w : World) (v : Value) : Prop := ∃ ao len cap z, v = .slice ao len cap ∧ len ≤ 9223372036854775807 ∧ Axs w ao len z
set_option maxRecDepth 100000 in
theorem open_Axs {H : Type} {enc : TypeId × Value → H} {W : World} {base : Nat} {v : Value} {d : DataW H} {p : List MemPlace} (hv : Value.okWide Try.prog W .any base 22 v)
    (h : DataW.Trod enc Try.prog W 0 (fun _ => true) true 22 v d p) : IsAxs W v := by
  obtain ⟨ao, len, cap, rfl⟩ := okWide_slice Try.underlying22 hv
  obtain ⟨fuel, hf⟩ := h
  rcases Go.Deep.open_slice Try.underlying22 hf with ⟨hcs, _⟩ | ⟨a, l, c, m, n, D, Pl, hcs, _, hl, hm, hmm, _, hc⟩
  · simp [Value.cells] at hcs
    obtain ⟨rfl, rfl, rfl⟩ := hcs
    exact ⟨_, _, _, fun _ => default, rfl, by decide, fun j hj => by omega⟩
  · simp [Value.cells] at hcs
    obtain ⟨rfl, rfl, rfl⟩ := hcs
    simp only [if_true] at hmm
    subst hmm
    rw [Axcells] at hc
    obtain ⟨b, off, spot⟩ := a
    have hone : ∀ i, i < m → ∃ z : Ax, AxOk z ∧ W.cell? ((Addr.add ⟨b, off, spot⟩ (i * 8)).add 0) = some (.int .i64 z.kd) ∧ W.cell? ((Addr.add ⟨b, off, spot⟩ (i * 8)).add 1) = some (.int .u64 z.h) ∧ W.cell? ((Addr.add ⟨b, off, spot⟩ (i * 8)).add 2) = some (.int .i64 z.sl) ∧ W.cell? ((Addr.add ⟨b, off, spot⟩ (i * 8)).add 3) = some (.int .u64 z.old) ∧ W.cell? ((Addr.add ⟨b, off, spot⟩ (i * 8)).add 4) = some (.bool z.mi) ∧ W.cell? ((Addr.add ⟨b, off, spot⟩ (i * 8)).add 5) = some (.int .u64 z.ad) ∧ W.cell? ((Addr.add ⟨b, off, spot⟩ (i * 8)).add 6) = some (.int .i64 z.bk) ∧ W.cell? ((Addr.add ⟨b, off, spot⟩ (i * 8)).add 7) = some (.int .i64 z.sp) := by
      intro i hi
      obtain ⟨cs', h1, h2⟩ := hc i hi
      obtain ⟨_, hlen, hget⟩ := World.cells?_some h1
      obtain ⟨z, hz, rfl⟩ := Ax_of_trod h2 hlen
      exact ⟨z, hz, hget 0 (by decide), hget 1 (by decide), hget 2 (by decide), hget 3 (by decide), hget 4 (by decide), hget 5 (by decide), hget 6 (by decide), hget 7 (by decide)⟩
    by_cases h0 : len = 0
    · subst h0
      exact ⟨_, _, _, fun _ => default, rfl, by decide, fun j hj => by omega⟩
    · have hspot : spot = none := by
        obtain ⟨z, _, h1, _⟩ := hone 0 (by omega)
        simpa [Addr.add] using World.cell?_spot h1
      subst hspot
      obtain ⟨z, hz⟩ := Go.Deep.choose_lt hone
      refine ⟨_, _, _, z, rfl, by unfold maxLen at hm; omega, fun j hj => ?_⟩
      obtain ⟨k0, k1⟩ := hz j (by omega)
      refine ⟨k0, b, off, rfl, ?_⟩
      simp only [Go.WideShapes.add_plain, Nat.add_zero] at k1
      obtain ⟨a0, a1, a2, a3, a4, a5, a6, a7⟩ := k1
      exact ⟨a0, a1, a2, a3, a4, a5, a6, a7⟩
set_option maxHeartbeats 4000000 in
theorem grows_two {X : IxPred} (C : IxProg X) {w : World} {base x m B S : Nat} {M : Nat → Prop} {r : Nat} {g : Nat → Nat} {T k won : Nat} {cs : Nat → List Nat} (h : IxTw X w base x m B S M r g T k g T won) (G : IxGood B S g T cs) {K : Nat} (hK : K ≤ 900) (hk : k ≤ K) (hwon : won ≤ K) (kd0 sl0 bk0 sp0 old0 : Int) (mi0 : Bool) (hN aN : Nat) (hh : hN < 18446744073709551616)
    {b t : Nat} (hbk : buckN hN (B : Int) = b) (ht : hN / 1125899906842624 = t) {sl : Nat} (hl : ixLook g (ixSlots (cs b)) t = (2, sl, 0)) :
    Calls Try.prog 11 #[.pointer (some ⟨x, 0, none⟩), .pointer (some ⟨m, 0, none⟩), .agg #[.int .i64 kd0, .int .u64 (hN : Int), .int .i64 sl0, .int .u64 old0, .bool mi0, .int .u64 (aN : Int), .int .i64 bk0, .int .i64 sp0]] w fun e w' => e = .returned (.bool true) ∧ IxOk X w' base x m B S (K + 1) ∧ Below base w w' := by
  have hb : b < B := by rw [← hbk]; exact G.buck hN
  have hb1 := (Below.refl w.heap.size w).alloc (Nat.le_refl _) (.cells #[.int .i64 kd0, .int .u64 (hN : Int), .int .i64 sl0, .int .u64 old0, .bool mi0, .int .u64 (aN : Int), .int .i64 bk0, .int .i64 sp0] 34)
  have h1 := h.below C hb1
  have hnM : ¬ M w.heap.size := fun e => by have := C.lt h.p _ e; omega
  obtain ⟨la, HLA⟩ : ∃ la, Hid (ixLast (cs b) = la) := ⟨_, rfl⟩
  have HL := hide (C.look h1.p G (by omega) hN hh b t _ _ _ hbk ht hl)
  have HR : Hid (∀ Z : World, RxIs Z m r B S g T won 0 → _) := fun Z hZ => rx_look hZ hh hbk ht (G.inv.path b hb) (G.len hb) (G.in' hb) (G.words hb) hl
  rw [HLA.out] at HL HR
  simp only [lookV, show ((0 : Nat) : Int) = 0 from rfl, show ((2 : Nat) : Int) = 2 from rfl] at HL HR
  obtain ⟨_, hsm, h0, _, hno⟩ | ⟨hx, _⟩ : (True ∧ sl ∈ ixSlots (cs b) ∧ g sl = 0 ∧ True ∧ ∀ s ∈ ixSlots (cs b), ixHit g t s = false) ∨ (False ∧ True) := by
    rcases ixLook_cases hl with ⟨e, _⟩ | ⟨_, e1, e2, _, e3⟩ | ⟨e, _⟩
    · exact absurd e (by decide)
    · exact .inl ⟨trivial, e1, e2, trivial, e3⟩
    · exact absurd e (by decide)
  rotate_left
  · exact hx.elim
  obtain ⟨r0, j, _, hr0, hj, hsl⟩ := G.inv.slot hb hsm
  have ht14 : t < 16384 := by omega
  have HN := hide (G.claim hb hsm ht14 hno)
  have HPC : Hid (∀ (Z : World) (M : Nat → Prop), X Z M x B S g T k → _) := fun Z M hZ => C.claim hZ G (by omega) sl r0 j hN t hsl hr0 hj hh ht h0
  have HRC : Hid (∀ (Z : World), RxIs Z m r B S g T won 0 → _) := fun Z hZ => rx_claim hZ r0 j hN t hr0 hj hh ht (by rw [← hsl]; exact h0) (by omega)
  rw [← hsl] at HRC
  have HG := hide G
  have H1 := hide h1
  have HW := hide h.bs
  have H0 := hide h.q.lt
  clear h G h1 hsm h0 hno hsl hl
  go_enter Try.func11, Try.ntmps11
  go_wp2_with fail
  refine HL.out.mono ?_
  rintro e y ⟨rfl, p1, k1⟩
  obtain ⟨h2, b2⟩ := H1.out.prog p1 k1
  have ca1 := (k1.cell (p := ⟨w.heap.size, 1, none⟩) (by simp) hnM).trans (show (w.alloc (.cells #[.int .i64 kd0, .int .u64 (hN : Int), .int .i64 sl0, .int .u64 old0, .bool mi0, .int .u64 (aN : Int), .int .i64 bk0, .int .i64 sp0] 34)).cell? ⟨w.heap.size, 1, none⟩ = some (.int .u64 (hN : Int)) by simp)
  have ca5 := (k1.cell (p := ⟨w.heap.size, 5, none⟩) (by simp) hnM).trans (show (w.alloc (.cells #[.int .i64 kd0, .int .u64 (hN : Int), .int .i64 sl0, .int .u64 old0, .bool mi0, .int .u64 (aN : Int), .int .i64 bk0, .int .i64 sp0] 34)).cell? ⟨w.heap.size, 5, none⟩ = some (.int .u64 (aN : Int)) by simp)
  have hyl : w.heap.size < y.heap.size := World.block_lt_of_cell? y _ ca1
  have hb2 := (Below.refl y.heap.size y).alloc (Nat.le_refl _) (.cells #[.int .i64 2, .int .i64 (sl : Int), .int .u64 0, .int .i64 (la : Int)] 46)
  have h3 := h2.below C hb2
  have HB3 : Hid (Below base w (y.alloc (.cells #[.int .i64 2, .int .i64 (sl : Int), .int .u64 0, .int .i64 (la : Int)] 46))) := ((hb1.mono HW.out).trans b2).alloc h2.bs _
  replace ca1 := cell_alloc ca1 (.cells #[.int .i64 2, .int .i64 (sl : Int), .int .u64 0, .int .i64 (la : Int)] 46)
  replace ca5 := cell_alloc ca5 (.cells #[.int .i64 2, .int .i64 (sl : Int), .int .u64 0, .int .i64 (la : Int)] 46)
  have cl0 : (y.alloc (.cells #[.int .i64 2, .int .i64 (sl : Int), .int .u64 0, .int .i64 (la : Int)] 46)).cell? ⟨y.heap.size, 0, none⟩ = some (.int .i64 2) := by simp
  have cl1 : (y.alloc (.cells #[.int .i64 2, .int .i64 (sl : Int), .int .u64 0, .int .i64 (la : Int)] 46)).cell? ⟨y.heap.size, 1, none⟩ = some (.int .i64 (sl : Int)) := by simp
  have cl2 : (y.alloc (.cells #[.int .i64 2, .int .i64 (sl : Int), .int .u64 0, .int .i64 (la : Int)] 46)).cell? ⟨y.heap.size, 2, none⟩ = some (.int .u64 0) := by simp
  have cl3 : (y.alloc (.cells #[.int .i64 2, .int .i64 (sl : Int), .int .u64 0, .int .i64 (la : Int)] 46)).cell? ⟨y.heap.size, 3, none⟩ = some (.int .i64 (la : Int)) := by simp
  have hal : w.heap.size < (y.alloc (.cells #[.int .i64 2, .int .i64 (sl : Int), .int .u64 0, .int .i64 (la : Int)] 46)).heap.size := World.block_lt_of_cell? _ _ ca1
  have hll : y.heap.size < (y.alloc (.cells #[.int .i64 2, .int .i64 (sl : Int), .int .u64 0, .int .i64 (la : Int)] 46)).heap.size := World.block_lt_of_cell? _ _ cl0
  have hMl : ¬ More M (w.alloc (.cells #[.int .i64 kd0, .int .u64 (hN : Int), .int .i64 sl0, .int .u64 old0, .bool mi0, .int .u64 (aN : Int), .int .i64 bk0, .int .i64 sp0] 34)) y y.heap.size := fun e => e.elim (fun e => by have := C.lt H1.out.p _ e; have := k1.size; omega) (fun e => by omega)
  have hMa : ¬ More M (w.alloc (.cells #[.int .i64 kd0, .int .u64 (hN : Int), .int .i64 sl0, .int .u64 old0, .bool mi0, .int .u64 (aN : Int), .int .i64 bk0, .int .i64 sp0] 34)) y w.heap.size := fun e => e.elim hnM (fun e => absurd e.1 (by simp))
  have hRl : ¬ RxOwn m r y.heap.size := fun e => e.elim (fun e => by have := H0.out.1; omega) (fun e => by have := H0.out.2; omega)
  have hRa : ¬ RxOwn m r w.heap.size := fun e => e.elim (fun e => by have := H0.out.1; omega) (fun e => by have := H0.out.2; omega)
  have H3 := hide h3
  clear h2 b2 p1 k1 hb2 h3 HL H1 hb1
  go_wp2_with fail
  generalize hY : y.alloc (.cells #[.int .i64 2, .int .i64 (sl : Int), .int .u64 0, .int .i64 (la : Int)] 46) = Y at *
  clear hY
  go_region_held3 (fun W => W.cell? ⟨w.heap.size, 1, none⟩ = some (.int .u64 (hN : Int)) ∧ W.cell? ⟨y.heap.size, 0, none⟩ = some (.int .i64 2) ∧ W.cell? ⟨y.heap.size, 1, none⟩ = some (.int .i64 (sl : Int)) ∧ W.cell? ⟨y.heap.size, 2, none⟩ = some (.int .u64 0) ∧ W.cell? ⟨y.heap.size, 3, none⟩ = some (.int .i64 (la : Int))) (first | assumption | go_keep) (first | (go_at_call 35; refine (HR.out _ (H3.out.q.below (below_drewN (Below.refl _ _) 1))).mono ?_; rintro e z ⟨rfl, bz⟩; have bz2 := (below_drewN (Below.refl Y.heap.size Y) 1).trans (bz.mono (Nat.le_refl _)); have H4 := hide (H3.out.below C bz2); have HB4 := hide (HB3.out.trans (bz2.mono H3.out.bs)); have da1 := (bz2.cell (p := ⟨w.heap.size, 1, none⟩) hal).trans ca1; have da5 := (bz2.cell (p := ⟨w.heap.size, 5, none⟩) hal).trans ca5; have dl0 := (bz2.cell (p := ⟨y.heap.size, 0, none⟩) hll).trans cl0; have dl1 := (bz2.cell (p := ⟨y.heap.size, 1, none⟩) hll).trans cl1; have dl2 := (bz2.cell (p := ⟨y.heap.size, 2, none⟩) hll).trans cl2; have dl3 := (bz2.cell (p := ⟨y.heap.size, 3, none⟩) hll).trans cl3; have hal2 := Nat.lt_of_lt_of_le hal bz2.size; have hll2 := Nat.lt_of_lt_of_le hll bz2.size))
  go_wp2_with fail
  refine (HPC.out _ _ H4.out.p).mono ?_
  rintro e z2 ⟨rfl, p, kk⟩
  obtain ⟨h', b'⟩ := H4.out.prog p kk
  have H5 := hide h'
  have HB5 := hide (HB4.out.trans b')
  have ea1 := (kk.cell (p := ⟨w.heap.size, 1, none⟩) hal2 hMa).trans da1
  have el1 := (kk.cell (p := ⟨y.heap.size, 1, none⟩) hll2 hMl).trans dl1
  have hal3 := Nat.lt_of_lt_of_le hal2 kk.size
  have hll3 := Nat.lt_of_lt_of_le hll2 kk.size
  clear p kk h' b'
  go_wp2_with fail
  refine (HRC.out _ H5.out.q).mono ?_
  rintro e z3 ⟨rfl, q, kk⟩
  obtain ⟨h', b'⟩ := H5.out.ref C q kk (.inl rfl)
  have H6 := hide h'
  have HB6 := hide (HB5.out.trans b')
  clear q kk h' b'
  go_wp2
  go_ret
  exact ⟨ret_bool (by simp), ⟨_, r, _, T, k + 1, won + 1, cs, H6.out, HN.out, by omega, by omega⟩, HB6.out⟩
set_option maxHeartbeats 4000000 in
theorem grows_one_yes {X : IxPred} (C : IxProg X) {w : World} {base x m B S : Nat} {M : Nat → Prop} {r : Nat} {g : Nat → Nat} {T k won : Nat} {cs : Nat → List Nat} (h : IxTw X w base x m B S M r g T k g T won) (G : IxGood B S g T cs) {K : Nat} (hK : K ≤ 900) (hk : k ≤ K) (hwon : won ≤ K) (kd0 sl0 bk0 sp0 old0 : Int) (mi0 : Bool) (hN aN : Nat) (hh : hN < 18446744073709551616)
    {b t : Nat} (hbk : buckN hN (B : Int) = b) (ht : hN / 1125899906842624 = t) {sl xw : Nat} (hl : ixLook g (ixSlots (cs b)) t = (1, sl, xw)) (haN : aN < 18446744073709551616) (hE : entB aN t false = true) :
    Calls Try.prog 11 #[.pointer (some ⟨x, 0, none⟩), .pointer (some ⟨m, 0, none⟩), .agg #[.int .i64 kd0, .int .u64 (hN : Int), .int .i64 sl0, .int .u64 old0, .bool mi0, .int .u64 (aN : Int), .int .i64 bk0, .int .i64 sp0]] w fun e w' => e = .returned (.bool true) ∧ IxOk X w' base x m B S (K + 1) ∧ Below base w w' := by
  have hb : b < B := by rw [← hbk]; exact G.buck hN
  have hb1 := (Below.refl w.heap.size w).alloc (Nat.le_refl _) (.cells #[.int .i64 kd0, .int .u64 (hN : Int), .int .i64 sl0, .int .u64 old0, .bool mi0, .int .u64 (aN : Int), .int .i64 bk0, .int .i64 sp0] 34)
  have h1 := h.below C hb1
  have hnM : ¬ M w.heap.size := fun e => by have := C.lt h.p _ e; omega
  obtain ⟨la, HLA⟩ : ∃ la, Hid (ixLast (cs b) = la) := ⟨_, rfl⟩
  have HL := hide (C.look h1.p G (by omega) hN hh b t _ _ _ hbk ht hl)
  have HR : Hid (∀ Z : World, RxIs Z m r B S g T won 0 → _) := fun Z hZ => rx_look hZ hh hbk ht (G.inv.path b hb) (G.len hb) (G.in' hb) (G.words hb) hl
  rw [HLA.out] at HL HR
  simp only [lookV, show ((1 : Nat) : Int) = 1 from rfl] at HL HR
  obtain ⟨hsm, h0, hx0, htg⟩ : sl ∈ ixSlots (cs b) ∧ g sl = xw ∧ xw ≠ 0 ∧ ixTag xw = t := by
    rcases ixLook_cases hl with ⟨_, e1, e2, e3, e4⟩ | ⟨e, _⟩ | ⟨e, _⟩
    · exact ⟨e1, e2, e3, e4⟩
    · exact absurd e (by decide)
    · exact absurd e (by decide)
  obtain ⟨r0, j, _, hr0, hj, hsl⟩ := G.inv.slot hb hsm
  have hen : IxEn xw := by
    rcases G.words hb sl hsm with e | e
    · rw [h0] at e; exact absurd e hx0
    · rw [h0] at e; exact e
  have hE' : entB aN (ixTag xw) false = true := by rw [htg]; exact hE
  have HN := hide (G.turn hb hsm (by rw [h0]; exact hx0) (a := aN) (by rw [h0]; exact hE'))
  rw [h0] at HN
  have HPC : Hid (∀ (Z : World) (M : Nat → Prop), X Z M x B S g T k → _) := fun Z M hZ => C.turnY hZ G (by omega) sl r0 j xw aN hsl hr0 hj h0 hen haN hE'
  have HRC : Hid (∀ (Z : World), RxIs Z m r B S g T won 0 → _) := fun Z hZ => rx_turn_yes hZ r0 j xw aN hr0 hj (by rw [← hsl]; exact h0) hen hE' (by omega)
  rw [← hsl] at HRC
  have HG := hide G
  have H1 := hide h1
  have HW := hide h.bs
  have H0 := hide h.q.lt
  clear h G h1 hsm h0 hx0 htg hsl hen hE hE' hl
  go_enter Try.func11, Try.ntmps11
  go_wp2_with fail
  refine HL.out.mono ?_
  rintro e y ⟨rfl, p1, k1⟩
  obtain ⟨h2, b2⟩ := H1.out.prog p1 k1
  have ca1 := (k1.cell (p := ⟨w.heap.size, 1, none⟩) (by simp) hnM).trans (show (w.alloc (.cells #[.int .i64 kd0, .int .u64 (hN : Int), .int .i64 sl0, .int .u64 old0, .bool mi0, .int .u64 (aN : Int), .int .i64 bk0, .int .i64 sp0] 34)).cell? ⟨w.heap.size, 1, none⟩ = some (.int .u64 (hN : Int)) by simp)
  have ca5 := (k1.cell (p := ⟨w.heap.size, 5, none⟩) (by simp) hnM).trans (show (w.alloc (.cells #[.int .i64 kd0, .int .u64 (hN : Int), .int .i64 sl0, .int .u64 old0, .bool mi0, .int .u64 (aN : Int), .int .i64 bk0, .int .i64 sp0] 34)).cell? ⟨w.heap.size, 5, none⟩ = some (.int .u64 (aN : Int)) by simp)
  have hyl : w.heap.size < y.heap.size := World.block_lt_of_cell? y _ ca1
  have hb2 := (Below.refl y.heap.size y).alloc (Nat.le_refl _) (.cells #[.int .i64 1, .int .i64 (sl : Int), .int .u64 (xw : Int), .int .i64 (la : Int)] 46)
  have h3 := h2.below C hb2
  have HB3 : Hid (Below base w (y.alloc (.cells #[.int .i64 1, .int .i64 (sl : Int), .int .u64 (xw : Int), .int .i64 (la : Int)] 46))) := ((hb1.mono HW.out).trans b2).alloc h2.bs _
  replace ca1 := cell_alloc ca1 (.cells #[.int .i64 1, .int .i64 (sl : Int), .int .u64 (xw : Int), .int .i64 (la : Int)] 46)
  replace ca5 := cell_alloc ca5 (.cells #[.int .i64 1, .int .i64 (sl : Int), .int .u64 (xw : Int), .int .i64 (la : Int)] 46)
  have cl0 : (y.alloc (.cells #[.int .i64 1, .int .i64 (sl : Int), .int .u64 (xw : Int), .int .i64 (la : Int)] 46)).cell? ⟨y.heap.size, 0, none⟩ = some (.int .i64 1) := by simp
  have cl1 : (y.alloc (.cells #[.int .i64 1, .int .i64 (sl : Int), .int .u64 (xw : Int), .int .i64 (la : Int)] 46)).cell? ⟨y.heap.size, 1, none⟩ = some (.int .i64 (sl : Int)) := by simp
  have cl2 : (y.alloc (.cells #[.int .i64 1, .int .i64 (sl : Int), .int .u64 (xw : Int), .int .i64 (la : Int)] 46)).cell? ⟨y.heap.size, 2, none⟩ = some (.int .u64 (xw : Int)) := by simp
  have cl3 : (y.alloc (.cells #[.int .i64 1, .int .i64 (sl : Int), .int .u64 (xw : Int), .int .i64 (la : Int)] 46)).cell? ⟨y.heap.size, 3, none⟩ = some (.int .i64 (la : Int)) := by simp
  have hal : w.heap.size < (y.alloc (.cells #[.int .i64 1, .int .i64 (sl : Int), .int .u64 (xw : Int), .int .i64 (la : Int)] 46)).heap.size := World.block_lt_of_cell? _ _ ca1
  have hll : y.heap.size < (y.alloc (.cells #[.int .i64 1, .int .i64 (sl : Int), .int .u64 (xw : Int), .int .i64 (la : Int)] 46)).heap.size := World.block_lt_of_cell? _ _ cl0
  have hMl : ¬ More M (w.alloc (.cells #[.int .i64 kd0, .int .u64 (hN : Int), .int .i64 sl0, .int .u64 old0, .bool mi0, .int .u64 (aN : Int), .int .i64 bk0, .int .i64 sp0] 34)) y y.heap.size := fun e => e.elim (fun e => by have := C.lt H1.out.p _ e; have := k1.size; omega) (fun e => by omega)
  have hMa : ¬ More M (w.alloc (.cells #[.int .i64 kd0, .int .u64 (hN : Int), .int .i64 sl0, .int .u64 old0, .bool mi0, .int .u64 (aN : Int), .int .i64 bk0, .int .i64 sp0] 34)) y w.heap.size := fun e => e.elim hnM (fun e => absurd e.1 (by simp))
  have hRl : ¬ RxOwn m r y.heap.size := fun e => e.elim (fun e => by have := H0.out.1; omega) (fun e => by have := H0.out.2; omega)
  have hRa : ¬ RxOwn m r w.heap.size := fun e => e.elim (fun e => by have := H0.out.1; omega) (fun e => by have := H0.out.2; omega)
  have H3 := hide h3
  clear h2 b2 p1 k1 hb2 h3 HL H1 hb1
  go_wp2_with fail
  generalize hY : y.alloc (.cells #[.int .i64 1, .int .i64 (sl : Int), .int .u64 (xw : Int), .int .i64 (la : Int)] 46) = Y at *
  clear hY
  go_region_held3 (fun W => W.cell? ⟨w.heap.size, 1, none⟩ = some (.int .u64 (hN : Int)) ∧ W.cell? ⟨y.heap.size, 0, none⟩ = some (.int .i64 1) ∧ W.cell? ⟨y.heap.size, 1, none⟩ = some (.int .i64 (sl : Int)) ∧ W.cell? ⟨y.heap.size, 2, none⟩ = some (.int .u64 (xw : Int)) ∧ W.cell? ⟨y.heap.size, 3, none⟩ = some (.int .i64 (la : Int))) (first | assumption | go_keep) (first | (go_at_call 35; refine (HR.out _ (H3.out.q.below (below_drewN (Below.refl _ _) 1))).mono ?_; rintro e z ⟨rfl, bz⟩; have bz2 := (below_drewN (Below.refl Y.heap.size Y) 1).trans (bz.mono (Nat.le_refl _)); have H4 := hide (H3.out.below C bz2); have HB4 := hide (HB3.out.trans (bz2.mono H3.out.bs)); have da1 := (bz2.cell (p := ⟨w.heap.size, 1, none⟩) hal).trans ca1; have da5 := (bz2.cell (p := ⟨w.heap.size, 5, none⟩) hal).trans ca5; have dl0 := (bz2.cell (p := ⟨y.heap.size, 0, none⟩) hll).trans cl0; have dl1 := (bz2.cell (p := ⟨y.heap.size, 1, none⟩) hll).trans cl1; have dl2 := (bz2.cell (p := ⟨y.heap.size, 2, none⟩) hll).trans cl2; have dl3 := (bz2.cell (p := ⟨y.heap.size, 3, none⟩) hll).trans cl3; have hal2 := Nat.lt_of_lt_of_le hal bz2.size; have hll2 := Nat.lt_of_lt_of_le hll bz2.size))
  go_wp2_with fail
  refine (HPC.out _ _ H4.out.p).mono ?_
  rintro e z2 ⟨rfl, p, kk⟩
  obtain ⟨h', b'⟩ := H4.out.prog p kk
  have H5 := hide h'
  have HB5 := hide (HB4.out.trans b')
  have ea5 := (kk.cell (p := ⟨w.heap.size, 5, none⟩) hal2 hMa).trans da5
  have el1 := (kk.cell (p := ⟨y.heap.size, 1, none⟩) hll2 hMl).trans dl1
  have el2 := (kk.cell (p := ⟨y.heap.size, 2, none⟩) hll2 hMl).trans dl2
  have hal3 := Nat.lt_of_lt_of_le hal2 kk.size
  have hll3 := Nat.lt_of_lt_of_le hll2 kk.size
  clear p kk h' b'
  go_wp2_with fail
  refine (HRC.out _ H5.out.q).mono ?_
  rintro e z3 ⟨rfl, q, kk⟩
  obtain ⟨h', b'⟩ := H5.out.ref C q kk (.inl rfl)
  have H6 := hide h'
  have HB6 := hide (HB5.out.trans b')
  clear q kk h' b'
  go_wp2
  go_ret
  exact ⟨ret_bool (by simp), ⟨_, r, _, T, k + 1, won + 1, cs, H6.out, HN.out, by omega, by omega⟩, HB6.out⟩
set_option maxHeartbeats 4000000 in
theorem grows_one_no {X : IxPred} (C : IxProg X) {w : World} {base x m B S : Nat} {M : Nat → Prop} {r : Nat} {g : Nat → Nat} {T k won : Nat} {cs : Nat → List Nat} (h : IxTw X w base x m B S M r g T k g T won) (G : IxGood B S g T cs) {K : Nat} (hK : K ≤ 900) (hk : k ≤ K) (hwon : won ≤ K) (kd0 sl0 bk0 sp0 old0 : Int) (mi0 : Bool) (hN aN : Nat) (hh : hN < 18446744073709551616)
    {b t : Nat} (hbk : buckN hN (B : Int) = b) (ht : hN / 1125899906842624 = t) {sl xw : Nat} (hl : ixLook g (ixSlots (cs b)) t = (1, sl, xw)) (haN : aN < 18446744073709551616) (hE : entB aN t false = false) :
    Calls Try.prog 11 #[.pointer (some ⟨x, 0, none⟩), .pointer (some ⟨m, 0, none⟩), .agg #[.int .i64 kd0, .int .u64 (hN : Int), .int .i64 sl0, .int .u64 old0, .bool mi0, .int .u64 (aN : Int), .int .i64 bk0, .int .i64 sp0]] w fun e w' => e = .returned (.bool true) ∧ IxOk X w' base x m B S (K + 1) ∧ Below base w w' := by
  have hb : b < B := by rw [← hbk]; exact G.buck hN
  have hb1 := (Below.refl w.heap.size w).alloc (Nat.le_refl _) (.cells #[.int .i64 kd0, .int .u64 (hN : Int), .int .i64 sl0, .int .u64 old0, .bool mi0, .int .u64 (aN : Int), .int .i64 bk0, .int .i64 sp0] 34)
  have h1 := h.below C hb1
  have hnM : ¬ M w.heap.size := fun e => by have := C.lt h.p _ e; omega
  obtain ⟨la, HLA⟩ : ∃ la, Hid (ixLast (cs b) = la) := ⟨_, rfl⟩
  have HL := hide (C.look h1.p G (by omega) hN hh b t _ _ _ hbk ht hl)
  have HR : Hid (∀ Z : World, RxIs Z m r B S g T won 0 → _) := fun Z hZ => rx_look hZ hh hbk ht (G.inv.path b hb) (G.len hb) (G.in' hb) (G.words hb) hl
  rw [HLA.out] at HL HR
  simp only [lookV, show ((1 : Nat) : Int) = 1 from rfl] at HL HR
  obtain ⟨hsm, h0, hx0, htg⟩ : sl ∈ ixSlots (cs b) ∧ g sl = xw ∧ xw ≠ 0 ∧ ixTag xw = t := by
    rcases ixLook_cases hl with ⟨_, e1, e2, e3, e4⟩ | ⟨e, _⟩ | ⟨e, _⟩
    · exact ⟨e1, e2, e3, e4⟩
    · exact absurd e (by decide)
    · exact absurd e (by decide)
  obtain ⟨r0, j, _, hr0, hj, hsl⟩ := G.inv.slot hb hsm
  have hen : IxEn xw := by
    rcases G.words hb sl hsm with e | e
    · rw [h0] at e; exact absurd e hx0
    · rw [h0] at e; exact e
  have hE' : entB aN (ixTag xw) false = false := by rw [htg]; exact hE
  have HPC : Hid (∀ (Z : World) (M : Nat → Prop), X Z M x B S g T k → _) := fun Z M hZ => C.turnN hZ G (by omega) sl r0 j xw aN hsl hr0 hj h0 hen haN hE'
  have HRC : Hid (∀ (Z : World), RxIs Z m r B S g T won 0 → _) := fun Z hZ => rx_turn_no hZ r0 j xw aN hr0 hj (by rw [← hsl]; exact h0) hen hE' (by omega)
  rw [← hsl] at HRC
  have HG := hide G
  have H1 := hide h1
  have HW := hide h.bs
  have H0 := hide h.q.lt
  clear h G h1 hsm h0 hx0 htg hsl hen hE hE' hl
  go_enter Try.func11, Try.ntmps11
  go_wp2_with fail
  refine HL.out.mono ?_
  rintro e y ⟨rfl, p1, k1⟩
  obtain ⟨h2, b2⟩ := H1.out.prog p1 k1
  have ca1 := (k1.cell (p := ⟨w.heap.size, 1, none⟩) (by simp) hnM).trans (show (w.alloc (.cells #[.int .i64 kd0, .int .u64 (hN : Int), .int .i64 sl0, .int .u64 old0, .bool mi0, .int .u64 (aN : Int), .int .i64 bk0, .int .i64 sp0] 34)).cell? ⟨w.heap.size, 1, none⟩ = some (.int .u64 (hN : Int)) by simp)
  have ca5 := (k1.cell (p := ⟨w.heap.size, 5, none⟩) (by simp) hnM).trans (show (w.alloc (.cells #[.int .i64 kd0, .int .u64 (hN : Int), .int .i64 sl0, .int .u64 old0, .bool mi0, .int .u64 (aN : Int), .int .i64 bk0, .int .i64 sp0] 34)).cell? ⟨w.heap.size, 5, none⟩ = some (.int .u64 (aN : Int)) by simp)
  have hyl : w.heap.size < y.heap.size := World.block_lt_of_cell? y _ ca1
  have hb2 := (Below.refl y.heap.size y).alloc (Nat.le_refl _) (.cells #[.int .i64 1, .int .i64 (sl : Int), .int .u64 (xw : Int), .int .i64 (la : Int)] 46)
  have h3 := h2.below C hb2
  have HB3 : Hid (Below base w (y.alloc (.cells #[.int .i64 1, .int .i64 (sl : Int), .int .u64 (xw : Int), .int .i64 (la : Int)] 46))) := ((hb1.mono HW.out).trans b2).alloc h2.bs _
  replace ca1 := cell_alloc ca1 (.cells #[.int .i64 1, .int .i64 (sl : Int), .int .u64 (xw : Int), .int .i64 (la : Int)] 46)
  replace ca5 := cell_alloc ca5 (.cells #[.int .i64 1, .int .i64 (sl : Int), .int .u64 (xw : Int), .int .i64 (la : Int)] 46)
  have cl0 : (y.alloc (.cells #[.int .i64 1, .int .i64 (sl : Int), .int .u64 (xw : Int), .int .i64 (la : Int)] 46)).cell? ⟨y.heap.size, 0, none⟩ = some (.int .i64 1) := by simp
  have cl1 : (y.alloc (.cells #[.int .i64 1, .int .i64 (sl : Int), .int .u64 (xw : Int), .int .i64 (la : Int)] 46)).cell? ⟨y.heap.size, 1, none⟩ = some (.int .i64 (sl : Int)) := by simp
  have cl2 : (y.alloc (.cells #[.int .i64 1, .int .i64 (sl : Int), .int .u64 (xw : Int), .int .i64 (la : Int)] 46)).cell? ⟨y.heap.size, 2, none⟩ = some (.int .u64 (xw : Int)) := by simp
  have cl3 : (y.alloc (.cells #[.int .i64 1, .int .i64 (sl : Int), .int .u64 (xw : Int), .int .i64 (la : Int)] 46)).cell? ⟨y.heap.size, 3, none⟩ = some (.int .i64 (la : Int)) := by simp
  have hal : w.heap.size < (y.alloc (.cells #[.int .i64 1, .int .i64 (sl : Int), .int .u64 (xw : Int), .int .i64 (la : Int)] 46)).heap.size := World.block_lt_of_cell? _ _ ca1
  have hll : y.heap.size < (y.alloc (.cells #[.int .i64 1, .int .i64 (sl : Int), .int .u64 (xw : Int), .int .i64 (la : Int)] 46)).heap.size := World.block_lt_of_cell? _ _ cl0
  have hMl : ¬ More M (w.alloc (.cells #[.int .i64 kd0, .int .u64 (hN : Int), .int .i64 sl0, .int .u64 old0, .bool mi0, .int .u64 (aN : Int), .int .i64 bk0, .int .i64 sp0] 34)) y y.heap.size := fun e => e.elim (fun e => by have := C.lt H1.out.p _ e; have := k1.size; omega) (fun e => by omega)
  have hMa : ¬ More M (w.alloc (.cells #[.int .i64 kd0, .int .u64 (hN : Int), .int .i64 sl0, .int .u64 old0, .bool mi0, .int .u64 (aN : Int), .int .i64 bk0, .int .i64 sp0] 34)) y w.heap.size := fun e => e.elim hnM (fun e => absurd e.1 (by simp))
  have hRl : ¬ RxOwn m r y.heap.size := fun e => e.elim (fun e => by have := H0.out.1; omega) (fun e => by have := H0.out.2; omega)
  have hRa : ¬ RxOwn m r w.heap.size := fun e => e.elim (fun e => by have := H0.out.1; omega) (fun e => by have := H0.out.2; omega)
  have H3 := hide h3
  clear h2 b2 p1 k1 hb2 h3 HL H1 hb1
  go_wp2_with fail
  generalize hY : y.alloc (.cells #[.int .i64 1, .int .i64 (sl : Int), .int .u64 (xw : Int), .int .i64 (la : Int)] 46) = Y at *
  clear hY
  go_region_held3 (fun W => W.cell? ⟨w.heap.size, 1, none⟩ = some (.int .u64 (hN : Int)) ∧ W.cell? ⟨y.heap.size, 0, none⟩ = some (.int .i64 1) ∧ W.cell? ⟨y.heap.size, 1, none⟩ = some (.int .i64 (sl : Int)) ∧ W.cell? ⟨y.heap.size, 2, none⟩ = some (.int .u64 (xw : Int)) ∧ W.cell? ⟨y.heap.size, 3, none⟩ = some (.int .i64 (la : Int))) (first | assumption | go_keep) (first | (go_at_call 35; refine (HR.out _ (H3.out.q.below (below_drewN (Below.refl _ _) 1))).mono ?_; rintro e z ⟨rfl, bz⟩; have bz2 := (below_drewN (Below.refl Y.heap.size Y) 1).trans (bz.mono (Nat.le_refl _)); have H4 := hide (H3.out.below C bz2); have HB4 := hide (HB3.out.trans (bz2.mono H3.out.bs)); have da1 := (bz2.cell (p := ⟨w.heap.size, 1, none⟩) hal).trans ca1; have da5 := (bz2.cell (p := ⟨w.heap.size, 5, none⟩) hal).trans ca5; have dl0 := (bz2.cell (p := ⟨y.heap.size, 0, none⟩) hll).trans cl0; have dl1 := (bz2.cell (p := ⟨y.heap.size, 1, none⟩) hll).trans cl1; have dl2 := (bz2.cell (p := ⟨y.heap.size, 2, none⟩) hll).trans cl2; have dl3 := (bz2.cell (p := ⟨y.heap.size, 3, none⟩) hll).trans cl3; have hal2 := Nat.lt_of_lt_of_le hal bz2.size; have hll2 := Nat.lt_of_lt_of_le hll bz2.size))
  go_wp2_with fail
  refine (HPC.out _ _ H4.out.p).mono ?_
  rintro e z2 ⟨rfl, p, kk⟩
  obtain ⟨h', b'⟩ := H4.out.prog p kk
  have H5 := hide h'
  have HB5 := hide (HB4.out.trans b')
  have ea5 := (kk.cell (p := ⟨w.heap.size, 5, none⟩) hal2 hMa).trans da5
  have el1 := (kk.cell (p := ⟨y.heap.size, 1, none⟩) hll2 hMl).trans dl1
  have el2 := (kk.cell (p := ⟨y.heap.size, 2, none⟩) hll2 hMl).trans dl2
  have hal3 := Nat.lt_of_lt_of_le hal2 kk.size
  have hll3 := Nat.lt_of_lt_of_le hll2 kk.size
  clear p kk h' b'
  go_wp2_with fail
  refine (HRC.out _ H5.out.q).mono ?_
  rintro e z3 ⟨rfl, bb⟩
  have H6 := hide (H5.out.below C bb)
  have HB6 := hide (HB5.out.trans (bb.mono H5.out.bs))
  clear bb
  go_wp2
  go_ret
  exact ⟨ret_bool (by simp), ⟨_, r, _, T, k, won, cs, H6.out, HG.out, by omega, by omega⟩, HB6.out⟩
set_option maxHeartbeats 4000000 in
theorem grows_full {X : IxPred} (C : IxProg X) {w : World} {base x m B S : Nat} {M : Nat → Prop} {r : Nat} {g : Nat → Nat} {T k won : Nat} {cs : Nat → List Nat} (h : IxTw X w base x m B S M r g T k g T won) (G : IxGood B S g T cs) {K : Nat} (hK : K ≤ 900) (hk : k ≤ K) (hwon : won ≤ K) (kd0 sl0 bk0 sp0 old0 : Int) (mi0 : Bool) (hN aN : Nat) (hh : hN < 18446744073709551616)
    {b t : Nat} (hbk : buckN hN (B : Int) = b) (ht : hN / 1125899906842624 = t) (hl : ixLook g (ixSlots (cs b)) t = (3, 0, 0)) (hT : S ≤ T) :
    Calls Try.prog 11 #[.pointer (some ⟨x, 0, none⟩), .pointer (some ⟨m, 0, none⟩), .agg #[.int .i64 kd0, .int .u64 (hN : Int), .int .i64 sl0, .int .u64 old0, .bool mi0, .int .u64 (aN : Int), .int .i64 bk0, .int .i64 sp0]] w fun e w' => e = .returned (.bool true) ∧ IxOk X w' base x m B S (K + 1) ∧ Below base w w' := by
  have hb : b < B := by rw [← hbk]; exact G.buck hN
  have hb1 := (Below.refl w.heap.size w).alloc (Nat.le_refl _) (.cells #[.int .i64 kd0, .int .u64 (hN : Int), .int .i64 sl0, .int .u64 old0, .bool mi0, .int .u64 (aN : Int), .int .i64 bk0, .int .i64 sp0] 34)
  have h1 := h.below C hb1
  have hnM : ¬ M w.heap.size := fun e => by have := C.lt h.p _ e; omega
  obtain ⟨la, HLA⟩ : ∃ la, Hid (ixLast (cs b) = la) := ⟨_, rfl⟩
  have HL := hide (C.look h1.p G (by omega) hN hh b t _ _ _ hbk ht hl)
  have HR : Hid (∀ Z : World, RxIs Z m r B S g T won 0 → _) := fun Z hZ => rx_look hZ hh hbk ht (G.inv.path b hb) (G.len hb) (G.in' hb) (G.words hb) hl
  rw [HLA.out] at HL HR
  simp only [lookV, show ((0 : Nat) : Int) = 0 from rfl, show ((3 : Nat) : Int) = 3 from rfl] at HL HR
  have HPC : Hid (∀ (Z : World) (M : Nat → Prop), X Z M x B S g T k → _) := fun Z M hZ => C.spareN hZ G (by omega) hT
  have HRC : Hid (∀ (Z : World), RxIs Z m r B S g T won 0 → _) := fun Z hZ => rx_spare_no hZ hT
  have HG := hide G
  have H1 := hide h1
  have HW := hide h.bs
  have H0 := hide h.q.lt
  clear h G h1 hl
  go_enter Try.func11, Try.ntmps11
  go_wp2_with fail
  refine HL.out.mono ?_
  rintro e y ⟨rfl, p1, k1⟩
  obtain ⟨h2, b2⟩ := H1.out.prog p1 k1
  have ca1 := (k1.cell (p := ⟨w.heap.size, 1, none⟩) (by simp) hnM).trans (show (w.alloc (.cells #[.int .i64 kd0, .int .u64 (hN : Int), .int .i64 sl0, .int .u64 old0, .bool mi0, .int .u64 (aN : Int), .int .i64 bk0, .int .i64 sp0] 34)).cell? ⟨w.heap.size, 1, none⟩ = some (.int .u64 (hN : Int)) by simp)
  have ca5 := (k1.cell (p := ⟨w.heap.size, 5, none⟩) (by simp) hnM).trans (show (w.alloc (.cells #[.int .i64 kd0, .int .u64 (hN : Int), .int .i64 sl0, .int .u64 old0, .bool mi0, .int .u64 (aN : Int), .int .i64 bk0, .int .i64 sp0] 34)).cell? ⟨w.heap.size, 5, none⟩ = some (.int .u64 (aN : Int)) by simp)
  have hyl : w.heap.size < y.heap.size := World.block_lt_of_cell? y _ ca1
  have hb2 := (Below.refl y.heap.size y).alloc (Nat.le_refl _) (.cells #[.int .i64 3, .int .i64 0, .int .u64 0, .int .i64 (la : Int)] 46)
  have h3 := h2.below C hb2
  have HB3 : Hid (Below base w (y.alloc (.cells #[.int .i64 3, .int .i64 0, .int .u64 0, .int .i64 (la : Int)] 46))) := ((hb1.mono HW.out).trans b2).alloc h2.bs _
  replace ca1 := cell_alloc ca1 (.cells #[.int .i64 3, .int .i64 0, .int .u64 0, .int .i64 (la : Int)] 46)
  replace ca5 := cell_alloc ca5 (.cells #[.int .i64 3, .int .i64 0, .int .u64 0, .int .i64 (la : Int)] 46)
  have cl0 : (y.alloc (.cells #[.int .i64 3, .int .i64 0, .int .u64 0, .int .i64 (la : Int)] 46)).cell? ⟨y.heap.size, 0, none⟩ = some (.int .i64 3) := by simp
  have cl1 : (y.alloc (.cells #[.int .i64 3, .int .i64 0, .int .u64 0, .int .i64 (la : Int)] 46)).cell? ⟨y.heap.size, 1, none⟩ = some (.int .i64 0) := by simp
  have cl2 : (y.alloc (.cells #[.int .i64 3, .int .i64 0, .int .u64 0, .int .i64 (la : Int)] 46)).cell? ⟨y.heap.size, 2, none⟩ = some (.int .u64 0) := by simp
  have cl3 : (y.alloc (.cells #[.int .i64 3, .int .i64 0, .int .u64 0, .int .i64 (la : Int)] 46)).cell? ⟨y.heap.size, 3, none⟩ = some (.int .i64 (la : Int)) := by simp
  have hal : w.heap.size < (y.alloc (.cells #[.int .i64 3, .int .i64 0, .int .u64 0, .int .i64 (la : Int)] 46)).heap.size := World.block_lt_of_cell? _ _ ca1
  have hll : y.heap.size < (y.alloc (.cells #[.int .i64 3, .int .i64 0, .int .u64 0, .int .i64 (la : Int)] 46)).heap.size := World.block_lt_of_cell? _ _ cl0
  have hMl : ¬ More M (w.alloc (.cells #[.int .i64 kd0, .int .u64 (hN : Int), .int .i64 sl0, .int .u64 old0, .bool mi0, .int .u64 (aN : Int), .int .i64 bk0, .int .i64 sp0] 34)) y y.heap.size := fun e => e.elim (fun e => by have := C.lt H1.out.p _ e; have := k1.size; omega) (fun e => by omega)
  have hMa : ¬ More M (w.alloc (.cells #[.int .i64 kd0, .int .u64 (hN : Int), .int .i64 sl0, .int .u64 old0, .bool mi0, .int .u64 (aN : Int), .int .i64 bk0, .int .i64 sp0] 34)) y w.heap.size := fun e => e.elim hnM (fun e => absurd e.1 (by simp))
  have hRl : ¬ RxOwn m r y.heap.size := fun e => e.elim (fun e => by have := H0.out.1; omega) (fun e => by have := H0.out.2; omega)
  have hRa : ¬ RxOwn m r w.heap.size := fun e => e.elim (fun e => by have := H0.out.1; omega) (fun e => by have := H0.out.2; omega)
  have H3 := hide h3
  clear h2 b2 p1 k1 hb2 h3 HL H1 hb1
  go_wp2_with fail
  generalize hY : y.alloc (.cells #[.int .i64 3, .int .i64 0, .int .u64 0, .int .i64 (la : Int)] 46) = Y at *
  clear hY
  go_region_held3 (fun W => W.cell? ⟨w.heap.size, 1, none⟩ = some (.int .u64 (hN : Int)) ∧ W.cell? ⟨y.heap.size, 0, none⟩ = some (.int .i64 3) ∧ W.cell? ⟨y.heap.size, 1, none⟩ = some (.int .i64 0) ∧ W.cell? ⟨y.heap.size, 2, none⟩ = some (.int .u64 0) ∧ W.cell? ⟨y.heap.size, 3, none⟩ = some (.int .i64 (la : Int))) (first | assumption | go_keep) (first | (go_at_call 35; refine (HR.out _ (H3.out.q.below (below_drewN (Below.refl _ _) 1))).mono ?_; rintro e z ⟨rfl, bz⟩; have bz2 := (below_drewN (Below.refl Y.heap.size Y) 1).trans (bz.mono (Nat.le_refl _)); have H4 := hide (H3.out.below C bz2); have HB4 := hide (HB3.out.trans (bz2.mono H3.out.bs)); have da1 := (bz2.cell (p := ⟨w.heap.size, 1, none⟩) hal).trans ca1; have da5 := (bz2.cell (p := ⟨w.heap.size, 5, none⟩) hal).trans ca5; have dl0 := (bz2.cell (p := ⟨y.heap.size, 0, none⟩) hll).trans cl0; have dl1 := (bz2.cell (p := ⟨y.heap.size, 1, none⟩) hll).trans cl1; have dl2 := (bz2.cell (p := ⟨y.heap.size, 2, none⟩) hll).trans cl2; have dl3 := (bz2.cell (p := ⟨y.heap.size, 3, none⟩) hll).trans cl3; have hal2 := Nat.lt_of_lt_of_le hal bz2.size; have hll2 := Nat.lt_of_lt_of_le hll bz2.size))
  go_wp2_with fail
  refine (HPC.out _ _ H4.out.p).mono ?_
  rintro e z2 ⟨rfl, p, kk⟩
  obtain ⟨h', b'⟩ := H4.out.prog p kk
  have H5 := hide h'
  have HB5 := hide (HB4.out.trans b')
  clear p kk h' b'
  go_wp2_with fail
  refine (HRC.out _ H5.out.q).mono ?_
  rintro e z3 ⟨rfl, bb⟩
  have H6 := hide (H5.out.below C bb)
  have HB6 := hide (HB5.out.trans (bb.mono H5.out.bs))
  clear bb
  go_wp2
  go_ret
  exact ⟨rfl, ⟨_, r, _, T, k, won, cs, H6.out, HG.out, by omega, by omega⟩, HB6.out⟩
set_option maxHeartbeats 4000000 in
theorem grows_link {X : IxPred} (C : IxProg X) {w : World} {base x m B S : Nat} {M : Nat → Prop} {r : Nat} {g : Nat → Nat} {T k won : Nat} {cs : Nat → List Nat} (h : IxTw X w base x m B S M r g T k g T won) (G : IxGood B S g T cs) {K : Nat} (hK : K ≤ 900) (hk : k ≤ K) (hwon : won ≤ K) (kd0 sl0 bk0 sp0 old0 : Int) (mi0 : Bool) (hN aN : Nat) (hh : hN < 18446744073709551616)
    {b t : Nat} (hbk : buckN hN (B : Int) = b) (ht : hN / 1125899906842624 = t) (hl : ixLook g (ixSlots (cs b)) t = (3, 0, 0)) (hT : T < S) :
    Calls Try.prog 11 #[.pointer (some ⟨x, 0, none⟩), .pointer (some ⟨m, 0, none⟩), .agg #[.int .i64 kd0, .int .u64 (hN : Int), .int .i64 sl0, .int .u64 old0, .bool mi0, .int .u64 (aN : Int), .int .i64 bk0, .int .i64 sp0]] w fun e w' => e = .returned (.bool true) ∧ IxOk X w' base x m B S (K + 1) ∧ Below base w w' := by
  have hb : b < B := by rw [← hbk]; exact G.buck hN
  have hb1 := (Below.refl w.heap.size w).alloc (Nat.le_refl _) (.cells #[.int .i64 kd0, .int .u64 (hN : Int), .int .i64 sl0, .int .u64 old0, .bool mi0, .int .u64 (aN : Int), .int .i64 bk0, .int .i64 sp0] 34)
  have h1 := h.below C hb1
  have hnM : ¬ M w.heap.size := fun e => by have := C.lt h.p _ e; omega
  obtain ⟨la, HLA⟩ : ∃ la, Hid (ixLast (cs b) = la) := ⟨_, rfl⟩
  have HL := hide (C.look h1.p G (by omega) hN hh b t _ _ _ hbk ht hl)
  have HR : Hid (∀ Z : World, RxIs Z m r B S g T won 0 → _) := fun Z hZ => rx_look hZ hh hbk ht (G.inv.path b hb) (G.len hb) (G.in' hb) (G.words hb) hl
  rw [HLA.out] at HL HR
  simp only [lookV, show ((0 : Nat) : Int) = 0 from rfl, show ((3 : Nat) : Int) = 3 from rfl] at HL HR
  obtain ⟨sN, HSN⟩ : ∃ sN, Hid (B + T = sN) := ⟨_, rfl⟩
  have HN := hide (G.grow hb hT)
  have hla := G.in' hb _ (ixLast_mem (G.inv.path b hb).pos)
  have hlb := G.inv.lt b hb _ (ixLast_mem (G.inv.path b hb).pos)
  have hpw := powB_range G.pow
  have hS64 := G.sp
  have HPC : Hid (∀ (Z : World) (M : Nat → Prop), X Z M x B S g T k → _) := fun Z M hZ => C.spareY hZ G (by omega) hT
  have HRC : Hid (∀ (Z : World), RxIs Z m r B S g T won 0 → _) := fun Z hZ => rx_spare_yes hZ hT
  have HPL : Hid (∀ (Z : World) (M : Nat → Prop), X Z M x B S g (T + 1) k → _) := fun Z M hZ => C.link hZ G (by omega) hT b hb
  have HRL : Hid (∀ (Z : World), RxIs Z m r B S g (T + 1) won 0 → _) := fun Z hZ => rx_link hZ (ixLast (cs b)) (B + T) hla (by omega) (by omega) (by omega) (fun i hi => by have := G.inv.link i hi; omega) (G.inv.zero (B + T) (Nat.le_refl _) (by omega) 7 (by omega)) ((G.inv.path b hb).end) (by omega)
  rw [HSN.out] at HPC HRC
  rw [HLA.out, HSN.out] at HPL HRL HN
  have HG := hide G
  have H1 := hide h1
  have HW := hide h.bs
  have H0 := hide h.q.lt
  clear h G h1 hl hla hlb
  go_enter Try.func11, Try.ntmps11
  go_wp2_with fail
  refine HL.out.mono ?_
  rintro e y ⟨rfl, p1, k1⟩
  obtain ⟨h2, b2⟩ := H1.out.prog p1 k1
  have ca1 := (k1.cell (p := ⟨w.heap.size, 1, none⟩) (by simp) hnM).trans (show (w.alloc (.cells #[.int .i64 kd0, .int .u64 (hN : Int), .int .i64 sl0, .int .u64 old0, .bool mi0, .int .u64 (aN : Int), .int .i64 bk0, .int .i64 sp0] 34)).cell? ⟨w.heap.size, 1, none⟩ = some (.int .u64 (hN : Int)) by simp)
  have ca5 := (k1.cell (p := ⟨w.heap.size, 5, none⟩) (by simp) hnM).trans (show (w.alloc (.cells #[.int .i64 kd0, .int .u64 (hN : Int), .int .i64 sl0, .int .u64 old0, .bool mi0, .int .u64 (aN : Int), .int .i64 bk0, .int .i64 sp0] 34)).cell? ⟨w.heap.size, 5, none⟩ = some (.int .u64 (aN : Int)) by simp)
  have hyl : w.heap.size < y.heap.size := World.block_lt_of_cell? y _ ca1
  have hb2 := (Below.refl y.heap.size y).alloc (Nat.le_refl _) (.cells #[.int .i64 3, .int .i64 0, .int .u64 0, .int .i64 (la : Int)] 46)
  have h3 := h2.below C hb2
  have HB3 : Hid (Below base w (y.alloc (.cells #[.int .i64 3, .int .i64 0, .int .u64 0, .int .i64 (la : Int)] 46))) := ((hb1.mono HW.out).trans b2).alloc h2.bs _
  replace ca1 := cell_alloc ca1 (.cells #[.int .i64 3, .int .i64 0, .int .u64 0, .int .i64 (la : Int)] 46)
  replace ca5 := cell_alloc ca5 (.cells #[.int .i64 3, .int .i64 0, .int .u64 0, .int .i64 (la : Int)] 46)
  have cl0 : (y.alloc (.cells #[.int .i64 3, .int .i64 0, .int .u64 0, .int .i64 (la : Int)] 46)).cell? ⟨y.heap.size, 0, none⟩ = some (.int .i64 3) := by simp
  have cl1 : (y.alloc (.cells #[.int .i64 3, .int .i64 0, .int .u64 0, .int .i64 (la : Int)] 46)).cell? ⟨y.heap.size, 1, none⟩ = some (.int .i64 0) := by simp
  have cl2 : (y.alloc (.cells #[.int .i64 3, .int .i64 0, .int .u64 0, .int .i64 (la : Int)] 46)).cell? ⟨y.heap.size, 2, none⟩ = some (.int .u64 0) := by simp
  have cl3 : (y.alloc (.cells #[.int .i64 3, .int .i64 0, .int .u64 0, .int .i64 (la : Int)] 46)).cell? ⟨y.heap.size, 3, none⟩ = some (.int .i64 (la : Int)) := by simp
  have hal : w.heap.size < (y.alloc (.cells #[.int .i64 3, .int .i64 0, .int .u64 0, .int .i64 (la : Int)] 46)).heap.size := World.block_lt_of_cell? _ _ ca1
  have hll : y.heap.size < (y.alloc (.cells #[.int .i64 3, .int .i64 0, .int .u64 0, .int .i64 (la : Int)] 46)).heap.size := World.block_lt_of_cell? _ _ cl0
  have hMl : ¬ More M (w.alloc (.cells #[.int .i64 kd0, .int .u64 (hN : Int), .int .i64 sl0, .int .u64 old0, .bool mi0, .int .u64 (aN : Int), .int .i64 bk0, .int .i64 sp0] 34)) y y.heap.size := fun e => e.elim (fun e => by have := C.lt H1.out.p _ e; have := k1.size; omega) (fun e => by omega)
  have hMa : ¬ More M (w.alloc (.cells #[.int .i64 kd0, .int .u64 (hN : Int), .int .i64 sl0, .int .u64 old0, .bool mi0, .int .u64 (aN : Int), .int .i64 bk0, .int .i64 sp0] 34)) y w.heap.size := fun e => e.elim hnM (fun e => absurd e.1 (by simp))
  have hRl : ¬ RxOwn m r y.heap.size := fun e => e.elim (fun e => by have := H0.out.1; omega) (fun e => by have := H0.out.2; omega)
  have hRa : ¬ RxOwn m r w.heap.size := fun e => e.elim (fun e => by have := H0.out.1; omega) (fun e => by have := H0.out.2; omega)
  have H3 := hide h3
  clear h2 b2 p1 k1 hb2 h3 HL H1 hb1
  go_wp2_with fail
  generalize hY : y.alloc (.cells #[.int .i64 3, .int .i64 0, .int .u64 0, .int .i64 (la : Int)] 46) = Y at *
  clear hY
  go_region_held3 (fun W => W.cell? ⟨w.heap.size, 1, none⟩ = some (.int .u64 (hN : Int)) ∧ W.cell? ⟨y.heap.size, 0, none⟩ = some (.int .i64 3) ∧ W.cell? ⟨y.heap.size, 1, none⟩ = some (.int .i64 0) ∧ W.cell? ⟨y.heap.size, 2, none⟩ = some (.int .u64 0) ∧ W.cell? ⟨y.heap.size, 3, none⟩ = some (.int .i64 (la : Int))) (first | assumption | go_keep) (first | (go_at_call 35; refine (HR.out _ (H3.out.q.below (below_drewN (Below.refl _ _) 1))).mono ?_; rintro e z ⟨rfl, bz⟩; have bz2 := (below_drewN (Below.refl Y.heap.size Y) 1).trans (bz.mono (Nat.le_refl _)); have H4 := hide (H3.out.below C bz2); have HB4 := hide (HB3.out.trans (bz2.mono H3.out.bs)); have da1 := (bz2.cell (p := ⟨w.heap.size, 1, none⟩) hal).trans ca1; have da5 := (bz2.cell (p := ⟨w.heap.size, 5, none⟩) hal).trans ca5; have dl0 := (bz2.cell (p := ⟨y.heap.size, 0, none⟩) hll).trans cl0; have dl1 := (bz2.cell (p := ⟨y.heap.size, 1, none⟩) hll).trans cl1; have dl2 := (bz2.cell (p := ⟨y.heap.size, 2, none⟩) hll).trans cl2; have dl3 := (bz2.cell (p := ⟨y.heap.size, 3, none⟩) hll).trans cl3; have hal2 := Nat.lt_of_lt_of_le hal bz2.size; have hll2 := Nat.lt_of_lt_of_le hll bz2.size))
  go_wp2_with fail
  refine (HPC.out _ _ H4.out.p).mono ?_
  rintro e z2 ⟨rfl, p, kk⟩
  obtain ⟨h', b'⟩ := H4.out.prog p kk
  have H5 := hide h'
  have HB5 := hide (HB4.out.trans b')
  have el3 := (kk.cell (p := ⟨y.heap.size, 3, none⟩) hll2 hMl).trans dl3
  have hal3 := Nat.lt_of_lt_of_le hal2 kk.size
  have hll3 := Nat.lt_of_lt_of_le hll2 kk.size
  clear p kk h' b'
  go_wp2_with fail
  refine (HRC.out _ H5.out.q).mono ?_
  rintro e z3 ⟨rfl, q, kk⟩
  obtain ⟨h', b'⟩ := H5.out.ref C q kk (.inl rfl)
  have H6 := hide h'
  have HB6 := hide (HB5.out.trans b')
  have fl3 := (kk.cell (p := ⟨y.heap.size, 3, none⟩) hll3 hRl).trans el3
  have hal4 := Nat.lt_of_lt_of_le hal3 kk.size
  have hll4 := Nat.lt_of_lt_of_le hll3 kk.size
  clear q kk h' b'
  go_wp2_with fail
  refine (HPL.out _ _ H6.out.p).mono ?_
  rintro e z4 ⟨rfl, p, kk⟩
  obtain ⟨h', b'⟩ := H6.out.prog p kk
  have H7 := hide h'
  have HB7 := hide (HB6.out.trans b')
  have gl3 := (kk.cell (p := ⟨y.heap.size, 3, none⟩) hll4 (fun e => e.elim hMl (fun e => absurd e.1 (Nat.not_le.2 hll2)))).trans fl3
  have hal5 := Nat.lt_of_lt_of_le hal4 kk.size
  have hll5 := Nat.lt_of_lt_of_le hll4 kk.size
  clear p kk h' b'
  go_wp2_with fail
  refine (HRL.out _ H7.out.q).mono ?_
  rintro e z5 ⟨rfl, q, kk⟩
  obtain ⟨h', b'⟩ := H7.out.ref C q kk (.inl rfl)
  have H8 := hide h'
  have HB8 := hide (HB7.out.trans b')
  clear q kk h' b'
  go_wp2
  go_ret
  exact ⟨ret_bool (by simp), ⟨_, r, _, T + 1, k + 1, won + 1, _, H8.out, HN.out, by omega, by omega⟩, HB8.out⟩
end Go.Proofs.Ytmpnbaiolmkhlaa
