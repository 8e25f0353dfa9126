/- Package pages at a nil buffer; the chapter's example (awake); calls as arguments. -/
import Derived.Test.YtkikfbndcaojjaaPc
import Derived.Deep.Slices
import Derived.ChangeArms
import Derived.ChangeSame
import Derived.OpenShut
import Derived.ProofKit
namespace Go.Proofs.Ytkikfbndcaojjaa
open Go.ChangeShapes Go.WideShapes Go.ChangeAt Go.RowKit
theorem pn_bits (w : World) : Calls Try.prog 13 #[.pointer none] w fun e w' => e = .returned (.int .i64 0) ∧ w' = w := by
  go_enter Try.func13, Try.ntmps13
  go_wp2
  go_ret
  exact ⟨rfl, rfl⟩
theorem pn_frames (w : World) : Calls Try.prog 14 #[.pointer none] w fun e w' => e = .returned (.int .i64 0) ∧ w' = w := by
  go_enter Try.func14, Try.ntmps14
  go_wp2
  go_ret
  exact ⟨rfl, rfl⟩
theorem pn_row (p : Int) (w : World) : Calls Try.prog 30 #[.pointer none, .int .i64 p] w fun e w' => e = .returned (.tuple #[.pointer none, .int .i64 2]) ∧ w' = w := by
  go_enter Try.func30, Try.ntmps30
  go_wp2
  go_ret2
  exact ⟨rfl, rfl⟩
theorem pn_has (p : Int) (w : World) : Calls Try.prog 11 #[.pointer none, .int .i64 p] w fun e w' => e = .returned (.bool false) ∧ w' = w := by
  go_enter Try.func11, Try.ntmps11
  go_wp2_with fail
  refine (pn_row p _).mono ?_
  rintro e x ⟨rfl, rfl⟩
  go_wp2
  go_ret
  exact ⟨rfl, rfl⟩
theorem pn_open (p : Int) (w : World) : Calls Try.prog 15 #[.pointer none, .int .i64 p] w fun e w' => e = .returned (.int .i64 2) ∧ w' = w := by
  go_enter Try.func15, Try.ntmps15
  go_wp2
  go_ret
  exact ⟨rfl, rfl⟩
theorem pn_close (p : Int) (w : World) : Calls Try.prog 16 #[.pointer none, .int .i64 p] w fun e w' => e = .returned (.int .i64 2) ∧ w' = w := by
  go_enter Try.func16, Try.ntmps16
  go_wp2_with fail
  refine (pn_row p _).mono ?_
  rintro e x ⟨rfl, rfl⟩
  go_wp2
  go_ret
  exact ⟨rfl, rfl⟩
theorem pn_in (w : World) : Calls Try.prog 10 #[.pointer none] w fun e w' => e = .returned (.slice none 0 0) ∧ w' = w := by
  go_enter Try.func10, Try.ntmps10
  go_wp2
  go_ret
  exact ⟨rfl, rfl⟩
theorem pn_at (a : Nat) (ha : a < 18446744073709551616) (w : World) : Calls Try.prog 36 #[.pointer none, .int .u64 (a : Int)] w fun e w' => e = .returned (.tuple #[.pointer none, .int .i64 2]) ∧ Below w.heap.size w w' := by
  go_enter Try.func36, Try.ntmps36
  go_wp2_with fail
  refine (pn_bits _).mono ?_
  rintro e x ⟨rfl, rfl⟩
  go_wp2_with fail
  refine (page_any 0 a _ ha).mono ?_
  rintro e x1 ⟨rfl, b1⟩
  go_wp2_with fail
  refine (pn_row _ _).mono ?_
  rintro e x2 ⟨rfl, rfl⟩
  go_wp2
  go_ret2
  exact ⟨rfl, b1⟩
theorem pn_some (a : Nat) (ha : a < 18446744073709551616) (k : Int) (w : World) : Calls Try.prog 40 #[.pointer none, .int .u64 (a : Int), .int .i64 k] w fun e w' => e = .returned (.tuple #[.pointer none, .int .i64 2]) ∧ Below w.heap.size w w' := by
  go_enter Try.func40, Try.ntmps40
  go_wp2_with fail
  refine (pn_at a ha _).mono ?_
  rintro e x ⟨rfl, b1⟩
  go_wp2
  go_ret2
  exact ⟨rfl, b1⟩
theorem pn_load (a : Nat) (ha : a < 18446744073709551616) (w : World) : Calls Try.prog 20 #[.pointer none, .int .u64 (a : Int)] w fun e w' => e = .returned (.tuple #[.int .u64 0, .int .i64 2]) ∧ Below w.heap.size w w' := by
  go_enter Try.func20, Try.ntmps20
  go_wp2_with fail
  refine (pn_at a ha _).mono ?_
  rintro e x ⟨rfl, b1⟩
  go_wp2
  go_ret2
  exact ⟨rfl, b1⟩
theorem pn_store (a : Nat) (ha : a < 18446744073709551616) (y : Int) (w : World) : Calls Try.prog 23 #[.pointer none, .int .u64 (a : Int), .int .u64 y] w fun e w' => e = .returned (.int .i64 2) ∧ Below w.heap.size w w' := by
  go_enter Try.func23, Try.ntmps23
  go_wp2_with fail
  refine (pn_at a ha _).mono ?_
  rintro e x ⟨rfl, b1⟩
  go_wp2
  go_ret
  exact ⟨rfl, b1⟩
theorem pn_cas (a : Nat) (ha : a < 18446744073709551616) (x y : Int) (w : World) : Calls Try.prog 21 #[.pointer none, .int .u64 (a : Int), .int .u64 x, .int .u64 y] w fun e w' => e = .returned (.tuple #[.bool false, .int .i64 2]) ∧ Below w.heap.size w w' := by
  go_enter Try.func21, Try.ntmps21
  go_wp2_with fail
  refine (pn_at a ha _).mono ?_
  rintro e x ⟨rfl, b1⟩
  go_wp2
  go_ret2
  exact ⟨rfl, b1⟩
theorem pn_words (a : Nat) (ha : a < 18446744073709551616) (k : Int) (w : World) : Calls Try.prog 22 #[.pointer none, .int .u64 (a : Int), .int .i64 k] w fun e w' => e = .returned (.tuple #[.slice none 0 0, .int .i64 2]) ∧ Below w.heap.size w w' := by
  go_enter Try.func22, Try.ntmps22
  go_wp2_with fail
  refine (pn_some a ha k _).mono ?_
  rintro e x ⟨rfl, b1⟩
  go_wp2
  go_ret2
  exact ⟨rfl, b1⟩
theorem pn_fill (a : Nat) (ha : a < 18446744073709551616) (ao : Option Addr) (k cap : Nat) (w : World) : Calls Try.prog 24 #[.pointer none, .int .u64 (a : Int), .slice ao k cap] w fun e w' => e = .returned (.int .i64 2) ∧ Below w.heap.size w w' := by
  go_enter Try.func24, Try.ntmps24
  go_wp2_with fail
  refine (pn_some a ha _ _).mono ?_
  rintro e x ⟨rfl, b1⟩
  go_wp2
  go_ret
  exact ⟨rfl, b1⟩
theorem pn_page (p : Int) (w : World) : Calls Try.prog 17 #[.pointer none, .int .i64 p] w fun e w' => e = .returned (.tuple #[.slice none 0 0, .int .i64 2]) ∧ w' = w := by
  go_enter Try.func17, Try.ntmps17
  go_wp2_with fail
  refine (pn_row p _).mono ?_
  rintro e x ⟨rfl, rfl⟩
  go_wp2
  go_ret2
  exact ⟨rfl, rfl⟩
/-- The chapter's example. -/
theorem awake12s (w : World) : Calls Try.prog 6 #[] w fun e w' => e = .returned (.bool true) ∧ Below w.heap.size w w' ∧ w.heap.size < w'.heap.size := by
  go_enter Try.func6, Try.ntmps6
  go_wp2_with fail
  refine (pb_new_yes 5 2 (by decide) (by decide) _).mono ?_
  rintro e x1 ⟨t, rfl, ⟨fb1, g1, o1, h1⟩, b1⟩
  have e1 := b1.size
  have L1 : Hid (w.heap.size < x1.heap.size) := Nat.lt_of_le_of_lt h1.st.1 h1.st.2
  go_wp2_with fail
  refine (pb_open_yes h1 0 (by decide) rfl (fun k hk => hk.2)).mono ?_
  rintro e x2 ⟨rfl, ⟨fb2, g2, o2, h2⟩, k2⟩
  have L2 : Hid (w.heap.size < x2.heap.size) := Nat.lt_of_lt_of_le L1.out k2.size
  have s2 := more_in (w := x1) (w' := x2) (B := w.heap.size) (fun k hk => hk) e1 k2.size
  have b2 : Below w.heap.size w x2 := b1.trans (k2.below e1 (fun k hk => hk.1))
  have e2 := b2.size
  clear h1 k2
  go_wp2_with fail
  refine (pb_open_yes h2 1 (by decide) rfl (fun k hk => (s2 k hk).2)).mono ?_
  rintro e x3 ⟨rfl, ⟨fb3, g3, o3, h3⟩, k3⟩
  have L3 : Hid (w.heap.size < x3.heap.size) := Nat.lt_of_lt_of_le L2.out k3.size
  have s3 := more_in (w := x2) (w' := x3) (B := w.heap.size) (fun k hk => s2 k hk) e2 k3.size
  have b3 : Below w.heap.size w x3 := b2.trans (k3.below e2 (fun k hk => (s2 k hk).1))
  have e3 := b3.size
  clear h2 k3
  go_wp2_with fail
  refine (pb_open_busy h3 2 (by decide) 0 _ rfl (by decide)).mono ?_
  rintro e x4 ⟨rfl, b4⟩
  replace h3 := h3.below b4
  have L4 : Hid (w.heap.size < x4.heap.size) := Nat.lt_of_lt_of_le L3.out b4.size
  have z4 := b4.size
  replace b4 := b3.trans (b4.mono e3)
  have e4 := b4.size
  go_wp2_with fail
  refine (pb_close_yes h3 0 _ rfl).mono ?_
  rintro e x5 ⟨rfl, ⟨fb5, g5, o5, h5⟩, k5⟩
  have b5 : Below w.heap.size w x5 := b4.trans (k5.below e4 (fun k hk => (s3 k hk).1))
  have e5 := b5.size
  have z5 := k5.size
  have L5 : Hid (w.heap.size < x5.heap.size) := Nat.lt_of_lt_of_le L4.out k5.size
  clear h3 k5
  go_wp2_with fail
  refine (pb_open_yes h5 2 (by decide) rfl (fun k hk => by have := (s3 k hk).2; omega)).mono ?_
  rintro e x6 ⟨rfl, -, k6⟩
  have b6 : Below w.heap.size w x6 := b5.trans (k6.below e5 (fun k hk => (s3 k hk).1))
  have L6 : Hid (w.heap.size < x6.heap.size) := Nat.lt_of_lt_of_le L5.out k6.size
  clear h5 k6
  go_wp2
  go_ret
  exact ⟨rfl, b6, L6.out⟩
theorem awake12 (w : World) : Calls Try.prog 6 #[] w fun e w' => e = .returned (.bool true) ∧ Below w.heap.size w w' := (awake12s w).mono (fun _ _ h => ⟨h.1, h.2.1⟩)
/-- A call. -/
structure AcP where
  kd : Int
  pg : Int
  a : Nat
  n : Int
  old : Int
  wd : Int
  lo : Option Addr
  ll : Nat
  lc : Nat
  z : Nat → Int
instance : Inhabited AcP := ⟨⟨0, 0, 0, 0, 0, 0, none, 0, 0, fun _ => 0⟩⟩
def AcP.cells (x : AcP) : List Value := [.int .i64 x.kd, .int .i64 x.pg, .int .u64 (x.a : Int), .int .i64 x.n, .int .u64 x.old, .int .u64 x.wd, .slice x.lo x.ll x.lc]
/-- What is told of a call in the world that it came in. -/
structure AcPOk (w : World) (x : AcP) : Prop where
  pg : -9223372036854775808 ≤ x.pg ∧ x.pg ≤ 9223372036854775807
  a : x.a < 18446744073709551616
  n : -9223372036854775808 ≤ x.n ∧ x.n ≤ 9223372036854775807
  ll : x.ll ≤ 9223372036854775807
  sl : Sl .u64 w x.lo x.ll x.z
theorem pint_cells : Try.prog.cellsOf 3 = 1 := by kernel_rfl
theorem pu64_cells : Try.prog.cellsOf 32 = 1 := by kernel_rfl
theorem pu64s_cells : Try.prog.cellsOf 33 = 1 := by kernel_rfl
theorem pact_cells : Try.prog.cellsOf 35 = 7 := by kernel_rfl
theorem list7 {α : Type} {l : List α} (h : l.length = 7) : ∃ a b c d e f g, l = [a, b, c, d, e, f, g] := by
  match l, h with
  | [a, b, c, d, e, f, g], _ => exact ⟨a, b, c, d, e, f, g, rfl⟩
theorem words_of_trod {H : Type} {enc : TypeId × Value → H} {W : World} {base : Nat} {fuel : Nat} {v : Value} {x : DataW H × List MemPlace}
    (h : DataW.trod enc Try.prog W base (fun _ => true) true fuel 33 [v] = some x) : ∃ (po : Option Addr) (np pc : Nat) (z : Nat → Int), v = .slice po np pc ∧ np ≤ 9223372036854775807 ∧ Sl .u64 W po np z := by
  rcases Go.Deep.open_slice1 Try.underlying33 pu64_cells h with ⟨hcs, _⟩ | ⟨a, l, c, m, n, V, D, Pl, hcs, _, hl, hm, hmm, _, hc⟩
  · simp only [List.cons.injEq, and_true] at hcs
    exact ⟨none, 0, 0, fun _ => 0, hcs, by decide, fun j hj => by omega⟩
  · simp only [List.cons.injEq, and_true] at hcs
    simp only [if_true] at hmm
    subst hmm
    obtain ⟨b, off, spot⟩ := a
    have hone : ∀ i, i < m → W.cell? (Addr.add ⟨b, off, spot⟩ i) = some (.int .u64 (intOf (V i))) := by
      intro i hi
      obtain ⟨h1, h2⟩ := hc i hi
      obtain ⟨z, e, _, hwf⟩ := DataW.trod_int Try.underlying32 h2
      simp only [List.cons.injEq, and_true] at e
      rw [h1, e]
      rfl
    by_cases h0 : l = 0
    · subst h0
      exact ⟨_, _, _, fun _ => 0, hcs, by decide, fun j hj => by omega⟩
    · have hspot : spot = none := by simpa [Addr.add] using World.cell?_spot (hone 0 (by omega))
      subst hspot
      refine ⟨_, _, _, fun j => intOf (V j), hcs, by unfold maxLen at hm; omega, fun j hj => ⟨b, off, rfl, ?_⟩⟩
      have := hone j (by omega)
      rw [Go.WideShapes.add_plain] at this
      exact this
theorem pact_of_trod {H : Type} {enc : TypeId × Value → H} {W : World} {base : Nat} {fuel : Nat} {cs : List Value} {x : DataW H × List MemPlace}
    (h : DataW.trod enc Try.prog W base (fun _ => true) true fuel 35 cs = some x) (hl : cs.length = 7) : ∃ a : AcP, AcPOk W a ∧ cs = a.cells := by
  obtain ⟨c0, c1, c2, c3, c4, c5, c6, rfl⟩ := list7 hl
  obtain ⟨xs, m, _, hx, _, hlen, hfs⟩ := DataW.trod_struct Try.underlying35 h
  obtain ⟨y0, y1, y2, y3, y4, y5, y6, rfl⟩ := list7 (l := xs) hlen
  have f0 := hfs 0 _ rfl
  have f1 := hfs 1 _ rfl
  have f2 := hfs 2 _ rfl
  have f3 := hfs 3 _ rfl
  have f4 := hfs 4 _ rfl
  have f5 := hfs 5 _ rfl
  have f6 := hfs 6 _ rfl
  simp [pint_cells] at f0 f1 f3
  simp [pu64_cells] at f2 f4 f5
  simp [pu64s_cells] at f6
  obtain ⟨kd, e0, _, _⟩ := DataW.trod_int Try.underlying3 f0
  obtain ⟨pg, e1, _, w1⟩ := DataW.trod_int Try.underlying3 f1
  obtain ⟨a, e2, _, w2⟩ := DataW.trod_int Try.underlying32 f2
  obtain ⟨n, e3, _, w3⟩ := DataW.trod_int Try.underlying3 f3
  obtain ⟨old, e4, _, _⟩ := DataW.trod_int Try.underlying32 f4
  obtain ⟨wd, e5, _, _⟩ := DataW.trod_int Try.underlying32 f5
  obtain ⟨po, np, pc, z, e6, hnp, hsl⟩ := words_of_trod f6
  cases e0; cases e1; cases e2; cases e3; cases e4; cases e5; cases e6
  obtain ⟨A, rfl, hA⟩ := nat_of_wf w2
  have := bounds_i64 w1
  have := bounds_i64 w3
  exact ⟨⟨kd, pg, A, n, old, wd, po, np, pc, z⟩, ⟨by omega, hA, by omega, hnp, hsl⟩, rfl⟩
/-- A call as an argument. -/
def IsActP (w : World) (v : Value) : Prop := ∃ x : AcP, AcPOk w x ∧ v = .agg #[.int .i64 x.kd, .int .i64 x.pg, .int .u64 (x.a : Int), .int .i64 x.n, .int .u64 x.old, .int .u64 x.wd, .slice x.lo x.ll x.lc]
set_option maxRecDepth 100000 in
theorem open_act12 {H : Type} {enc : TypeId × Value → H} {W : World} {base : Nat} {v : Value} {d : DataW H} {p : List MemPlace} (hv : Value.okWide Try.prog W .any base 35 v)
    (h : DataW.Trod enc Try.prog W 0 (fun _ => true) true 35 v d p) : IsActP W v := by
  obtain ⟨cs, rfl, hsz⟩ := okWide_struct Try.underlying35 hv
  rw [pact_cells] at hsz
  obtain ⟨l⟩ := cs
  obtain ⟨fuel, hf⟩ := h
  obtain ⟨x, hx, e⟩ := pact_of_trod (cs := l) (by simpa [Value.cells] using hf) (by simpa using hsz)
  exact ⟨x, hx, by rw [e]; rfl⟩
/-- A call in memory. -/
structure ActAt (w : World) (b off : Nat) (x : AcP) : Prop where
  c0 : w.cell? ⟨b, off, none⟩ = some (.int .i64 x.kd)
  c1 : w.cell? ⟨b, off + 1, none⟩ = some (.int .i64 x.pg)
  c2 : w.cell? ⟨b, off + 2, none⟩ = some (.int .u64 (x.a : Int))
  c3 : w.cell? ⟨b, off + 3, none⟩ = some (.int .i64 x.n)
  c4 : w.cell? ⟨b, off + 4, none⟩ = some (.int .u64 x.old)
  c5 : w.cell? ⟨b, off + 5, none⟩ = some (.int .u64 x.wd)
  c6 : w.cell? ⟨b, off + 6, none⟩ = some (.slice x.lo x.ll x.lc)
theorem ActAt.lt {w : World} {b off : Nat} {x : AcP} (h : ActAt w b off x) : b < w.heap.size := World.block_lt_of_cell? w _ h.c0
theorem ActAt.keep {w w' : World} {b off : Nat} {x : AcP} {T : Nat → Prop} (h : ActAt w b off x) (hk : Keeps T w w') (hb : ¬ T b) : ActAt w' b off x :=
  ⟨by rw [hk.cell h.lt hb]; exact h.c0, by rw [hk.cell h.lt hb]; exact h.c1, by rw [hk.cell h.lt hb]; exact h.c2, by rw [hk.cell h.lt hb]; exact h.c3, by rw [hk.cell h.lt hb]; exact h.c4, by rw [hk.cell h.lt hb]; exact h.c5, by rw [hk.cell h.lt hb]; exact h.c6⟩
theorem ActAt.below {w w' : World} {b off : Nat} {x : AcP} (h : ActAt w b off x) (hb : Below w.heap.size w w') : ActAt w' b off x := h.keep (Below.keeps (S := fun _ => False) hb) id
/-- A slice of calls that is read. -/
def ActsP (w : World) (ao : Option Addr) (n : Nat) (z : Nat → AcP) : Prop := ∀ j, j < n → AcPOk w (z j) ∧ ∃ b off, ao = some ⟨b, off, none⟩ ∧ ActAt w b (off + j * 7) (z j)
theorem AcPOk.below {w w' : World} {x : AcP} (h : AcPOk w x) (hb : Below w.heap.size w w') : AcPOk w' x := ⟨h.pg, h.a, h.n, h.ll, h.sl.below hb⟩
def IsActsP (w : World) (v : Value) : Prop := ∃ ao len cap z, v = .slice ao len cap ∧ len ≤ 9223372036854775807 ∧ ActsP w ao len z
set_option maxRecDepth 100000 in
theorem open_acts12 {H : Type} {enc : TypeId × Value → H} {W : World} {base : Nat} {v : Value} {d : DataW H} {p : List MemPlace} (hv : Value.okWide Try.prog W .any base 22 v)
    (h : DataW.Trod enc Try.prog W 0 (fun _ => true) true 22 v d p) : IsActsP W v := by
  obtain ⟨ao, len, cap, rfl⟩ := okWide_slice Try.underlying22 hv
  obtain ⟨fuel, hf⟩ := h
  rcases Go.Deep.open_slice Try.underlying22 hf with ⟨hcs, _⟩ | ⟨a, l, c, m, n, D, Pl, hcs, _, hl, hm, hmm, _, hc⟩
  · simp [Value.cells] at hcs
    obtain ⟨rfl, rfl, rfl⟩ := hcs
    exact ⟨_, _, _, fun _ => default, rfl, by decide, fun j hj => by omega⟩
  · simp [Value.cells] at hcs
    obtain ⟨rfl, rfl, rfl⟩ := hcs
    simp only [if_true] at hmm
    subst hmm
    rw [pact_cells] at hc
    obtain ⟨b, off, spot⟩ := a
    have hone : ∀ i, i < m → ∃ z : AcP, AcPOk W z ∧ W.cell? ((Addr.add ⟨b, off, spot⟩ (i * 7)).add 0) = some (.int .i64 z.kd) ∧ W.cell? ((Addr.add ⟨b, off, spot⟩ (i * 7)).add 1) = some (.int .i64 z.pg) ∧ W.cell? ((Addr.add ⟨b, off, spot⟩ (i * 7)).add 2) = some (.int .u64 (z.a : Int)) ∧ W.cell? ((Addr.add ⟨b, off, spot⟩ (i * 7)).add 3) = some (.int .i64 z.n) ∧ W.cell? ((Addr.add ⟨b, off, spot⟩ (i * 7)).add 4) = some (.int .u64 z.old) ∧ W.cell? ((Addr.add ⟨b, off, spot⟩ (i * 7)).add 5) = some (.int .u64 z.wd) ∧ W.cell? ((Addr.add ⟨b, off, spot⟩ (i * 7)).add 6) = some (.slice z.lo z.ll z.lc) := by
      intro i hi
      obtain ⟨cs', h1, h2⟩ := hc i hi
      obtain ⟨_, hlen, hget⟩ := World.cells?_some h1
      obtain ⟨z, hz, rfl⟩ := pact_of_trod h2 hlen
      exact ⟨z, hz, hget 0 (by decide), hget 1 (by decide), hget 2 (by decide), hget 3 (by decide), hget 4 (by decide), hget 5 (by decide), hget 6 (by decide)⟩
    by_cases h0 : len = 0
    · subst h0
      exact ⟨_, _, _, fun _ => default, rfl, by decide, fun j hj => by omega⟩
    · have hspot : spot = none := by
        obtain ⟨z, _, h1, _⟩ := hone 0 (by omega)
        simpa [Addr.add] using World.cell?_spot h1
      subst hspot
      obtain ⟨z, hz⟩ := Go.Deep.choose_lt hone
      refine ⟨_, _, _, z, rfl, by unfold maxLen at hm; omega, fun j hj => ?_⟩
      obtain ⟨k0, k1⟩ := hz j (by omega)
      refine ⟨k0, b, off, rfl, ?_⟩
      simp only [Go.WideShapes.add_plain, Nat.add_zero] at k1
      obtain ⟨a0, a1, a2, a3, a4, a5, a6⟩ := k1
      exact ⟨a0, a1, a2, a3, a4, a5, a6⟩
end Go.Proofs.Ytkikfbndcaojjaa
