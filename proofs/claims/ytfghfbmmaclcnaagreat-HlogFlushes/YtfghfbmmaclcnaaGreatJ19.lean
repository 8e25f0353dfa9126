/- Parts of the proof: Va Vb. -/
import Derived.Test.YtfghfbmmaclcnaaGreatJ2
import Derived.Test.YtfghfbmmaclcnaaGreatJ5
import Derived.Test.YtfghfbmmaclcnaaGreatJ7
import Derived.Test.YtfghfbmmaclcnaaGreatJ8
import Derived.Test.YtfghfbmmaclcnaaGreatJ9
import Derived.Test.YtfghfbmmaclcnaaGreatJ13
import Derived.Test.YtfghfbmmaclcnaaGreatJ18
namespace Go.Proofs.YtfghfbmmaclcnaaGreat
set_option maxRecDepth 20000
/-- A write of a page by Flush: its ticket, its page, and whether it landed. -/
structure Fy where
  t : Int
  p : Int
  l : Bool
/-- What a log was made with. -/
structure Cf where
  b : Int
  n : Nat
  sp : Nat
  ns : Nat
structure CfOk (c : Cf) : Prop where
  hb : 5 ≤ c.b ∧ c.b ≤ 9
  hn : 2 ≤ c.n ∧ c.n ≤ 8
  hs : 1 ≤ c.sp ∧ c.sp ≤ 64
  he : 1 ≤ c.ns ∧ c.ns ≤ 8
/-- A log. -/
structure Hs where
  P : Nat
  O : Nat
  m : Nat → Nat
  now : Nat
  v : Nat → Nat
  due : List A3
  dv : Dv
  F : Nat → Option Pg
  L : List Fy
def flyF (L : List Fy) (t : Int) : Option Int := (L.find? fun y => decide (y.t = t) && !y.l).map Fy.p
def lanF (L : List Fy) (a : Nat) (t : Int) : Option Int := (L.find? fun y => decide (y.t = t) && (y.l && decide ((a : Int) ≤ y.p))).map Fy.p
def isL (L : List Fy) (p : Int) (l : Bool) : Bool := L.any fun y => decide (y.p = p) && (y.l == l)
def sentB (L : List Fy) (p : Int) : Bool := isL L p true || isL L p false
theorem isL_iff {L : List Fy} {p : Int} {l : Bool} : isL L p l = true ↔ ∃ y ∈ L, y.p = p ∧ y.l = l := by
  unfold isL
  rw [List.any_eq_true]
  constructor
  · rintro ⟨y, hy, h⟩
    rw [Bool.and_eq_true] at h
    exact ⟨y, hy, of_decide_eq_true h.1, by simpa using h.2⟩
  · rintro ⟨y, hy, h1, h2⟩
    exact ⟨y, hy, by simp [h1, h2]⟩
theorem sentB_iff {L : List Fy} {p : Int} : sentB L p = true ↔ ∃ y ∈ L, y.p = p := by
  unfold sentB
  rw [Bool.or_eq_true, isL_iff, isL_iff]
  constructor
  · rintro (⟨y, hy, h, -⟩ | ⟨y, hy, h, -⟩) <;> exact ⟨y, hy, h⟩
  · rintro ⟨y, hy, h⟩
    cases e : y.l
    · exact .inr ⟨y, hy, h, e⟩
    · exact .inl ⟨y, hy, h, e⟩
theorem find_tk {L : List Fy} (h : L.Pairwise (fun x y => x.t < y.t)) (q : Fy → Bool) (t p : Int) : ((L.find? fun y => decide (y.t = t) && q y).map Fy.p = some p) ↔ ∃ y ∈ L, y.t = t ∧ q y = true ∧ y.p = p := by
  constructor
  · intro e
    obtain ⟨y, hy, rfl⟩ := Option.map_eq_some_iff.1 e
    have h1 := List.find?_some hy
    rw [Bool.and_eq_true] at h1
    exact ⟨y, List.mem_of_find?_eq_some hy, of_decide_eq_true h1.1, h1.2, rfl⟩
  · rintro ⟨y, hy, rfl, hq, rfl⟩
    induction L with
    | nil => simp at hy
    | cons x L ih =>
      rw [List.pairwise_cons] at h
      rcases List.mem_cons.1 hy with rfl | hy'
      · simp [hq]
      · have := h.1 y hy'
        have hne : ¬ x.t = y.t := by omega
        simp only [List.find?_cons, hne, decide_false, Bool.false_and]
        exact ih h.2 hy'
theorem flyF_some {L : List Fy} (h : L.Pairwise (fun x y => x.t < y.t)) {t p : Int} : flyF L t = some p ↔ ∃ y ∈ L, y.t = t ∧ y.l = false ∧ y.p = p := by
  unfold flyF
  rw [find_tk h (fun y => !y.l) t p]
  simp
theorem lanF_some {L : List Fy} (h : L.Pairwise (fun x y => x.t < y.t)) {a : Nat} {t p : Int} : lanF L a t = some p ↔ ∃ y ∈ L, y.t = t ∧ y.l = true ∧ (a : Int) ≤ p ∧ y.p = p := by
  unfold lanF
  rw [find_tk h (fun y => y.l && decide ((a : Int) ≤ y.p)) t p]
  constructor
  · rintro ⟨y, hy, h1, h2, rfl⟩
    rw [Bool.and_eq_true] at h2
    exact ⟨y, hy, h1, h2.1, of_decide_eq_true h2.2, rfl⟩
  · rintro ⟨y, hy, h1, h2, h3, rfl⟩
    exact ⟨y, hy, h1, by simp [h2, h3], rfl⟩
theorem opt_ext {α : Type} {a b : Option α} (h : ∀ x, a = some x ↔ b = some x) : a = b := by
  cases a with
  | none =>
    cases b with
    | none => rfl
    | some x => exact absurd ((h x).2 rfl) (by simp)
  | some x => exact ((h x).1 rfl).symm
/-- What is needed for the next page. -/
def needN (c : Cf) (s : Hs) : Nat := s.P + 2 - c.n
def safeN (c : Cf) (s : Hs) : Nat := leastN s.now s.v c.ns - 1
/-- Settling. -/
def settleM (P : Nat) (m : Nat → Nat) (l : List A3) : Nat → Nat := l.foldl (fun m a => raiseV m (if a.k = 1 then 1 else 4) a.p (P : Int)) m
def settleN (c : Cf) (s : Hs) : Nat := (readyL (safeN c s : Int) s.due).length
def settleS (c : Cf) (s : Hs) : Hs := { s with m := settleM s.P s.m (readyL (safeN c s : Int) s.due), due := restL (safeN c s : Int) s.due }
/-- Shifting. -/
def shiftE (s : Hs) (mk page : Int) : Int := if 16 ≤ s.due.length then 9 else raiseE s.m mk page s.P
def bumpS (s : Hs) (mk kd page : Int) : Hs := { s with m := raiseV s.m mk page s.P, now := s.now + 1, due := s.due ++ [⟨(s.now : Int), kd, page⟩] }
def shiftS (c : Cf) (s : Hs) (mk kd page : Int) : Hs := if shiftE s mk page = 0 then settleS c (bumpS s mk kd page) else s
/-- Flushing. -/
def pgW (c : Cf) (s : Hs) (p : Int) : Option (Nat → Int) := if p < 0 then none else match s.F (p.toNat % c.n) with
  | some x => if x.1 = p.toNat then some x.2 else none
  | none => none
def txt (c : Cf) (p : Nat) (v : Nat → Int) : ByteArray := strL (frT p (listN (fun j => (v j).toNat) (sizeN c.b)))
def flushE (c : Cf) (s : Hs) (p : Int) : Int := if p < 0 then 1 else if p < (s.m 2 : Int) ∨ sentB s.L p = true then 8 else if (s.m 1 : Int) ≤ p then 13 else match pgW c s p with
  | some v => askE s.dv (0, p) true (txt c p.toNat v)
  | none => 7
def flushT (c : Cf) (s : Hs) (p : Int) : Int := if flushE c s p = 0 then (s.dv.jobs.length : Int) + 1 else 0
def flushS (c : Cf) (s : Hs) (p : Int) : Hs := if flushE c s p = 0 then (match pgW c s p with
  | some v => { s with dv := askD s.dv (0, p) true (txt c p.toNat v), L := s.L ++ [⟨(s.dv.jobs.length : Int) + 1, p, false⟩] }
  | none => s) else s
/-- The first page from a on that wasn't sent, of so many. -/
def firstU (L : List Fy) (a : Nat) : Nat → Nat
  | 0 => a
  | f + 1 => if sentB L (a : Int) = true then firstU L (a + 1) f else a
/-- Helping. -/
def helpR (c : Cf) (s : Hs) : Bool × Hs :=
  if c.sp ≤ s.P + 1 then (false, s)
  else if needN c s ≤ s.m 3 then (false, s)
  else if needN c s ≤ s.m 2 then (decide (shiftE s 3 (needN c s : Int) = 0), shiftS c s 3 2 (needN c s : Int))
  else if needN c s ≤ s.m 1 then
    (if firstU s.L (s.m 2) (needN c s - s.m 2) < needN c s then (decide (flushE c s (firstU s.L (s.m 2) (needN c s - s.m 2) : Nat) = 0), flushS c s (firstU s.L (s.m 2) (needN c s - s.m 2) : Nat)) else (false, s))
  else if s.m 0 < needN c s then (decide (shiftE s 0 (needN c s : Int) = 0), shiftS c s 0 1 (needN c s : Int))
  else (false, s)
/-- Going on. -/
def nextS (c : Cf) (s : Hs) : Hs := { s with F := updF s.F ((s.P + 1) % c.n) (some (s.P + 1, fun _ => 0)), P := s.P + 1, O := 0 }
def goE (c : Cf) (s : Hs) : Int := if c.sp ≤ s.P + 1 then 9 else if s.m 4 < needN c s then 11 else 0
def goS (c : Cf) (s : Hs) : Hs := if c.sp ≤ s.P + 1 then s else if s.m 4 < needN c s then (helpR c s).2 else nextS c s
def turnHE (c : Cf) (s : Hs) : Int := if s.O ≤ sizeN c.b then 7 else goE c s
def turnHS (c : Cf) (s : Hs) : Hs := if s.O ≤ sizeN c.b then s else goS c s
def closeHE (c : Cf) (s : Hs) : Int := if s.O = 0 then 0 else goE c s
def closeHS (c : Cf) (s : Hs) : Hs := if s.O = 0 then s else goS c s
/-- Landing. -/
def tookB (d : Dv) (y : Fy) : Bool := !y.l && decide (takeE d y.t = 0)
def landY (d : Dv) (y : Fy) : Fy := if tookB d y = true then { y with l := true } else y
def landL (d : Dv) (L : List Fy) : List Fy := L.map (landY d)
def landD (d : Dv) (L : List Fy) : Dv := L.foldl (fun d y => if y.l = true then d else takeD d y.t) d
def landN (d : Dv) (L : List Fy) : Nat := (L.filter (tookB d)).length
def upTo (L : List Fy) (a : Nat) : Nat → Nat
  | 0 => a
  | f + 1 => if isL L (a : Int) true = true then upTo L (a + 1) f else a
def landS (s : Hs) : Hs := { s with L := landL s.dv s.L, dv := landD s.dv s.L, m := upM s.m 2 (upTo (landL s.dv s.L) (s.m 2) 64) }
/-- What holds of every log. -/
structure Wf (c : Cf) (s : Hs) (k : Nat) : Prop where
  ord : OrdM s.m
  top : s.m 0 ≤ s.P
  hp : s.P < c.sp
  win : s.P < s.m 4 + c.n
  pg : ∀ p : Nat, (∃ v, s.F (p % c.n) = some (p, v)) ↔ (p ≤ s.P ∧ s.P < p + c.n)
  wd : ∀ i p v, i < c.n → s.F i = some (p, v) → ∀ j, j < sizeN c.b → 0 ≤ v j ∧ v j < 18446744073709551616
  off : s.dv.off = false
  tks : s.L.Pairwise (fun x y => x.t < y.t)
  tk : ∀ y ∈ s.L, 1 ≤ y.t ∧ y.t ≤ s.dv.jobs.length
  pgs : s.L.Pairwise (fun x y => x.p ≠ y.p)
  pl : ∀ y ∈ s.L, 0 ≤ y.p ∧ y.p < (s.m 1 : Int)
  fly : ∀ y ∈ s.L, y.l = false → ∃ j, jobAt s.dv.jobs y.t = some j ∧ (j.st = 0 ∨ j.st = 1) ∧ j.no = false ∧ j.wr = true
  fp : ∀ y ∈ s.L, y.l = false → (s.m 2 : Int) ≤ y.p
  few : s.dv.jobs.length ≤ k
  len : s.due.length ≤ 16
  act : ∀ a ∈ s.due, (a.k = 1 ∨ a.k = 2) ∧ 0 ≤ a.p ∧ a.p ≤ 64
end Go.Proofs.YtfghfbmmaclcnaaGreat
namespace Go.Proofs.YtfghfbmmaclcnaaGreat
set_option maxRecDepth 20000
open Go.RowKit Go.Maps
theorem Tryz.zeroI (w : World) : (zeroValue 3).run Tryz.prog w = .ok (.int .i64 0) w := by kernel_rfl
/-- Pages by tickets. -/
def MI : MK Int Int := ⟨102, 3, 3, Value.int .i64, Lit.int .i64, okI, Value.int .i64, fun x => .lit (.int .i64 x), 0, int_keyed Tryz.underlying3, Tryz.underlying102, fun _ h => keyOf_int_mk Tryz.underlying3 h, int_inv,
  fun x y h => by simpa using h, fun x y h => by simpa using h, fun x y h => by simpa using h, Tryz.zeroI⟩
/-- Where the parts of a log lie: its struct, the tail, the buffer, the marks, the table (and its blocks from eB on, below eC), the actions, the device's first map, the two maps. -/
structure Ad where
  l : Nat
  t : Nat
  tr : Nat
  tb : Nat
  bt : Nat
  mt : Nat
  mr : Nat
  mb : Nat
  et : Nat
  eB : Nat
  eC : Nat
  dt : Nat
  vt : Nat
  fb : Nat
  lb : Nat
/-- A log in memory; o tells whose a block is: 9 the log's struct, 1 the tail's, 2 the buffer's, 3 the marks', 4 the table's, 5 the actions', 6 the device's, 7 and 8 the maps'. -/
structure Hg (w : World) (o : Nat → Nat) (a : Ad) (c : Cf) (s : Hs) (f g : Int → Option Int) (k : Nat) : Prop where
  c0 : w.cell? ⟨a.l, 0, none⟩ = some (.pointer (some ⟨a.t, 0, none⟩))
  c1 : w.cell? ⟨a.l, 1, none⟩ = some (.pointer (some ⟨a.bt, 0, none⟩))
  c2 : w.cell? ⟨a.l, 2, none⟩ = some (.pointer (some ⟨a.mt, 0, none⟩))
  c3 : w.cell? ⟨a.l, 3, none⟩ = some (.pointer (some ⟨a.et, 0, none⟩))
  c4 : w.cell? ⟨a.l, 4, none⟩ = some (.pointer (some ⟨a.dt, 0, none⟩))
  c5 : w.cell? ⟨a.l, 5, none⟩ = some (.pointer (some ⟨a.vt + 3, 0, none⟩))
  c6 : w.cell? ⟨a.l, 6, none⟩ = some (.map (some a.fb))
  c7 : w.cell? ⟨a.l, 7, none⟩ = some (.map (some a.lb))
  ol : o a.l = 9
  tl : ∃ won, won ≤ k ∧ TlAt w a.t a.tr a.tb c.b c.sp s.P s.O won
  ot : o a.t = 1 ∧ o a.tr = 1 ∧ o a.tb = 1
  pb : PB w (fun x => o x = 2) a.bt c.n c.b k s.F
  mm : MkAt w a.mt a.mr a.mb s.m
  om : o a.mt = 3 ∧ o a.mr = 3 ∧ o a.mb = 3
  ep : TabIs w a.eB a.eC a.et c.ns s.now s.v k
  oe : ∀ x, a.eB ≤ x → x < a.eC → o x = 4
  du : DrIs w (fun x => o x = 5) a.dt s.due
  dv : DvIs w a.vt s.dv
  ov : ∀ x, InD a.vt x → o x = 6
  fl : MapAs MI w a.fb f
  of : o a.fb = 7
  la : MapAs MI w a.lb g
  ob : o a.lb = 8
  sz : ∀ x, o x ≠ 0 → x < w.heap.size
/-- The maps as the log's list tells them. -/
abbrev Hp (w : World) (o : Nat → Nat) (a : Ad) (c : Cf) (s : Hs) (k : Nat) : Prop := Hg w o a c s (flyF s.L) (lanF s.L (s.m 2)) k
section
variable {w w' : World} {o o' : Nat → Nat} {a : Ad} {c : Cf} {s : Hs} {f g : Int → Option Int} {k : Nat} {T : Nat → Prop}
theorem Hg.lt (h : Hg w o a c s f g k) : a.l < w.heap.size := World.block_lt_of_cell? w _ h.c0
theorem apart_keeps {B C : Nat} (h : Apart B C w w') : Keeps (fun x => B ≤ x ∧ x < C) w w' := ⟨h.os, h.tape, h.output, h.size, fun k hk hn => h.block k hk (by omega)⟩
theorem keeps_apart {B C : Nat} (h : Keeps T w w') (hT : ∀ x, B ≤ x → x < C → ¬ T x) : ∀ x, x < w.heap.size → B ≤ x → x < C → w'.heap[x]? = w.heap[x]? := fun x hx h1 h2 => h.block x hx (hT x h1 h2)
theorem TabIs.keep {B C t n now : Nat} {v : Nat → Nat} (h : TabIs w B C t n now v k) (hk : Keeps T w w') (hT : ∀ x, B ≤ x → x < C → ¬ T x) : TabIs w' B C t n now v k := by
  obtain ⟨r1, b1, r2, b2, won, lost, h1, ⟨g1, g2, g3, g4, g5⟩, h3, h4, h5, h6⟩ := h
  have n1 := hT _ g1.1 g1.2
  have n2 := hT _ g2.1 g2.2
  have n3 := hT _ g3.1 g3.2
  have n4 := hT _ g4.1 g4.2
  have n5 := hT _ g5.1 g5.2
  have hl : t < w.heap.size := World.block_lt_of_cell? w _ h1.c0
  exact ⟨r1, b1, r2, b2, won, lost, ⟨by rw [hk.cell hl n1]; exact h1.c0, by rw [hk.cell hl n1]; exact h1.c1, h1.one.keep hk n2 n3, h1.saw.keep hk n4 n5, h1.n1, h1.n2, h1.n3, h1.n4, h1.n5, h1.n6, h1.n7⟩, ⟨g1, g2, g3, g4, g5⟩, h3, h4, h5, h6⟩
/-- One part is another one, the others are kept. -/
theorem Hg.upd (h : Hg w o a c s f g k) (hk : Keeps T w w') (j : Nat) (hj : j ≠ 9) (hT : ∀ x, x < w.heap.size → T x → o x = j) (ho : ∀ x, x < w.heap.size → o' x = o x) (hz : ∀ x, o' x ≠ 0 → x < w'.heap.size) {s' : Hs} {k' : Nat} (hkk : k ≤ k')
    (g1 : (s'.P = s.P ∧ s'.O = s.O ∧ j ≠ 1) ∨ ∃ won, won ≤ k' ∧ TlAt w' a.t a.tr a.tb c.b c.sp s'.P s'.O won)
    (g2 : (s'.F = s.F ∧ j ≠ 2) ∨ PB w' (fun x => o' x = 2) a.bt c.n c.b k' s'.F)
    (g3 : (s'.m = s.m ∧ j ≠ 3) ∨ MkAt w' a.mt a.mr a.mb s'.m)
    (g4 : (s'.now = s.now ∧ s'.v = s.v ∧ j ≠ 4) ∨ TabIs w' a.eB a.eC a.et c.ns s'.now s'.v k')
    (g5 : (s'.due = s.due ∧ j ≠ 5) ∨ DrIs w' (fun x => o' x = 5) a.dt s'.due)
    (g6 : (s'.dv = s.dv ∧ j ≠ 6) ∨ DvIs w' a.vt s'.dv)
    {f' g' : Int → Option Int} (g7 : (f' = f ∧ j ≠ 7) ∨ MapAs MI w' a.fb f')
    (g8 : (g' = g ∧ j ≠ 8) ∨ MapAs MI w' a.lb g') : Hg w' o' a c s' f' g' k' := by
  have hl := h.lt
  have nT : ∀ x, x < w.heap.size → o x ≠ j → ¬ T x := fun x hx hne t => hne (hT x hx t)
  have zz : ∀ x, o x ≠ 0 → x < w.heap.size := h.sz
  have nl : ¬ T a.l := nT _ hl (by rw [h.ol]; exact fun e => hj e.symm)
  have oo : ∀ x i, o x = i → i ≠ 0 → o' x = i := fun x i e hi => by rw [ho x (zz x (by omega))]; exact e
  have nn : ∀ x i, o x = i → i ≠ 0 → i ≠ j → ¬ T x := fun x i e hi hij => nT x (zz x (by omega)) (by omega)
  refine ⟨by rw [hk.cell hl nl]; exact h.c0, by rw [hk.cell hl nl]; exact h.c1, by rw [hk.cell hl nl]; exact h.c2, by rw [hk.cell hl nl]; exact h.c3, by rw [hk.cell hl nl]; exact h.c4, by rw [hk.cell hl nl]; exact h.c5, by rw [hk.cell hl nl]; exact h.c6, by rw [hk.cell hl nl]; exact h.c7,
    oo _ _ h.ol (by omega), ?_, ⟨oo _ _ h.ot.1 (by omega), oo _ _ h.ot.2.1 (by omega), oo _ _ h.ot.2.2 (by omega)⟩, ?_, ?_, ⟨oo _ _ h.om.1 (by omega), oo _ _ h.om.2.1 (by omega), oo _ _ h.om.2.2 (by omega)⟩, ?_, fun x h1 h2 => oo _ _ (h.oe x h1 h2) (by omega), ?_, ?_, fun x hx => oo _ _ (h.ov x hx) (by omega), ?_, oo _ _ h.of (by omega), ?_, oo _ _ h.ob (by omega), hz⟩
  · rcases g1 with ⟨e1, e2, e3⟩ | g
    · obtain ⟨won, hw, ht⟩ := h.tl
      rw [e1, e2]
      exact ⟨won, by omega, ht.keep hk (nn _ _ h.ot.1 (by omega) (by omega)) (nn _ _ h.ot.2.1 (by omega) (by omega)) (nn _ _ h.ot.2.2 (by omega) (by omega))⟩
    · exact g
  · rcases g2 with ⟨e1, e2⟩ | g
    · rw [e1]
      exact ((h.pb.keep hk (fun x e => nn x 2 e (by omega) (by omega))).wider (fun x e => oo x 2 e (by omega))).more hkk
    · exact g
  · rcases g3 with ⟨e1, e2⟩ | g
    · rw [e1]
      exact h.mm.keep hk (nn _ _ h.om.1 (by omega) (by omega)) (nn _ _ h.om.2.1 (by omega) (by omega)) (nn _ _ h.om.2.2 (by omega) (by omega))
    · exact g
  · rcases g4 with ⟨e1, e2, e3⟩ | g
    · rw [e1, e2]
      exact (h.ep.keep hk (fun x h1 h2 => nn _ _ (h.oe x h1 h2) (by omega) (by omega))).more hkk
    · exact g
  · rcases g5 with ⟨e1, e2⟩ | g
    · rw [e1]
      exact (h.du.keep hk (fun x e => nn x 5 e (by omega) (by omega))).wider (fun x e => oo x 5 e (by omega))
    · exact g
  · rcases g6 with ⟨e1, e2⟩ | g
    · rw [e1]
      exact h.dv.keep hk (fun x hx => nn _ _ (h.ov x hx) (by omega) (by omega))
    · exact g
  · rcases g7 with ⟨e1, e2⟩ | g
    · rw [e1]
      exact h.fl.keep hk (nn _ _ h.of (by omega) (by omega))
    · exact g
  · rcases g8 with ⟨e1, e2⟩ | g
    · rw [e1]
      exact h.la.keep hk (nn _ _ h.ob (by omega) (by omega))
    · exact g
/-- What the log has as its own. -/
def Ow9 (o : Nat → Nat) : Nat → Prop := fun x => 1 ≤ o x ∧ o x ≤ 9
theorem Hg.keep (h : Hg w o a c s f g k) (hk : Keeps T w w') (hT : ∀ x, Ow9 o x → ¬ T x) (ho : ∀ x, x < w.heap.size → o' x = o x) (hz : ∀ x, o' x ≠ 0 → x < w'.heap.size) : Hg w' o' a c s f g k := by
  have hk2 : Keeps (fun x => T x ∧ ¬ Ow9 o x) w w' := hk.wider (fun x _ t => ⟨t, fun e => hT x e t⟩)
  have nn : ∀ x i, o x = i → 1 ≤ i ∧ i ≤ 9 → ¬ T x := fun x i e hi => hT x (by unfold Ow9; omega)
  have oo : ∀ x i, o x = i → i ≠ 0 → o' x = i := fun x i e hi => by rw [ho x (h.sz x (by omega))]; exact e
  have hl := h.lt
  have nl := nn _ _ h.ol (by omega)
  obtain ⟨won, hw, ht⟩ := h.tl
  exact ⟨by rw [hk.cell hl nl]; exact h.c0, by rw [hk.cell hl nl]; exact h.c1, by rw [hk.cell hl nl]; exact h.c2, by rw [hk.cell hl nl]; exact h.c3, by rw [hk.cell hl nl]; exact h.c4, by rw [hk.cell hl nl]; exact h.c5, by rw [hk.cell hl nl]; exact h.c6, by rw [hk.cell hl nl]; exact h.c7,
    oo _ _ h.ol (by omega), ⟨won, hw, ht.keep hk (nn _ _ h.ot.1 (by omega)) (nn _ _ h.ot.2.1 (by omega)) (nn _ _ h.ot.2.2 (by omega))⟩, ⟨oo _ _ h.ot.1 (by omega), oo _ _ h.ot.2.1 (by omega), oo _ _ h.ot.2.2 (by omega)⟩,
    (h.pb.keep hk (fun x e => nn x 2 e (by omega))).wider (fun x e => oo x 2 e (by omega)), h.mm.keep hk (nn _ _ h.om.1 (by omega)) (nn _ _ h.om.2.1 (by omega)) (nn _ _ h.om.2.2 (by omega)), ⟨oo _ _ h.om.1 (by omega), oo _ _ h.om.2.1 (by omega), oo _ _ h.om.2.2 (by omega)⟩,
    h.ep.keep hk (fun x h1 h2 => nn _ _ (h.oe x h1 h2) (by omega)), fun x h1 h2 => oo _ _ (h.oe x h1 h2) (by omega), (h.du.keep hk (fun x e => nn x 5 e (by omega))).wider (fun x e => oo x 5 e (by omega)), h.dv.keep hk (fun x hx => nn _ _ (h.ov x hx) (by omega)), fun x hx => oo _ _ (h.ov x hx) (by omega),
    h.fl.keep hk (nn _ _ h.of (by omega)), oo _ _ h.of (by omega), h.la.keep hk (nn _ _ h.ob (by omega)), oo _ _ h.ob (by omega), hz⟩
theorem Hg.below (h : Hg w o a c s f g k) (hb : Below w.heap.size w w') : Hg w' o a c s f g k := h.keep (Below.keeps (S := fun _ => False) hb) (fun _ _ => id) (fun _ _ => rfl) (fun x hx => Nat.lt_of_lt_of_le (h.sz x hx) hb.size)
theorem Hg.drew (h : Hg w o a c s f g k) (m : Nat) : Hg (w.drewN m) o a c s f g k := h.below (below_drewN (Below.refl _ _) m)
theorem Hg.more (h : Hg w o a c s f g k) {k' : Nat} (hk : k ≤ k') : Hg w o a c s f g k' := by
  obtain ⟨won, hw, ht⟩ := h.tl
  exact ⟨h.c0, h.c1, h.c2, h.c3, h.c4, h.c5, h.c6, h.c7, h.ol, ⟨won, by omega, ht⟩, h.ot, h.pb.more hk, h.mm, h.om, h.ep.more hk, h.oe, h.du, h.dv, h.ov, h.fl, h.of, h.la, h.ob, h.sz⟩
/-- The new blocks are j's. -/
def ext (o : Nat → Nat) (w w' : World) (j : Nat) : Nat → Nat := fun x => if w.heap.size ≤ x ∧ x < w'.heap.size then j else o x
theorem ext_old {j x : Nat} (hx : x < w.heap.size) : ext o w w' j x = o x := by unfold ext; rw [if_neg (by omega)]
theorem ext_sz {j : Nat} (h : ∀ x, o x ≠ 0 → x < w.heap.size) (hs : w.heap.size ≤ w'.heap.size) : ∀ x, ext o w w' j x ≠ 0 → x < w'.heap.size := by
  intro x hx
  unfold ext at hx
  split at hx
  · omega
  · have := h x hx; omega
theorem ext_more {j x : Nat} (h : More (fun x => o x = j) w w' x) (hs : ∀ x, o x ≠ 0 → x < w.heap.size) (hj : j ≠ 0) : ext o w w' j x = j := by
  unfold ext
  rcases h with h | h
  · have := hs x (by omega)
    rw [if_neg (by omega)]; exact h
  · rw [if_pos h]
/-- o' tells of the old blocks as o, and gives the new ones to the log. -/
structure Ext (o o' : Nat → Nat) (w w' : World) : Prop where
  old : ∀ x, x < w.heap.size → o' x = o x
  new : ∀ x, w.heap.size ≤ x → o' x ≤ 9
theorem Ext.refl (hs : ∀ x, o x ≠ 0 → x < w.heap.size) : Ext o o w w' := ⟨fun _ _ => rfl, fun x hx => by
  by_cases e : o x = 0
  · omega
  · have := hs x e; omega⟩
theorem Ext.trans {o'' : Nat → Nat} {w'' : World} (h : Ext o o' w w') (g : Ext o' o'' w' w'') (hs : w.heap.size ≤ w'.heap.size) : Ext o o'' w w'' := ⟨fun x hx => by rw [g.old x (by omega)]; exact h.old x hx, fun x hx => by
  by_cases e : x < w'.heap.size
  · rw [g.old x e]; exact h.new x hx
  · exact g.new x (by omega)⟩
theorem Ext.ext {j : Nat} (hs : ∀ x, o x ≠ 0 → x < w.heap.size) (hj : j ≤ 9) : Ext o (ext o w w' j) w w' := ⟨fun x hx => ext_old hx, fun x hx => by
  unfold Proofs.YtfghfbmmaclcnaaGreat.ext
  split
  · exact hj
  · by_cases e : o x = 0
    · omega
    · have := hs x e; omega⟩
/-- What a call of the log ends with. -/
def Gq (w : World) (o : Nat → Nat) (a : Ad) (c : Cf) (s : Hs) (f g : Int → Option Int) (k : Nat) (w' : World) : Prop := ∃ o', Hg w' o' a c s f g k ∧ Ext o o' w w' ∧ Keeps (Ow9 o) w w'
abbrev Hq (w : World) (o : Nat → Nat) (a : Ad) (c : Cf) (s : Hs) (k : Nat) (w' : World) : Prop := Gq w o a c s (flyF s.L) (lanF s.L (s.m 2)) k w'
theorem Hg.here (h : Hg w o a c s f g k) : Gq w o a c s f g k w := ⟨o, h, Ext.refl h.sz, Keeps.refl _ _⟩
theorem Gq.below (h : Gq w o a c s f g k w') {w'' : World} (hb : Below w'.heap.size w' w'') : Gq w o a c s f g k w'' := by
  obtain ⟨o', h1, h2, h3⟩ := h
  exact ⟨o', h1.below hb, ⟨h2.old, h2.new⟩, h3.trans (Below.keeps (S := Ow9 o) hb) (fun _ _ e => e)⟩
theorem Gq.size (h : Gq w o a c s f g k w') : w.heap.size ≤ w'.heap.size := h.choose_spec.2.2.size
theorem Gq.trans {s' : Hs} {f' g' : Int → Option Int} {k' : Nat} {w'' : World} {o' : Nat → Nat} (h2 : Ext o o' w w') (h3 : Keeps (Ow9 o) w w') (q : Gq w' o' a c s' f' g' k' w'') : Gq w o a c s' f' g' k' w'' := by
  obtain ⟨o'', g1, g2, g3⟩ := q
  refine ⟨o'', g1, h2.trans g2 h3.size, h3.trans g3 (fun x hx e => ?_)⟩
  unfold Ow9 at *
  rw [h2.old x hx] at e
  exact e
/-- Behind what only draws or lays. -/
theorem Gq.after (h : Hg w o a c s f g k) {s' : Hs} {f' g' : Int → Option Int} {k' : Nat} {w'' : World} (hb : Below w.heap.size w w') (q : Gq w' o a c s' f' g' k' w'') : Gq w o a c s' f' g' k' w'' :=
  Gq.trans (o' := o) (Ext.refl h.sz) (Below.keeps hb) q
theorem Gq.more (h : Gq w o a c s f g k w') {k' : Nat} (hk : k ≤ k') : Gq w o a c s f g k' w' := by
  obtain ⟨o', h1, h2, h3⟩ := h
  exact ⟨o', h1.more hk, h2, h3⟩
/-- One part is another one: with what the call ends. -/
theorem Hg.put (h : Hg w o a c s f g k) (hk : Keeps T w w') (j : Nat) (hj : 1 ≤ j ∧ j ≤ 8) (hT : ∀ x, x < w.heap.size → T x → o x = j) {s' : Hs} {k' : Nat} (hkk : k ≤ k')
    (g1 : (s'.P = s.P ∧ s'.O = s.O ∧ j ≠ 1) ∨ ∃ won, won ≤ k' ∧ TlAt w' a.t a.tr a.tb c.b c.sp s'.P s'.O won)
    (g2 : (s'.F = s.F ∧ j ≠ 2) ∨ PB w' (fun x => ext o w w' j x = 2) a.bt c.n c.b k' s'.F)
    (g3 : (s'.m = s.m ∧ j ≠ 3) ∨ MkAt w' a.mt a.mr a.mb s'.m)
    (g4 : (s'.now = s.now ∧ s'.v = s.v ∧ j ≠ 4) ∨ TabIs w' a.eB a.eC a.et c.ns s'.now s'.v k')
    (g5 : (s'.due = s.due ∧ j ≠ 5) ∨ DrIs w' (fun x => ext o w w' j x = 5) a.dt s'.due)
    (g6 : (s'.dv = s.dv ∧ j ≠ 6) ∨ DvIs w' a.vt s'.dv)
    {f' g' : Int → Option Int} (g7 : (f' = f ∧ j ≠ 7) ∨ MapAs MI w' a.fb f')
    (g8 : (g' = g ∧ j ≠ 8) ∨ MapAs MI w' a.lb g') : Gq w o a c s' f' g' k' w' :=
  ⟨ext o w w' j, h.upd hk j (by omega) hT (fun x hx => ext_old hx) (ext_sz h.sz hk.size) hkk g1 g2 g3 g4 g5 g6 g7 g8, Ext.ext h.sz (by omega), hk.wider (fun x hx t => by unfold Ow9; have := hT x hx t; omega)⟩
theorem Hg.setTl (h : Hg w o a c s f g k) (hk : Keeps (InRow a.tr a.tb) w w') {P O won k' : Nat} (ht : TlAt w' a.t a.tr a.tb c.b c.sp P O won) (hw : won ≤ k') (hkk : k ≤ k') : Gq w o a c { s with P := P, O := O } f g k' w' :=
  h.put (s' := { s with P := P, O := O }) hk 1 (by omega) (fun x _ t => by rcases t with rfl | rfl; exact h.ot.2.1; exact h.ot.2.2) hkk (.inr ⟨won, hw, ht⟩) (.inl ⟨rfl, by omega⟩) (.inl ⟨rfl, by omega⟩) (.inl ⟨rfl, rfl, by omega⟩) (.inl ⟨rfl, by omega⟩) (.inl ⟨rfl, by omega⟩) (.inl ⟨rfl, by omega⟩) (.inl ⟨rfl, by omega⟩)
theorem Hg.setBf (h : Hg w o a c s f g k) (hk : Keeps (fun x => o x = 2) w w') {F : Nat → Option Pg} {k' : Nat} (hp : PB w' (More (fun x => o x = 2) w w') a.bt c.n c.b k' F) (hkk : k ≤ k') : Gq w o a c { s with F := F } f g k' w' :=
  h.put (s' := { s with F := F }) hk 2 (by omega) (fun x _ t => t) hkk (.inl ⟨rfl, rfl, by omega⟩) (.inr (hp.wider (fun x e => ext_more e h.sz (by omega)))) (.inl ⟨rfl, by omega⟩) (.inl ⟨rfl, rfl, by omega⟩) (.inl ⟨rfl, by omega⟩) (.inl ⟨rfl, by omega⟩) (.inl ⟨rfl, by omega⟩) (.inl ⟨rfl, by omega⟩)
theorem Hg.setMk (h : Hg w o a c s f g k) (hk : Keeps (fun x => x = a.mb) w w') {m : Nat → Nat} (hm : MkAt w' a.mt a.mr a.mb m) : Gq w o a c { s with m := m } f g k w' :=
  h.put (s' := { s with m := m }) hk 3 (by omega) (fun x _ t => by rw [t]; exact h.om.2.2) (Nat.le_refl _) (.inl ⟨rfl, rfl, by omega⟩) (.inl ⟨rfl, by omega⟩) (.inr hm) (.inl ⟨rfl, rfl, by omega⟩) (.inl ⟨rfl, by omega⟩) (.inl ⟨rfl, by omega⟩) (.inl ⟨rfl, by omega⟩) (.inl ⟨rfl, by omega⟩)
theorem Hg.setEp (h : Hg w o a c s f g k) (hk : Apart a.eB a.eC w w') {now k' : Nat} {v : Nat → Nat} (ht : TabIs w' a.eB a.eC a.et c.ns now v k') (hkk : k ≤ k') : Gq w o a c { s with now := now, v := v } f g k' w' :=
  h.put (s' := { s with now := now, v := v }) (apart_keeps hk) 4 (by omega) (fun x _ t => h.oe x t.1 t.2) hkk (.inl ⟨rfl, rfl, by omega⟩) (.inl ⟨rfl, by omega⟩) (.inl ⟨rfl, by omega⟩) (.inr ht) (.inl ⟨rfl, by omega⟩) (.inl ⟨rfl, by omega⟩) (.inl ⟨rfl, by omega⟩) (.inl ⟨rfl, by omega⟩)
theorem Hg.setDu (h : Hg w o a c s f g k) (hk : Keeps (fun x => o x = 5) w w') {l : List A3} (hd : DrIs w' (More (fun x => o x = 5) w w') a.dt l) : Gq w o a c { s with due := l } f g k w' :=
  h.put (s' := { s with due := l }) hk 5 (by omega) (fun x _ t => t) (Nat.le_refl _) (.inl ⟨rfl, rfl, by omega⟩) (.inl ⟨rfl, by omega⟩) (.inl ⟨rfl, by omega⟩) (.inl ⟨rfl, rfl, by omega⟩) (.inr (hd.wider (fun x e => ext_more e h.sz (by omega)))) (.inl ⟨rfl, by omega⟩) (.inl ⟨rfl, by omega⟩) (.inl ⟨rfl, by omega⟩)
theorem Hg.setDv (h : Hg w o a c s f g k) (hk : Keeps (InD a.vt) w w') {d : Dv} (hd : DvIs w' a.vt d) : Gq w o a c { s with dv := d } f g k w' :=
  h.put (s' := { s with dv := d }) hk 6 (by omega) (fun x _ t => h.ov x t) (Nat.le_refl _) (.inl ⟨rfl, rfl, by omega⟩) (.inl ⟨rfl, by omega⟩) (.inl ⟨rfl, by omega⟩) (.inl ⟨rfl, rfl, by omega⟩) (.inl ⟨rfl, by omega⟩) (.inr hd) (.inl ⟨rfl, by omega⟩) (.inl ⟨rfl, by omega⟩)
theorem Hg.setFl (h : Hg w o a c s f g k) (hk : Keeps (fun x => x = a.fb) w w') {f' : Int → Option Int} (hf : MapAs MI w' a.fb f') : Gq w o a c s f' g k w' :=
  h.put hk 7 (by omega) (fun x _ t => by rw [t]; exact h.of) (Nat.le_refl _) (.inl ⟨rfl, rfl, by omega⟩) (.inl ⟨rfl, by omega⟩) (.inl ⟨rfl, by omega⟩) (.inl ⟨rfl, rfl, by omega⟩) (.inl ⟨rfl, by omega⟩) (.inl ⟨rfl, by omega⟩) (.inr hf) (.inl ⟨rfl, by omega⟩)
theorem Hg.setLa (h : Hg w o a c s f g k) (hk : Keeps (fun x => x = a.lb) w w') {g' : Int → Option Int} (hg : MapAs MI w' a.lb g') : Gq w o a c s f g' k w' :=
  h.put hk 8 (by omega) (fun x _ t => by rw [t]; exact h.ob) (Nat.le_refl _) (.inl ⟨rfl, rfl, by omega⟩) (.inl ⟨rfl, by omega⟩) (.inl ⟨rfl, by omega⟩) (.inl ⟨rfl, rfl, by omega⟩) (.inl ⟨rfl, by omega⟩) (.inl ⟨rfl, by omega⟩) (.inl ⟨rfl, by omega⟩) (.inr hg)
/-- The same list of writes, told otherwise. -/
theorem Hg.lists (h : Hg w o a c s f g k) (L : List Fy) : Hg w o a c { s with L := L } f g k :=
  ⟨h.c0, h.c1, h.c2, h.c3, h.c4, h.c5, h.c6, h.c7, h.ol, h.tl, h.ot, h.pb, h.mm, h.om, h.ep, h.oe, h.du, h.dv, h.ov, h.fl, h.of, h.la, h.ob, h.sz⟩
end
end Go.Proofs.YtfghfbmmaclcnaaGreat
