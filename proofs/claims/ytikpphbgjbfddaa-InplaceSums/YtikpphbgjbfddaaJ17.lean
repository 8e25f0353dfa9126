/- Parts of the proof: Jv. -/
import Derived.Test.YtikpphbgjbfddaaJ16
import Derived.Deep.CutBlock
import Derived.Deep.DeepCutAuto
namespace Go.Proofs.Ytikpphbgjbfddaa
set_option maxRecDepth 20000
open Go.RowKit
/-- The record as it is at first. -/
def ceS (s : ByteArray) : Ce := ⟨false, 0, wordsL s.data.toList (wordsFor s.size)⟩
theorem allW_words (l : List UInt8) (n : Nat) : AllW (wordsL l n) := fun x hx => by
  obtain ⟨k, _, rfl⟩ := List.mem_map.1 hx
  have h := leN_lt ((l.drop (8 * k)).take 8)
  have hl : ((l.drop (8 * k)).take 8).length ≤ 8 := List.length_take_le _ _
  have hp : 256 ^ ((l.drop (8 * k)).take 8).length ≤ 256 ^ 8 := Nat.pow_le_pow_right (by decide) hl
  unfold wordAt
  exact Nat.lt_of_lt_of_le h (Nat.le_trans hp (by decide))
theorem ceS_ok (s : ByteArray) : CeOk (wordsFor s.size) (ceS s) := ⟨wordsL_length _ _, allW_words _ _, show (0 : Nat) < _ by decide⟩
/-- What is told of the workers as they are opened. -/
structure OpOk (d : Sn) (N n t sx : Nat) (noW : Prop) (xs : Nat → Wk) : Prop where
  eN : d.N = N
  en : d.n = n
  et : d.t = t
  ex : d.sx = sx
  fr : ∀ j, j < d.K → WkFresh N (xs j)
  rd : ∀ j, j < d.K → (xs j).rd = d.rd j
  ad : noW → ∀ j, j < d.K → (xs j).rd = false → (xs j).ad = true
theorem OpOk.push {d : Sn} {N n t sx : Nat} {noW : Prop} {xs : Nat → Wk} (h : OpOk d N n t sx noW xs) {x : Wk} (hx : WkFresh N x) (hn : noW → x.rd = false → x.ad = true) (va vb vm : Value) (p q : Nat) : OpOk (d.add va vb vm p q x.rd) N n t sx noW (wkPut xs d.K x) := by
  refine ⟨h.eN, h.en, h.et, h.ex, fun j hj => ?_, fun j hj => ?_, fun hw j hj hr => ?_⟩
  all_goals have hj' : j < d.K + 1 := hj
  · by_cases e : j = d.K
    · subst e; rw [wkPut_same]; exact hx
    · rw [wkPut_ne e]; exact h.fr j (by omega)
  · show (wkPut xs d.K x j).rd = if j = d.K then x.rd else d.rd j
    by_cases e : j = d.K
    · subst e; rw [wkPut_same, if_pos rfl]
    · rw [wkPut_ne e, if_neg e]; exact h.rd j (by omega)
  · by_cases e : j = d.K
    · subst e; rw [wkPut_same] at hr ⊢; exact hn hw hr
    · rw [wkPut_ne e] at hr ⊢; exact h.ad hw j (by omega) hr
def wk00 : Wk := ⟨false, false, 0, [], 0, false, 0, [], 0⟩
theorem rw_made (w : World) (B : Nat) (T : TypeId) : RwIs (w.alloc (.cells #[.bool false, .bool false, .int .u64 0, .slice none 0 0, .int .i64 0, .bool false, .int .u64 0, .slice none 0 0] T)) B w.heap.size (.slice none 0 0) (.slice none 0 0) wk00 := by
  refine ⟨fun i hi => ?_, fun i hi => ?_, World.ownsRow_nil _ _ _ _, World.ownsRow_nil _ _ _ _, fun e => (by cases e), fun e => (by cases e)⟩
  · match i, hi with
    | 0, _ => simp [rwV, wk00]
    | 1, _ => simp [rwV, wk00]
    | 2, _ => simp [rwV, wk00]
    | 3, _ => simp [rwV]
    | 4, _ => simp [rwV, wk00]
    | 5, _ => simp [rwV, wk00]
    | 6, _ => simp [rwV, wk00]
    | 7, _ => simp [rwV]
  · simp
/-- What open leaves. -/
def OpIs (X : InPred) (w w' : World) (s : ByteArray) (n : Nat) (z : Nat → Ow) (d : Sn) : Prop := ∃ (o : Nat → Nat) (k : Nat) (vls vgs : Nat → Value) (xs : Nat → Wk), ScA X w' o w.heap.size d k vls vgs (ceS s) xs (ceS s) xs ∧ OpOk d (wordsFor s.size) s.size d.t d.sx (∀ i, i < n → (z i).kd ≠ 1) xs ∧ d.K ≤ 6 ∧ k ≤ 1 ∧ Below w.heap.size w w'
/-- What one more at it leaves, told at once. -/
theorem sc_push {X : InPred} (C : InProg X) {w y y2 : World} {o : Nat → Nat} {B k : Nat} {d : Sn} {vls vgs : Nat → Value} {c : Ce} {xs : Nat → Wk} (h : ScA X w o B d k vls vgs c xs c xs) {M : Nat → Prop} {p q : Nat} {x : Wk} {vl vg va vb vm u1 u2 u3 : Value}
    (hy : Below w.heap.size w y) (hx : X y M d.t p d.N d.n x) (hM : ∀ i, M i → w.heap.size ≤ i ∧ i < y.heap.size) (hr : RwIs y B q vl vg x) (hq : w.heap.size ≤ q ∧ ¬ M q) (hl : ∀ g, vl.ownBlock = some g → w.heap.size ≤ g ∧ ¬ M g) (hg : ∀ g, vg.ownBlock = some g → w.heap.size ≤ g ∧ ¬ M g) (hlg : ∀ g, vl.ownBlock = some g → vg.ownBlock ≠ some g)
    (e1 : u1 = ptrV (if x.rd = true then none else some p)) (e2 : u2 = ptrV (if x.rd = true then some p else none)) (e3 : u3 = ptrV (some q))
    (hk : Keeps (fun i => i = d.sx ∨ d.va.ownBlock = some i ∨ d.vb.ownBlock = some i ∨ d.vm.ownBlock = some i) y y2)
    (hs : Sn3 y2 B d.sx d.t d.m va vb vm (ptrsV d.fa d.K ++ [u1]) (ptrsV d.fb d.K ++ [u2]) (ptrsV d.fm d.K ++ [u3]))
    (hz : ∀ g, (va.ownBlock = some g ∨ vb.ownBlock = some g ∨ vm.ownBlock = some g) → (d.va.ownBlock = some g ∨ d.vb.ownBlock = some g ∨ d.vm.ownBlock = some g) ∨ (y.heap.size ≤ g ∧ g < y2.heap.size)) :
    ∃ o', ScA X y2 o' B (d.add va vb vm p q x.rd) k (fun j => if j = d.K then vl else vls j) (fun j => if j = d.K then vg else vgs j) c (wkPut xs d.K x) c (wkPut xs d.K x) := by
  subst e1 e2 e3
  have old : ∀ i, w.heap.size ≤ i → ¬ (i = d.sx ∨ d.va.ownBlock = some i ∨ d.vb.ownBlock = some i ∨ d.vm.ownBlock = some i) := fun i hi e => by
    rcases e with e | e
    · have := h.s.lt; omega
    · have := h.own_lt e; omega
  have lq : q < y.heap.size := hr.lt
  have ll : ∀ g, vl.ownBlock = some g → g < y.heap.size := fun g hg => (World.ownsRow.lt hr.ol g hg).2
  have lg : ∀ g, vg.ownBlock = some g → g < y.heap.size := fun g hg => (World.ownsRow.lt hr.og g hg).2
  refine h.push C ((Below.keeps (S := fun i => i = d.sx ∨ d.va.ownBlock = some i ∨ d.vb.ownBlock = some i ∨ d.vm.ownBlock = some i) hy).trans hk (fun _ _ t => t)) hs (C.keep hx hk (fun i hi => old i (hM i hi).1)) (fun i hi => ⟨(hM i hi).1, Nat.lt_of_lt_of_le (hM i hi).2 hk.size⟩) (hr.keep hk (old q hq.1) (fun g e => old g (hl g e).1) (fun g e => old g (hg g e).1)) hq hl hg hlg (fun g e => ?_)
  rcases hz g e with e1 | ⟨e1, e2⟩
  · exact .inl e1
  · have hyw := hy.size
    exact .inr ⟨by omega, e2, fun hm => by have := (hM g hm).2; omega, by omega, fun e' => by have := ll g e'; omega, fun e' => by have := lg g e'; omega⟩
set_option maxHeartbeats 4000000 in
theorem sc_open {X : InPred} (C : InProg X) (s : ByteArray) (hs : s.size ≤ 128) {w : World} {ao : Option Addr} {n cap : Nat} {z : Nat → Ow} (hz : Ows w ao n z) :
    Calls Try.prog 7 #[.string s, .slice ao n cap] w fun e w' => ∃ d : Sn, e = .returned (.tuple #[.pointer (some ⟨d.sx, 0, none⟩), .bool true]) ∧ OpIs X w w' s n z d := by
  have HZ := hide hz
  have HBG := hide (begin_any s hs)
  have HOF := hide (fun w => rc_of s w (by omega))
  clear hz
  go_enter Try.func7, Try.ntmps7
  go_wp2_with fail
  refine (HBG.out _).mono ?_
  rintro e y1 ⟨t, S, rfl, hbuf, hS, b1⟩
  go_wp2_with fail
  refine (HOF.out _).mono ?_
  rintro e y2 ⟨m, v, rfl, hce, hm, hv, b2⟩
  have hs1 := b1.size
  have hs2 := b2.size
  have b3 := (Below.refl y2.heap.size y2).alloc (Nat.le_refl _) (.cells #[.pointer (some ⟨t, 0, none⟩), .pointer (some ⟨m, 0, none⟩), .slice none 0 0, .slice none 0 0, .slice none 0 0] 34)
  have hml := hce.lt
  have hvl : ∀ g, v.ownBlock = some g → g < y2.heap.size := fun g hg => (World.ownsRow.lt hce.own g hg).2
  have B3 := (b1.trans (b2.mono hs1)).trans (b3.mono (Nat.le_trans hs1 hs2))
  obtain ⟨o0, hA⟩ := scA_begin (X := X) (B := w.heap.size) (sx := y2.heap.size) (t := t) (m := m) (n := s.size) (c := ceS s) (hbuf.keep (R := fun _ => False) (Below.keeps (b2.trans (b3.mono hs2))) (fun _ _ => id)) ((hce.wider hs1).below b3) (fun i hi => by have := hS i hi; simp; omega) ⟨by omega, fun e => by have := hS m e; omega⟩ (fun g hg => ⟨by have := hv g hg; omega, fun e => by have := hv g hg; have := hS g e; omega⟩) ⟨by omega, fun e => by have := hS _ e; omega, by omega, fun e => by have := hvl _ e; omega⟩ (by simp) (by simp) (fun i hi => by
    match i, hi with
    | 0, _ => simp
    | 1, _ => simp
    | 2, _ => simp) (fun _ => wkR) (fun _ => 0) (fun _ => 0) (fun _ => false) (fun _ => .slice none 0 0) (fun _ => .slice none 0 0) (by simp; omega)
  have HA := hide hA
  have HB3 := hide B3
  clear hA hbuf hce hm hv b1 b2 b3 hS hs1 hs2 hml hvl B3 HBG HOF
  obtain ⟨y3, HY3⟩ : ∃ y3, Hid (y2.alloc (.cells #[.pointer (some ⟨t, 0, none⟩), .pointer (some ⟨m, 0, none⟩), .slice none 0 0, .slice none 0 0, .slice none 0 0] 34) = y3) := ⟨_, rfl⟩
  rw [HY3.out] at HA HB3
  obtain ⟨sx, HSX⟩ : ∃ sx, Hid (y2.heap.size = sx) := ⟨_, rfl⟩
  rw [HSX.out] at HA
  go_wp2
  rw [HY3.out, HSX.out]
  go_loopw [9] (fun vi wr => ∃ (i : Nat) (o : Nat → Nat) (d : Sn) (k : Nat) (vls vgs : Nat → Value) (xs : Nat → Wk), vi = .int .i64 (i : Int) ∧ i ≤ 6 ∧ ScA X wr o w.heap.size d k vls vgs (ceS s) xs (ceS s) xs ∧ OpOk d (wordsFor s.size) s.size t sx (∀ i, i < n → (z i).kd ≠ 1) xs ∧ d.K ≤ i ∧ k ≤ 1 ∧ Below w.heap.size w wr) (fun vi _ => 6 - (intOf vi).toNat)
  case atStart => exact ⟨0, o0, _, 1, _, _, _, rfl, by omega, HA.out, ⟨rfl, rfl, rfl, rfl, fun j hj => absurd hj (Nat.not_lt_zero j), fun j hj => absurd hj (Nat.not_lt_zero j), fun _ j hj => absurd hj (Nat.not_lt_zero j)⟩, Nat.le_refl _, by omega, HB3.out⟩
  case round =>
    clear HA HB3
    obtain ⟨i, o, d, k, vls, vgs, xs, rfl, hi, hA, hop, hdK, hk1, hbel⟩ := hrel
    by_cases hlt : i < n ∧ i < 6
    · obtain ⟨hzo, bb, off, hao, hat⟩ := HZ.out i hlt.1
      subst hao
      have hai := hat.below hbel
      have hal := hai.lt
      have hmk := rw_made wr w.heap.size 47
      have b0 := (Below.refl wr.heap.size wr).alloc (Nat.le_refl _) (.cells #[.bool false, .bool false, .int .u64 0, .slice none 0 0, .int .i64 0, .bool false, .int .u64 0, .slice none 0 0] 47)
      have hq0 : wr.heap.size < (wr.alloc (.cells #[.bool false, .bool false, .int .u64 0, .slice none 0 0, .int .i64 0, .bool false, .int .u64 0, .slice none 0 0] 47)).heap.size := by simp
      obtain ⟨q, HQ⟩ : ∃ q, Hid (wr.heap.size = q) := ⟨_, rfl⟩
      have hb0 := hai.below b0
      have c0 := hb0.c0
      have c1 := hb0.c1
      have c2' := hb0.c2
      have hbf := hA.p.buf
      rw [hop.et, hop.eN] at hbf
      have HBF := hide hbf
      have HGE : Hid (∀ i, (i = sx ∨ d.va.ownBlock = some i ∨ d.vb.ownBlock = some i ∨ d.vm.ownBlock = some i) → w.heap.size ≤ i) := fun i hi => by
        have : o i = 3 := by
          rcases hi with hi | hi
          · rw [hi, ← hop.ex]; exact hA.os
          · exact hA.ov i hi
        exact (hA.bs.ge i (by omega)).1
      have HA := hide hA
      have HOP := hide hop
      have HBE := hide hbel
      have hK6 : d.K ≤ 6 := by omega
      have hi6 : (i : Int) < 6 := by omega
      have hin : (i : Int) < (n : Int) := by omega
      have hin' : i < n := hlt.1
      have hwb : w.heap.size ≤ wr.heap.size := hbel.size
      clear hA hop hbel hlt hbf hat hb0 hai
      obtain ⟨zi, hzi⟩ : ∃ zi, z i = zi := ⟨_, rfl⟩
      have HZI := hide hzi
      rw [hzi] at hzo c0 c1 c2'
      clear hzi
      by_cases hk1' : zi.kd = 1
      · rw [hk1'] at c0
        have hzs := hzo.s
        go_wp2_with fail
        refine (fit_any zi.s hzs s.size (by omega) _).mono ?_
        rintro e y1' ⟨v1, hv1, rfl, b1⟩
        have B1 := b0.trans (b1.mono b0.size)
        have HNW := hide (C.newW v1 (HBF.out.keep (R := fun _ => False) (Below.keeps B1) (fun _ _ => id)) (by omega) (by rw [hv1]))
        rw [hv1] at HNW
        have hm1 := hmk.below b1
        clear hmk c0 c1 c2'
        go_wp2_with fail
        refine HNW.out.mono ?_
        rintro e y2' ⟨M, p, rfl, hx, hM, b2⟩
        have B2 := B1.trans (b2.mono B1.size)
        have HW := hide (rwords_own v1 y2' (by omega))
        rw [hv1] at HW
        have hm2 := hm1.below b2
        clear HNW hm1
        go_wp2_with fail
        refine HW.out.mono ?_
        rintro e y3' ⟨ul0, rfl, hul, b3⟩
        obtain ⟨aL, cL, rfl, _⟩ := own_slice hul
        obtain ⟨ul, hule⟩ : ∃ ul, ul = Value.slice aL (wordsFor s.size) cL := ⟨_, rfl⟩
        rw [← hule] at hul
        have B3 := B2.trans (b3.mono B2.size)
        have hr3 := hm2.below b3
        have d3 := hr3.cs 3 (by omega)
        have e3 := hr3.fs 3 (by omega)
        have hLl : (wordsL v1.data.toList (wordsFor s.size)).length = wordsFor s.size := wordsL_length _ _
        have hqm : ¬ M wr.heap.size := fun e => by have := hM _ e; have := b1.size; omega
        have hun : ul.ownBlock ≠ some wr.heap.size := fun e => by have := hul.lt _ e; have := B2.size; have := b2.size; have := b1.size; omega
        have hrY := hr3.setL (l' := wordsL v1.data.toList (wordsFor s.size)) (by rw [hLl]; exact own_wider hul (by have := HBE.out.size; have := B2.size; omega)) hun
        have HRY : Hid (RwIs (y3'.setCell ⟨wr.heap.size, 3, none⟩ ul) w.heap.size wr.heap.size ul (.slice none 0 0) (wkW (wordsL v1.data.toList (wordsFor s.size)))) := hrY
        have HLY : Hid (∀ g, ul.ownBlock = some g → wr.heap.size ≤ g ∧ ¬ M g) := fun g e => by
          have h1 := (hul.lt g e).1
          have h2 := B2.size
          exact ⟨by omega, fun hm => by have := C.lt hx g hm; omega⟩
        have HXY : Hid (X (y3'.setCell ⟨wr.heap.size, 3, none⟩ ul) M t p (wordsFor s.size) s.size (wkW (wordsL v1.data.toList (wordsFor s.size)))) := C.keep (R := fun i => i = wr.heap.size) hx (Keeps.setCell (S := fun i => i = wr.heap.size) (Below.keeps b3) ⟨wr.heap.size, 3, none⟩ (fun _ => rfl) ul) (fun i hi e => by subst e; exact hqm hi)
        have HMY : Hid (∀ i, M i → wr.heap.size ≤ i ∧ i < (y3'.setCell ⟨wr.heap.size, 3, none⟩ ul).heap.size) := fun i hi => by
          have h1 := hM i hi
          have h2 := C.lt hx i hi
          have h3 := B1.size
          have h4 := b3.size
          exact ⟨by omega, by simpa using (show i < y3'.heap.size by omega)⟩
        have HYB := hide (B3.setCell (p := ⟨wr.heap.size, 3, none⟩) (Nat.le_refl _) ul)
        have HFR : Hid (WkFresh (wordsFor s.size) (wkW (wordsL v1.data.toList (wordsFor s.size)))) := .inr (.inr ⟨_, hLl, allW_words _ _, rfl⟩)
        have HNO : Hid ((∀ i, i < n → (z i).kd ≠ 1) → (wkW (wordsL v1.data.toList (wordsFor s.size))).rd = false → (wkW (wordsL v1.data.toList (wordsFor s.size))).ad = true) := fun hw => absurd (by rw [HZI.out]; exact hk1') (hw i hin')
        have HQM := hide hqm
        have HLG : Hid (∀ g, ul.ownBlock = some g → (Value.slice none 0 0).ownBlock ≠ some g) := fun g _ e => (by cases e)
        generalize hLw : wordsL v1.data.toList (wordsFor s.size) = Lw at *
        have hsel : ((1 : Int) == 1) = true := rfl
        clear hx hM hul hr3 hqm hun hrY B1 B2 B3 b1 b2 b3 HW hm2 b0 hal
        go_upto_region 22 with fail
        rw [← hule]
        clear hule
        generalize y3'.setCell ⟨wr.heap.size, 3, none⟩ ul = Y at *
        clear d3 e3
        have S1 : Hid (Sn3 Y w.heap.size sx t d.m d.va d.vb d.vm (ptrsV d.fa d.K) (ptrsV d.fb d.K) (ptrsV d.fm d.K)) := by
          have := (HA.out.s.three).below HYB.out
          rw [HOP.out.ex, HOP.out.et] at this
          exact this
        have HBY1 : Hid (Below w.heap.size w Y) := HBE.out.trans (HYB.out.mono HBE.out.size)
        obtain ⟨i1, hi1, hz10, hz11, hz12⟩ := info_parts Try.infoPW
        have c2y := S1.out.c2
        have hX1 := (Below.refl Y.heap.size Y).alloc (Nat.le_refl _) (.cells #[.pointer (some ⟨p, 0, none⟩)] 51)
        have ho1 := own_below S1.out.oa hX1
        have HPU1 := fun (w1 : World) (g cap : Nat) (v1 : Value) hv ho hgr hat => Sn3.pushA S1.out hX1 (w1 := w1) (g := g) (cap := cap) (u := .pointer (some ⟨p, 0, none⟩)) (v1 := v1) hv ho hgr hat
        rw [ptrsV_length] at ho1 HPU1
        have HPV1 := hide HPU1
        have hnews1 := cell_one Y (.pointer (some ⟨p, 0, none⟩)) 51
        have hbase1 := HBY1.out.size
        obtain ⟨ao1, cap1, ev1, _⟩ := own_slice S1.out.oa
        rw [ptrsV_length] at ev1
        have HEV1 := hide ev1
        rw [ev1] at c2y ho1 HPV1
        clear hX1 HPU1 ev1
        go_wp2_with (at_builtin; refine wpList_append_lies _ rfl _ _ 30 rfl w.heap.size 51 i1 (.pointer none) 1 8 Try.underlying30 hi1 hz10 hz11 hz12 rfl (by decide) _ _ _ rfl ho1 ⟨Y.heap.size, 0, none⟩ 1 1 [.pointer (some ⟨p, 0, none⟩)] rfl rfl hnews1 (by intro u hu; simp at hu; subst hu; rfl) (by decide) ?c3 ?c4 ?c5 (Y.heap.size + 1) (by simp) ?_)
        case c3 => unfold maxLen; omega
        case c4 => omega
        case c5 => first | omega | (simp; omega)
        intro g1 gc1 w1 hown1 hgrow1 hat1 hlt1
        obtain ⟨⟨d10, d11⟩, s1', k1', r1'⟩ := HPV1.out w1 g1 gc1 _ rfl hown1 hgrow1 hat1
        have S2 := hide s1'
        have K1 := hide k1'
        have R1 := hide r1'
        clear s1' k1' r1' hown1 hgrow1 hat1 hlt1 hnews1 ho1 HPV1 c2y
        go_upto_region 25 with fail
        obtain ⟨v1, HV1⟩ : ∃ v1, Hid (Value.slice (some ⟨g1, 0, none⟩) (d.K + 1) gc1 = v1) := ⟨_, rfl⟩
        rw [HV1.out] at S2 K1 R1 ⊢
        obtain ⟨Y2, HY2⟩ : ∃ Y2, Hid (w1.setCell ⟨sx, 2, none⟩ v1 = Y2) := ⟨_, rfl⟩
        rw [HY2.out] at S2 K1 R1 ⊢
        have HBY2 : Hid (Below w.heap.size w Y2) := HBY1.out.trans (K1.out.below hbase1 (fun i hi => by rcases hi with hi | hi; exact HGE.out i (.inl hi); exact HGE.out i (.inr (by rw [← HEV1.out] at hi; exact .inl hi))))
        clear d10 d11
        obtain ⟨i2, hi2, hz20, hz21, hz22⟩ := info_parts Try.infoPR
        have c3y := S2.out.c3
        have hX2 := (Below.refl Y2.heap.size Y2).alloc (Nat.le_refl _) (.cells #[.pointer none] 49)
        have ho2 := own_below S2.out.ob hX2
        have HPU2 := fun (w1 : World) (g cap : Nat) (v1 : Value) hv ho hgr hat => Sn3.pushB S2.out hX2 (w1 := w1) (g := g) (cap := cap) (u := .pointer none) (v1 := v1) hv ho hgr hat
        rw [ptrsV_length] at ho2 HPU2
        have HPV2 := hide HPU2
        have hnews2 := cell_one Y2 (.pointer none) 49
        have hbase2 := HBY2.out.size
        obtain ⟨ao2, cap2, ev2, _⟩ := own_slice S2.out.ob
        rw [ptrsV_length] at ev2
        have HEV2 := hide ev2
        rw [ev2] at c3y ho2 HPV2
        clear hX2 HPU2 ev2
        go_wp2_with (at_builtin; refine wpList_append_lies _ rfl _ _ 31 rfl w.heap.size 49 i2 (.pointer none) 1 8 Try.underlying31 hi2 hz20 hz21 hz22 rfl (by decide) _ _ _ rfl ho2 ⟨Y2.heap.size, 0, none⟩ 1 1 [.pointer none] rfl rfl hnews2 (by intro u hu; simp at hu; subst hu; rfl) (by decide) ?c3 ?c4 ?c5 (Y2.heap.size + 1) (by simp) ?_)
        case c3 => unfold maxLen; omega
        case c4 => omega
        case c5 => first | omega | (simp; omega)
        intro g2 gc2 w2 hown2 hgrow2 hat2 hlt2
        obtain ⟨⟨d20, d21⟩, s2', k2', r2'⟩ := HPV2.out w2 g2 gc2 _ rfl hown2 hgrow2 hat2
        have S3 := hide s2'
        have K2 := hide k2'
        have R2 := hide r2'
        clear s2' k2' r2' hown2 hgrow2 hat2 hlt2 hnews2 ho2 HPV2 c3y
        go_upto_region 26 with fail
        obtain ⟨v2, HV2⟩ : ∃ v2, Hid (Value.slice (some ⟨g2, 0, none⟩) (d.K + 1) gc2 = v2) := ⟨_, rfl⟩
        rw [HV2.out] at S3 K2 R2 ⊢
        obtain ⟨Y3, HY3⟩ : ∃ Y3, Hid (w2.setCell ⟨sx, 3, none⟩ v2 = Y3) := ⟨_, rfl⟩
        rw [HY3.out] at S3 K2 R2 ⊢
        have HBY3 : Hid (Below w.heap.size w Y3) := HBY2.out.trans (K2.out.below hbase2 (fun i hi => by rcases hi with hi | hi; exact HGE.out i (.inl hi); exact HGE.out i (.inr (by rw [← HEV2.out] at hi; exact .inr (.inl hi)))))
        clear d20 d21
        obtain ⟨i3, hi3, hz30, hz31, hz32⟩ := info_parts Try.infoPM
        have c4y := S3.out.c4
        have hX3 := (Below.refl Y3.heap.size Y3).alloc (Nat.le_refl _) (.cells #[.pointer (some ⟨wr.heap.size, 0, none⟩)] 38)
        have ho3 := own_below S3.out.om hX3
        have HPU3 := fun (w1 : World) (g cap : Nat) (v1 : Value) hv ho hgr hat => Sn3.pushM S3.out hX3 (w1 := w1) (g := g) (cap := cap) (u := .pointer (some ⟨wr.heap.size, 0, none⟩)) (v1 := v1) hv ho hgr hat
        rw [ptrsV_length] at ho3 HPU3
        have HPV3 := hide HPU3
        have hnews3 := cell_one Y3 (.pointer (some ⟨wr.heap.size, 0, none⟩)) 38
        have hbase3 := HBY3.out.size
        obtain ⟨ao3, cap3, ev3, _⟩ := own_slice S3.out.om
        rw [ptrsV_length] at ev3
        have HEV3 := hide ev3
        rw [ev3] at c4y ho3 HPV3
        clear hX3 HPU3 ev3
        go_wp2_with (at_builtin; refine wpList_append_lies _ rfl _ _ 32 rfl w.heap.size 38 i3 (.pointer none) 1 8 Try.underlying32 hi3 hz30 hz31 hz32 rfl (by decide) _ _ _ rfl ho3 ⟨Y3.heap.size, 0, none⟩ 1 1 [.pointer (some ⟨wr.heap.size, 0, none⟩)] rfl rfl hnews3 (by intro u hu; simp at hu; subst hu; rfl) (by decide) ?c3 ?c4 ?c5 (Y3.heap.size + 1) (by simp) ?_)
        case c3 => unfold maxLen; omega
        case c4 => omega
        case c5 => first | omega | (simp; omega)
        intro g3 gc3 w3 hown3 hgrow3 hat3 hlt3
        obtain ⟨⟨d30, d31⟩, s3', k3', r3'⟩ := HPV3.out w3 g3 gc3 _ rfl hown3 hgrow3 hat3
        have S4 := hide s3'
        have K3 := hide k3'
        have R3 := hide r3'
        clear s3' k3' r3' hown3 hgrow3 hat3 hlt3 hnews3 ho3 HPV3 c4y
        go_upto_region 5 with fail
        obtain ⟨v3, HV3⟩ : ∃ v3, Hid (Value.slice (some ⟨g3, 0, none⟩) (d.K + 1) gc3 = v3) := ⟨_, rfl⟩
        rw [HV3.out] at S4 K3 R3 ⊢
        obtain ⟨Y4, HY4⟩ : ∃ Y4, Hid (w3.setCell ⟨sx, 4, none⟩ v3 = Y4) := ⟨_, rfl⟩
        rw [HY4.out] at S4 K3 R3 ⊢
        have HBY4 : Hid (Below w.heap.size w Y4) := HBY3.out.trans (K3.out.below hbase3 (fun i hi => by rcases hi with hi | hi; exact HGE.out i (.inl hi); exact HGE.out i (.inr (by rw [← HEV3.out] at hi; exact .inr (.inr hi)))))
        clear d30 d31
        have HKA : Hid (Keeps (fun i => i = d.sx ∨ d.va.ownBlock = some i ∨ d.vb.ownBlock = some i ∨ d.vm.ownBlock = some i) Y Y4) := by
          have k1 := K1.out
          have k2 := K2.out
          have k3 := K3.out
          rw [← HEV1.out] at k1
          rw [← HEV2.out] at k2
          rw [← HEV3.out] at k3
          rw [Hid, HOP.out.ex]
          exact ((k1.wider (T := fun i => i = sx ∨ d.va.ownBlock = some i ∨ d.vb.ownBlock = some i ∨ d.vm.ownBlock = some i) (fun i _ hi => hi.elim .inl (fun e => .inr (.inl e)))).trans k2 (fun i _ hi => hi.elim .inl (fun e => .inr (.inr (.inl e))))).trans k3 (fun i _ hi => hi.elim .inl (fun e => .inr (.inr (.inr e))))
        have HZG : Hid (∀ g, (v1.ownBlock = some g ∨ v2.ownBlock = some g ∨ v3.ownBlock = some g) → (d.va.ownBlock = some g ∨ d.vb.ownBlock = some g ∨ d.vm.ownBlock = some g) ∨ (Y.heap.size ≤ g ∧ g < Y4.heap.size)) := fun g e => by
          have z1 := K1.out.size
          have z2 := K2.out.size
          have z3 := K3.out.size
          rcases e with e | e | e
          · rcases R1.out g e with e | e
            · rw [← HEV1.out] at e; exact .inl (.inl e)
            · exact .inr (by omega)
          · rcases R2.out g e with e | e
            · rw [← HEV2.out] at e; exact .inl (.inr (.inl e))
            · exact .inr (by omega)
          · rcases R3.out g e with e | e
            · rw [← HEV3.out] at e; exact .inl (.inr (.inr e))
            · exact .inr (by omega)
        obtain ⟨o', hA'⟩ := sc_push C HA.out (u1 := .pointer (some ⟨p, 0, none⟩)) (u2 := .pointer none) (u3 := .pointer (some ⟨wr.heap.size, 0, none⟩)) HYB.out (by rw [HOP.out.et, HOP.out.eN, HOP.out.en]; exact HXY.out) HMY.out HRY.out ⟨Nat.le_refl _, HQM.out⟩ HLY.out (fun g e => (by cases e)) HLG.out rfl rfl rfl HKA.out (by rw [HOP.out.ex, HOP.out.et]; exact S4.out) HZG.out
        have hop' := HOP.out.push HFR.out HNO.out v1 v2 v3 p wr.heap.size
        have HA2 := hide hA'
        have HOP2 := hide hop'
        clear hA' hop' S1 S2 S3 S4 K1 K2 K3 R1 R2 R3 HKA HZG HA HOP
        go_wp2
        go_roundw
        case rel => exact ⟨i + 1, o', _, k, _, _, _, by go_num, by omega, HA2.out, HOP2.out, by show d.K + 1 ≤ i + 1; omega, hk1, HBY4.out⟩
        case measure => simp [intOf]; omega
      · by_cases hk2' : zi.kd = 2
        · rw [hk2'] at c0
          by_cases h8 : s.size = 8
          · have h8' : (s.size : Int) = 8 := by omega
            obtain ⟨nn, hnn, hnb⟩ : ∃ nn : Nat, zi.n = (nn : Int) ∧ nn < 18446744073709551616 := ⟨zi.n.toNat, by have := hzo.n; omega, by have := hzo.n; omega⟩
            rw [hnn] at c2'
            have hN1 : wordsFor s.size = 1 := by rw [h8]; rfl
            have hb8 := HBF.out.keep (R := fun _ => False) (Below.keeps b0) (fun _ _ => id)
            rw [hN1] at hb8
            have HNA := hide (C.newA nn hb8 hnb)
            clear hb8
            go_wp2_with fail
            refine HNA.out.mono ?_
            rintro e y1' ⟨M, p, rfl, hx, hM, b1⟩
            have B1 := b0.trans (b1.mono b0.size)
            have hr1 := hmk.below b1
            have hb1' := b1.size
            have d1 := hr1.cs 1 (by omega)
            have e1 := hr1.fs 1 (by omega)
            have hr2 := hr1.set 1 (by omega) (.bool true) (x' := { wk00 with ad := true }) (fun j hj => by
              match j, hj with
              | 0, _ => rfl
              | 1, _ => rfl
              | 2, _ => rfl
              | 3, _ => rfl
              | 4, _ => rfl
              | 5, _ => rfl
              | 6, _ => rfl
              | 7, _ => rfl) rfl rfl
            have d2 := hr2.cs 2 (by omega)
            have e2 := hr2.fs 2 (by omega)
            have hr3 := hr2.set 2 (by omega) (.int .u64 (nn : Int)) (x' := wkA nn) (fun j hj => by
              match j, hj with
              | 0, _ => rfl
              | 1, _ => rfl
              | 2, _ => rfl
              | 3, _ => rfl
              | 4, _ => rfl
              | 5, _ => rfl
              | 6, _ => rfl
              | 7, _ => rfl) rfl rfl
            have c2y := (b1.cell (p := ⟨bb, off + i * 3 + 2, none⟩) (World.block_lt_of_cell? _ _ c2')).trans c2'
            have hbq : bb ≠ wr.heap.size := fun e => by have := hal; omega
            have hqm : ¬ M wr.heap.size := fun e => by have := hM _ e; omega
            have HRY := hide hr3
            have HXY : Hid (X ((y1'.setCell ⟨wr.heap.size, 1, none⟩ (.bool true)).setCell ⟨wr.heap.size, 2, none⟩ (.int .u64 (nn : Int))) M t p (wordsFor s.size) s.size (wkA nn)) := by
              rw [hN1, h8]
              exact C.keep (R := fun i => i = wr.heap.size) hx (Keeps.setCell (S := fun i => i = wr.heap.size) (Keeps.setCell (S := fun i => i = wr.heap.size) (Keeps.refl _ _) ⟨wr.heap.size, 1, none⟩ (fun _ => rfl) _) ⟨wr.heap.size, 2, none⟩ (fun _ => rfl) _) (fun i hi e => by subst e; exact hqm hi)
            have HMY : Hid (∀ i, M i → wr.heap.size ≤ i ∧ i < ((y1'.setCell ⟨wr.heap.size, 1, none⟩ (.bool true)).setCell ⟨wr.heap.size, 2, none⟩ (.int .u64 (nn : Int))).heap.size) := fun i hi => by
              have h1 := hM i hi
              have h2 := C.lt hx i hi
              have h3 := b0.size
              exact ⟨by omega, by simpa using h2⟩
            have HYB := hide ((B1.setCell (p := ⟨wr.heap.size, 1, none⟩) (Nat.le_refl _) (.bool true)).setCell (p := ⟨wr.heap.size, 2, none⟩) (Nat.le_refl _) (.int .u64 (nn : Int)))
            have HFR : Hid (WkFresh (wordsFor s.size) (wkA nn)) := .inr (.inl ⟨hN1, nn, hnb, rfl⟩)
            have HNO : Hid ((∀ i, i < n → (z i).kd ≠ 1) → (wkA nn).rd = false → (wkA nn).ad = true) := fun _ _ => rfl
            have HQM := hide hqm
            have HLY : Hid (∀ g, (Value.slice none 0 0).ownBlock = some g → wr.heap.size ≤ g ∧ ¬ M g) := fun g e => (by cases e)
            have HLG : Hid (∀ g, (Value.slice none 0 0).ownBlock = some g → (Value.slice none 0 0).ownBlock ≠ some g) := fun g e => (by cases e)
            have hwq : wr.heap.size < y1'.heap.size := by omega
            clear hx hM hr1 hr2 hr3 hqm B1 b1 hmk b0 c0 c1 c2' hb1' HNA hN1
            go_upto_region 22 with fail
            generalize (y1'.setCell ⟨wr.heap.size, 1, none⟩ (.bool true)).setCell ⟨wr.heap.size, 2, none⟩ (.int .u64 (nn : Int)) = Y at *
            clear d1 e1 d2 e2 c2y
            have S1 : Hid (Sn3 Y w.heap.size sx t d.m d.va d.vb d.vm (ptrsV d.fa d.K) (ptrsV d.fb d.K) (ptrsV d.fm d.K)) := by
              have := (HA.out.s.three).below HYB.out
              rw [HOP.out.ex, HOP.out.et] at this
              exact this
            have HBY1 : Hid (Below w.heap.size w Y) := HBE.out.trans (HYB.out.mono HBE.out.size)
            obtain ⟨i1, hi1, hz10, hz11, hz12⟩ := info_parts Try.infoPW
            have c2y := S1.out.c2
            have hX1 := (Below.refl Y.heap.size Y).alloc (Nat.le_refl _) (.cells #[.pointer (some ⟨p, 0, none⟩)] 51)
            have ho1 := own_below S1.out.oa hX1
            have HPU1 := fun (w1 : World) (g cap : Nat) (v1 : Value) hv ho hgr hat => Sn3.pushA S1.out hX1 (w1 := w1) (g := g) (cap := cap) (u := .pointer (some ⟨p, 0, none⟩)) (v1 := v1) hv ho hgr hat
            rw [ptrsV_length] at ho1 HPU1
            have HPV1 := hide HPU1
            have hnews1 := cell_one Y (.pointer (some ⟨p, 0, none⟩)) 51
            have hbase1 := HBY1.out.size
            obtain ⟨ao1, cap1, ev1, _⟩ := own_slice S1.out.oa
            rw [ptrsV_length] at ev1
            have HEV1 := hide ev1
            rw [ev1] at c2y ho1 HPV1
            clear hX1 HPU1 ev1
            go_wp2_with (at_builtin; refine wpList_append_lies _ rfl _ _ 30 rfl w.heap.size 51 i1 (.pointer none) 1 8 Try.underlying30 hi1 hz10 hz11 hz12 rfl (by decide) _ _ _ rfl ho1 ⟨Y.heap.size, 0, none⟩ 1 1 [.pointer (some ⟨p, 0, none⟩)] rfl rfl hnews1 (by intro u hu; simp at hu; subst hu; rfl) (by decide) ?c3 ?c4 ?c5 (Y.heap.size + 1) (by simp) ?_)
            case c3 => unfold maxLen; omega
            case c4 => omega
            case c5 => first | omega | (simp; omega)
            intro g1 gc1 w1 hown1 hgrow1 hat1 hlt1
            obtain ⟨⟨d10, d11⟩, s1', k1', r1'⟩ := HPV1.out w1 g1 gc1 _ rfl hown1 hgrow1 hat1
            have S2 := hide s1'
            have K1 := hide k1'
            have R1 := hide r1'
            clear s1' k1' r1' hown1 hgrow1 hat1 hlt1 hnews1 ho1 HPV1 c2y
            go_upto_region 25 with fail
            obtain ⟨v1, HV1⟩ : ∃ v1, Hid (Value.slice (some ⟨g1, 0, none⟩) (d.K + 1) gc1 = v1) := ⟨_, rfl⟩
            rw [HV1.out] at S2 K1 R1 ⊢
            obtain ⟨Y2, HY2⟩ : ∃ Y2, Hid (w1.setCell ⟨sx, 2, none⟩ v1 = Y2) := ⟨_, rfl⟩
            rw [HY2.out] at S2 K1 R1 ⊢
            have HBY2 : Hid (Below w.heap.size w Y2) := HBY1.out.trans (K1.out.below hbase1 (fun i hi => by rcases hi with hi | hi; exact HGE.out i (.inl hi); exact HGE.out i (.inr (by rw [← HEV1.out] at hi; exact .inl hi))))
            clear d10 d11
            obtain ⟨i2, hi2, hz20, hz21, hz22⟩ := info_parts Try.infoPR
            have c3y := S2.out.c3
            have hX2 := (Below.refl Y2.heap.size Y2).alloc (Nat.le_refl _) (.cells #[.pointer none] 49)
            have ho2 := own_below S2.out.ob hX2
            have HPU2 := fun (w1 : World) (g cap : Nat) (v1 : Value) hv ho hgr hat => Sn3.pushB S2.out hX2 (w1 := w1) (g := g) (cap := cap) (u := .pointer none) (v1 := v1) hv ho hgr hat
            rw [ptrsV_length] at ho2 HPU2
            have HPV2 := hide HPU2
            have hnews2 := cell_one Y2 (.pointer none) 49
            have hbase2 := HBY2.out.size
            obtain ⟨ao2, cap2, ev2, _⟩ := own_slice S2.out.ob
            rw [ptrsV_length] at ev2
            have HEV2 := hide ev2
            rw [ev2] at c3y ho2 HPV2
            clear hX2 HPU2 ev2
            go_wp2_with (at_builtin; refine wpList_append_lies _ rfl _ _ 31 rfl w.heap.size 49 i2 (.pointer none) 1 8 Try.underlying31 hi2 hz20 hz21 hz22 rfl (by decide) _ _ _ rfl ho2 ⟨Y2.heap.size, 0, none⟩ 1 1 [.pointer none] rfl rfl hnews2 (by intro u hu; simp at hu; subst hu; rfl) (by decide) ?c3 ?c4 ?c5 (Y2.heap.size + 1) (by simp) ?_)
            case c3 => unfold maxLen; omega
            case c4 => omega
            case c5 => first | omega | (simp; omega)
            intro g2 gc2 w2 hown2 hgrow2 hat2 hlt2
            obtain ⟨⟨d20, d21⟩, s2', k2', r2'⟩ := HPV2.out w2 g2 gc2 _ rfl hown2 hgrow2 hat2
            have S3 := hide s2'
            have K2 := hide k2'
            have R2 := hide r2'
            clear s2' k2' r2' hown2 hgrow2 hat2 hlt2 hnews2 ho2 HPV2 c3y
            go_upto_region 26 with fail
            obtain ⟨v2, HV2⟩ : ∃ v2, Hid (Value.slice (some ⟨g2, 0, none⟩) (d.K + 1) gc2 = v2) := ⟨_, rfl⟩
            rw [HV2.out] at S3 K2 R2 ⊢
            obtain ⟨Y3, HY3⟩ : ∃ Y3, Hid (w2.setCell ⟨sx, 3, none⟩ v2 = Y3) := ⟨_, rfl⟩
            rw [HY3.out] at S3 K2 R2 ⊢
            have HBY3 : Hid (Below w.heap.size w Y3) := HBY2.out.trans (K2.out.below hbase2 (fun i hi => by rcases hi with hi | hi; exact HGE.out i (.inl hi); exact HGE.out i (.inr (by rw [← HEV2.out] at hi; exact .inr (.inl hi)))))
            clear d20 d21
            obtain ⟨i3, hi3, hz30, hz31, hz32⟩ := info_parts Try.infoPM
            have c4y := S3.out.c4
            have hX3 := (Below.refl Y3.heap.size Y3).alloc (Nat.le_refl _) (.cells #[.pointer (some ⟨wr.heap.size, 0, none⟩)] 38)
            have ho3 := own_below S3.out.om hX3
            have HPU3 := fun (w1 : World) (g cap : Nat) (v1 : Value) hv ho hgr hat => Sn3.pushM S3.out hX3 (w1 := w1) (g := g) (cap := cap) (u := .pointer (some ⟨wr.heap.size, 0, none⟩)) (v1 := v1) hv ho hgr hat
            rw [ptrsV_length] at ho3 HPU3
            have HPV3 := hide HPU3
            have hnews3 := cell_one Y3 (.pointer (some ⟨wr.heap.size, 0, none⟩)) 38
            have hbase3 := HBY3.out.size
            obtain ⟨ao3, cap3, ev3, _⟩ := own_slice S3.out.om
            rw [ptrsV_length] at ev3
            have HEV3 := hide ev3
            rw [ev3] at c4y ho3 HPV3
            clear hX3 HPU3 ev3
            go_wp2_with (at_builtin; refine wpList_append_lies _ rfl _ _ 32 rfl w.heap.size 38 i3 (.pointer none) 1 8 Try.underlying32 hi3 hz30 hz31 hz32 rfl (by decide) _ _ _ rfl ho3 ⟨Y3.heap.size, 0, none⟩ 1 1 [.pointer (some ⟨wr.heap.size, 0, none⟩)] rfl rfl hnews3 (by intro u hu; simp at hu; subst hu; rfl) (by decide) ?c3 ?c4 ?c5 (Y3.heap.size + 1) (by simp) ?_)
            case c3 => unfold maxLen; omega
            case c4 => omega
            case c5 => first | omega | (simp; omega)
            intro g3 gc3 w3 hown3 hgrow3 hat3 hlt3
            obtain ⟨⟨d30, d31⟩, s3', k3', r3'⟩ := HPV3.out w3 g3 gc3 _ rfl hown3 hgrow3 hat3
            have S4 := hide s3'
            have K3 := hide k3'
            have R3 := hide r3'
            clear s3' k3' r3' hown3 hgrow3 hat3 hlt3 hnews3 ho3 HPV3 c4y
            go_upto_region 5 with fail
            obtain ⟨v3, HV3⟩ : ∃ v3, Hid (Value.slice (some ⟨g3, 0, none⟩) (d.K + 1) gc3 = v3) := ⟨_, rfl⟩
            rw [HV3.out] at S4 K3 R3 ⊢
            obtain ⟨Y4, HY4⟩ : ∃ Y4, Hid (w3.setCell ⟨sx, 4, none⟩ v3 = Y4) := ⟨_, rfl⟩
            rw [HY4.out] at S4 K3 R3 ⊢
            have HBY4 : Hid (Below w.heap.size w Y4) := HBY3.out.trans (K3.out.below hbase3 (fun i hi => by rcases hi with hi | hi; exact HGE.out i (.inl hi); exact HGE.out i (.inr (by rw [← HEV3.out] at hi; exact .inr (.inr hi)))))
            clear d30 d31
            have HKA : Hid (Keeps (fun i => i = d.sx ∨ d.va.ownBlock = some i ∨ d.vb.ownBlock = some i ∨ d.vm.ownBlock = some i) Y Y4) := by
              have k1 := K1.out
              have k2 := K2.out
              have k3 := K3.out
              rw [← HEV1.out] at k1
              rw [← HEV2.out] at k2
              rw [← HEV3.out] at k3
              rw [Hid, HOP.out.ex]
              exact ((k1.wider (T := fun i => i = sx ∨ d.va.ownBlock = some i ∨ d.vb.ownBlock = some i ∨ d.vm.ownBlock = some i) (fun i _ hi => hi.elim .inl (fun e => .inr (.inl e)))).trans k2 (fun i _ hi => hi.elim .inl (fun e => .inr (.inr (.inl e))))).trans k3 (fun i _ hi => hi.elim .inl (fun e => .inr (.inr (.inr e))))
            have HZG : Hid (∀ g, (v1.ownBlock = some g ∨ v2.ownBlock = some g ∨ v3.ownBlock = some g) → (d.va.ownBlock = some g ∨ d.vb.ownBlock = some g ∨ d.vm.ownBlock = some g) ∨ (Y.heap.size ≤ g ∧ g < Y4.heap.size)) := fun g e => by
              have z1 := K1.out.size
              have z2 := K2.out.size
              have z3 := K3.out.size
              rcases e with e | e | e
              · rcases R1.out g e with e | e
                · rw [← HEV1.out] at e; exact .inl (.inl e)
                · exact .inr (by omega)
              · rcases R2.out g e with e | e
                · rw [← HEV2.out] at e; exact .inl (.inr (.inl e))
                · exact .inr (by omega)
              · rcases R3.out g e with e | e
                · rw [← HEV3.out] at e; exact .inl (.inr (.inr e))
                · exact .inr (by omega)
            obtain ⟨o', hA'⟩ := sc_push C HA.out (u1 := .pointer (some ⟨p, 0, none⟩)) (u2 := .pointer none) (u3 := .pointer (some ⟨wr.heap.size, 0, none⟩)) HYB.out (by rw [HOP.out.et, HOP.out.eN, HOP.out.en]; exact HXY.out) HMY.out HRY.out ⟨Nat.le_refl _, HQM.out⟩ HLY.out (fun g e => (by cases e)) HLG.out rfl rfl rfl HKA.out (by rw [HOP.out.ex, HOP.out.et]; exact S4.out) HZG.out
            have hop' := HOP.out.push HFR.out HNO.out v1 v2 v3 p wr.heap.size
            have HA2 := hide hA'
            have HOP2 := hide hop'
            clear hA' hop' S1 S2 S3 S4 K1 K2 K3 R1 R2 R3 HKA HZG HA HOP
            go_wp2
            go_roundw
            case rel => exact ⟨i + 1, o', _, k, _, _, _, by go_num, by omega, HA2.out, HOP2.out, by show d.K + 1 ≤ i + 1; omega, hk1, HBY4.out⟩
            case measure => simp [intOf]; omega

          · have h8' : ¬ (s.size : Int) = 8 := by omega
            have h8b : ((s.size : Int) != 8) = true := by simp; omega
            have HA2 := hide (HA.out.below C b0)
            have HB2 : Hid (Below w.heap.size w _) := HBE.out.trans (b0.mono HBE.out.size)
            clear hmk b0 HA
            go_wp2
            go_roundw
            case rel => exact ⟨i + 1, o, d, k, vls, vgs, xs, by go_num, by omega, HA2.out, HOP.out, by omega, hk1, HB2.out⟩
            case measure => simp [intOf]; omega
        · have hkb1 : (zi.kd == 1) = false := by rw [beq_eq_false_iff_ne]; exact hk1'
          have hkb2 : (zi.kd == 2) = false := by rw [beq_eq_false_iff_ne]; exact hk2'
          have HNR := hide (C.newR s.size (HBF.out.keep (R := fun _ => False) (Below.keeps b0) (fun _ _ => id)) (by omega) rfl)
          clear c1 c2'
          go_wp2_with fail
          refine HNR.out.mono ?_
          rintro e y1' ⟨M, p, rfl, hx, hM, b1⟩
          have B1 := b0.trans (b1.mono b0.size)
          have hr1 := hmk.below b1
          have hb1' := b1.size
          have d1 := hr1.cs 0 (by omega)
          have e1 := hr1.fs 0 (by omega)
          have hr2 := hr1.set 0 (by omega) (.bool true) (x' := wkR) (fun j hj => by
            match j, hj with
            | 0, _ => rfl
            | 1, _ => rfl
            | 2, _ => rfl
            | 3, _ => rfl
            | 4, _ => rfl
            | 5, _ => rfl
            | 6, _ => rfl
            | 7, _ => rfl) rfl rfl
          have hqm : ¬ M wr.heap.size := fun e => by have := hM _ e; omega
          have HRY := hide hr2
          have HXY : Hid (X (y1'.setCell ⟨wr.heap.size, 0, none⟩ (.bool true)) M t p (wordsFor s.size) s.size wkR) := C.keep (R := fun i => i = wr.heap.size) hx (Keeps.setCell (S := fun i => i = wr.heap.size) (Keeps.refl _ _) ⟨wr.heap.size, 0, none⟩ (fun _ => rfl) _) (fun i hi e => by subst e; exact hqm hi)
          have HMY : Hid (∀ i, M i → wr.heap.size ≤ i ∧ i < (y1'.setCell ⟨wr.heap.size, 0, none⟩ (.bool true)).heap.size) := fun i hi => by
            have h1 := hM i hi
            have h2 := C.lt hx i hi
            have h3 := b0.size
            exact ⟨by omega, by simpa using h2⟩
          have HYB := hide (B1.setCell (p := ⟨wr.heap.size, 0, none⟩) (Nat.le_refl _) (.bool true))
          have HFR : Hid (WkFresh (wordsFor s.size) wkR) := .inl rfl
          have HNO : Hid ((∀ i, i < n → (z i).kd ≠ 1) → wkR.rd = false → wkR.ad = true) := fun _ h => (by cases h)
          have HQM := hide hqm
          have HLY : Hid (∀ g, (Value.slice none 0 0).ownBlock = some g → wr.heap.size ≤ g ∧ ¬ M g) := fun g e => (by cases e)
          have HLG : Hid (∀ g, (Value.slice none 0 0).ownBlock = some g → (Value.slice none 0 0).ownBlock ≠ some g) := fun g e => (by cases e)
          have hwq : wr.heap.size < y1'.heap.size := by omega
          clear hx hM hr1 hr2 hqm B1 b1 hmk b0 c0 hb1' HNR
          go_upto_region 22 with fail
          generalize y1'.setCell ⟨wr.heap.size, 0, none⟩ (.bool true) = Y at *
          clear d1 e1
          have S1 : Hid (Sn3 Y w.heap.size sx t d.m d.va d.vb d.vm (ptrsV d.fa d.K) (ptrsV d.fb d.K) (ptrsV d.fm d.K)) := by
            have := (HA.out.s.three).below HYB.out
            rw [HOP.out.ex, HOP.out.et] at this
            exact this
          have HBY1 : Hid (Below w.heap.size w Y) := HBE.out.trans (HYB.out.mono HBE.out.size)
          obtain ⟨i1, hi1, hz10, hz11, hz12⟩ := info_parts Try.infoPW
          have c2y := S1.out.c2
          have hX1 := (Below.refl Y.heap.size Y).alloc (Nat.le_refl _) (.cells #[.pointer none] 51)
          have ho1 := own_below S1.out.oa hX1
          have HPU1 := fun (w1 : World) (g cap : Nat) (v1 : Value) hv ho hgr hat => Sn3.pushA S1.out hX1 (w1 := w1) (g := g) (cap := cap) (u := .pointer none) (v1 := v1) hv ho hgr hat
          rw [ptrsV_length] at ho1 HPU1
          have HPV1 := hide HPU1
          have hnews1 := cell_one Y (.pointer none) 51
          have hbase1 := HBY1.out.size
          obtain ⟨ao1, cap1, ev1, _⟩ := own_slice S1.out.oa
          rw [ptrsV_length] at ev1
          have HEV1 := hide ev1
          rw [ev1] at c2y ho1 HPV1
          clear hX1 HPU1 ev1
          go_wp2_with (at_builtin; refine wpList_append_lies _ rfl _ _ 30 rfl w.heap.size 51 i1 (.pointer none) 1 8 Try.underlying30 hi1 hz10 hz11 hz12 rfl (by decide) _ _ _ rfl ho1 ⟨Y.heap.size, 0, none⟩ 1 1 [.pointer none] rfl rfl hnews1 (by intro u hu; simp at hu; subst hu; rfl) (by decide) ?c3 ?c4 ?c5 (Y.heap.size + 1) (by simp) ?_)
          case c3 => unfold maxLen; omega
          case c4 => omega
          case c5 => first | omega | (simp; omega)
          intro g1 gc1 w1 hown1 hgrow1 hat1 hlt1
          obtain ⟨⟨d10, d11⟩, s1', k1', r1'⟩ := HPV1.out w1 g1 gc1 _ rfl hown1 hgrow1 hat1
          have S2 := hide s1'
          have K1 := hide k1'
          have R1 := hide r1'
          clear s1' k1' r1' hown1 hgrow1 hat1 hlt1 hnews1 ho1 HPV1 c2y
          go_upto_region 25 with fail
          obtain ⟨v1, HV1⟩ : ∃ v1, Hid (Value.slice (some ⟨g1, 0, none⟩) (d.K + 1) gc1 = v1) := ⟨_, rfl⟩
          rw [HV1.out] at S2 K1 R1 ⊢
          obtain ⟨Y2, HY2⟩ : ∃ Y2, Hid (w1.setCell ⟨sx, 2, none⟩ v1 = Y2) := ⟨_, rfl⟩
          rw [HY2.out] at S2 K1 R1 ⊢
          have HBY2 : Hid (Below w.heap.size w Y2) := HBY1.out.trans (K1.out.below hbase1 (fun i hi => by rcases hi with hi | hi; exact HGE.out i (.inl hi); exact HGE.out i (.inr (by rw [← HEV1.out] at hi; exact .inl hi))))
          clear d10 d11
          obtain ⟨i2, hi2, hz20, hz21, hz22⟩ := info_parts Try.infoPR
          have c3y := S2.out.c3
          have hX2 := (Below.refl Y2.heap.size Y2).alloc (Nat.le_refl _) (.cells #[.pointer (some ⟨p, 0, none⟩)] 49)
          have ho2 := own_below S2.out.ob hX2
          have HPU2 := fun (w1 : World) (g cap : Nat) (v1 : Value) hv ho hgr hat => Sn3.pushB S2.out hX2 (w1 := w1) (g := g) (cap := cap) (u := .pointer (some ⟨p, 0, none⟩)) (v1 := v1) hv ho hgr hat
          rw [ptrsV_length] at ho2 HPU2
          have HPV2 := hide HPU2
          have hnews2 := cell_one Y2 (.pointer (some ⟨p, 0, none⟩)) 49
          have hbase2 := HBY2.out.size
          obtain ⟨ao2, cap2, ev2, _⟩ := own_slice S2.out.ob
          rw [ptrsV_length] at ev2
          have HEV2 := hide ev2
          rw [ev2] at c3y ho2 HPV2
          clear hX2 HPU2 ev2
          go_wp2_with (at_builtin; refine wpList_append_lies _ rfl _ _ 31 rfl w.heap.size 49 i2 (.pointer none) 1 8 Try.underlying31 hi2 hz20 hz21 hz22 rfl (by decide) _ _ _ rfl ho2 ⟨Y2.heap.size, 0, none⟩ 1 1 [.pointer (some ⟨p, 0, none⟩)] rfl rfl hnews2 (by intro u hu; simp at hu; subst hu; rfl) (by decide) ?c3 ?c4 ?c5 (Y2.heap.size + 1) (by simp) ?_)
          case c3 => unfold maxLen; omega
          case c4 => omega
          case c5 => first | omega | (simp; omega)
          intro g2 gc2 w2 hown2 hgrow2 hat2 hlt2
          obtain ⟨⟨d20, d21⟩, s2', k2', r2'⟩ := HPV2.out w2 g2 gc2 _ rfl hown2 hgrow2 hat2
          have S3 := hide s2'
          have K2 := hide k2'
          have R2 := hide r2'
          clear s2' k2' r2' hown2 hgrow2 hat2 hlt2 hnews2 ho2 HPV2 c3y
          go_upto_region 26 with fail
          obtain ⟨v2, HV2⟩ : ∃ v2, Hid (Value.slice (some ⟨g2, 0, none⟩) (d.K + 1) gc2 = v2) := ⟨_, rfl⟩
          rw [HV2.out] at S3 K2 R2 ⊢
          obtain ⟨Y3, HY3⟩ : ∃ Y3, Hid (w2.setCell ⟨sx, 3, none⟩ v2 = Y3) := ⟨_, rfl⟩
          rw [HY3.out] at S3 K2 R2 ⊢
          have HBY3 : Hid (Below w.heap.size w Y3) := HBY2.out.trans (K2.out.below hbase2 (fun i hi => by rcases hi with hi | hi; exact HGE.out i (.inl hi); exact HGE.out i (.inr (by rw [← HEV2.out] at hi; exact .inr (.inl hi)))))
          clear d20 d21
          obtain ⟨i3, hi3, hz30, hz31, hz32⟩ := info_parts Try.infoPM
          have c4y := S3.out.c4
          have hX3 := (Below.refl Y3.heap.size Y3).alloc (Nat.le_refl _) (.cells #[.pointer (some ⟨wr.heap.size, 0, none⟩)] 38)
          have ho3 := own_below S3.out.om hX3
          have HPU3 := fun (w1 : World) (g cap : Nat) (v1 : Value) hv ho hgr hat => Sn3.pushM S3.out hX3 (w1 := w1) (g := g) (cap := cap) (u := .pointer (some ⟨wr.heap.size, 0, none⟩)) (v1 := v1) hv ho hgr hat
          rw [ptrsV_length] at ho3 HPU3
          have HPV3 := hide HPU3
          have hnews3 := cell_one Y3 (.pointer (some ⟨wr.heap.size, 0, none⟩)) 38
          have hbase3 := HBY3.out.size
          obtain ⟨ao3, cap3, ev3, _⟩ := own_slice S3.out.om
          rw [ptrsV_length] at ev3
          have HEV3 := hide ev3
          rw [ev3] at c4y ho3 HPV3
          clear hX3 HPU3 ev3
          go_wp2_with (at_builtin; refine wpList_append_lies _ rfl _ _ 32 rfl w.heap.size 38 i3 (.pointer none) 1 8 Try.underlying32 hi3 hz30 hz31 hz32 rfl (by decide) _ _ _ rfl ho3 ⟨Y3.heap.size, 0, none⟩ 1 1 [.pointer (some ⟨wr.heap.size, 0, none⟩)] rfl rfl hnews3 (by intro u hu; simp at hu; subst hu; rfl) (by decide) ?c3 ?c4 ?c5 (Y3.heap.size + 1) (by simp) ?_)
          case c3 => unfold maxLen; omega
          case c4 => omega
          case c5 => first | omega | (simp; omega)
          intro g3 gc3 w3 hown3 hgrow3 hat3 hlt3
          obtain ⟨⟨d30, d31⟩, s3', k3', r3'⟩ := HPV3.out w3 g3 gc3 _ rfl hown3 hgrow3 hat3
          have S4 := hide s3'
          have K3 := hide k3'
          have R3 := hide r3'
          clear s3' k3' r3' hown3 hgrow3 hat3 hlt3 hnews3 ho3 HPV3 c4y
          go_upto_region 5 with fail
          obtain ⟨v3, HV3⟩ : ∃ v3, Hid (Value.slice (some ⟨g3, 0, none⟩) (d.K + 1) gc3 = v3) := ⟨_, rfl⟩
          rw [HV3.out] at S4 K3 R3 ⊢
          obtain ⟨Y4, HY4⟩ : ∃ Y4, Hid (w3.setCell ⟨sx, 4, none⟩ v3 = Y4) := ⟨_, rfl⟩
          rw [HY4.out] at S4 K3 R3 ⊢
          have HBY4 : Hid (Below w.heap.size w Y4) := HBY3.out.trans (K3.out.below hbase3 (fun i hi => by rcases hi with hi | hi; exact HGE.out i (.inl hi); exact HGE.out i (.inr (by rw [← HEV3.out] at hi; exact .inr (.inr hi)))))
          clear d30 d31
          have HKA : Hid (Keeps (fun i => i = d.sx ∨ d.va.ownBlock = some i ∨ d.vb.ownBlock = some i ∨ d.vm.ownBlock = some i) Y Y4) := by
            have k1 := K1.out
            have k2 := K2.out
            have k3 := K3.out
            rw [← HEV1.out] at k1
            rw [← HEV2.out] at k2
            rw [← HEV3.out] at k3
            rw [Hid, HOP.out.ex]
            exact ((k1.wider (T := fun i => i = sx ∨ d.va.ownBlock = some i ∨ d.vb.ownBlock = some i ∨ d.vm.ownBlock = some i) (fun i _ hi => hi.elim .inl (fun e => .inr (.inl e)))).trans k2 (fun i _ hi => hi.elim .inl (fun e => .inr (.inr (.inl e))))).trans k3 (fun i _ hi => hi.elim .inl (fun e => .inr (.inr (.inr e))))
          have HZG : Hid (∀ g, (v1.ownBlock = some g ∨ v2.ownBlock = some g ∨ v3.ownBlock = some g) → (d.va.ownBlock = some g ∨ d.vb.ownBlock = some g ∨ d.vm.ownBlock = some g) ∨ (Y.heap.size ≤ g ∧ g < Y4.heap.size)) := fun g e => by
            have z1 := K1.out.size
            have z2 := K2.out.size
            have z3 := K3.out.size
            rcases e with e | e | e
            · rcases R1.out g e with e | e
              · rw [← HEV1.out] at e; exact .inl (.inl e)
              · exact .inr (by omega)
            · rcases R2.out g e with e | e
              · rw [← HEV2.out] at e; exact .inl (.inr (.inl e))
              · exact .inr (by omega)
            · rcases R3.out g e with e | e
              · rw [← HEV3.out] at e; exact .inl (.inr (.inr e))
              · exact .inr (by omega)
          obtain ⟨o', hA'⟩ := sc_push C HA.out (u1 := .pointer none) (u2 := .pointer (some ⟨p, 0, none⟩)) (u3 := .pointer (some ⟨wr.heap.size, 0, none⟩)) HYB.out (by rw [HOP.out.et, HOP.out.eN, HOP.out.en]; exact HXY.out) HMY.out HRY.out ⟨Nat.le_refl _, HQM.out⟩ HLY.out (fun g e => (by cases e)) HLG.out rfl rfl rfl HKA.out (by rw [HOP.out.ex, HOP.out.et]; exact S4.out) HZG.out
          have hop' := HOP.out.push HFR.out HNO.out v1 v2 v3 p wr.heap.size
          have HA2 := hide hA'
          have HOP2 := hide hop'
          clear hA' hop' S1 S2 S3 S4 K1 K2 K3 R1 R2 R3 HKA HZG HA HOP
          go_wp2
          go_roundw
          case rel => exact ⟨i + 1, o', _, k, _, _, _, by go_num, by omega, HA2.out, HOP2.out, by show d.K + 1 ≤ i + 1; omega, hk1, HBY4.out⟩
          case measure => simp [intOf]; omega

    · have HA2 := hide hA
      have HOP2 := hide hop
      have HB2 := hide hbel
      have hex := hop.ex
      clear hA hbel
      by_cases h1 : i < n
      · have h2 : ¬ (i : Int) < 6 := by omega
        have h1' : (i : Int) < (n : Int) := by omega
        clear hop
        subst hex
        go_wp2
        go_ret2
        exact ⟨d, rfl, o, k, vls, vgs, xs, HA2.out, ⟨HOP2.out.eN, HOP2.out.en, rfl, rfl, HOP2.out.fr, HOP2.out.rd, HOP2.out.ad⟩, by omega, hk1, HB2.out⟩
      · have h1' : ¬ (i : Int) < (n : Int) := by omega
        clear hop
        subst hex
        go_wp2
        go_ret2
        exact ⟨d, rfl, o, k, vls, vgs, xs, HA2.out, ⟨HOP2.out.eN, HOP2.out.en, rfl, rfl, HOP2.out.fr, HOP2.out.rd, HOP2.out.ad⟩, by omega, hk1, HB2.out⟩
end Go.Proofs.Ytikpphbgjbfddaa
