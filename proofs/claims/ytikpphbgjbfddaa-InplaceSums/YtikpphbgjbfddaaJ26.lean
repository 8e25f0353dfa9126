/- Parts of the proof: Bj Bk. -/
import Derived.Test.YtikpphbgjbfddaaJ16
import Derived.Test.YtikpphbgjbfddaaJ24
import Derived.Test.YtikpphbgjbfddaaJ25
namespace Go.Proofs.Ytikpphbgjbfddaa
set_option maxRecDepth 20000
open Go.RowKit
/-- The state that tells of somebody. -/
def stW (x : Wk) (N : Nat) : Nat := if x.dn = true then 4 else if x.mv = 0 then 0 else if x.rd = true then onN (x.mv - 1) N else if x.ad = true ∧ x.mv = 1 then 1 else onN x.at N
def adV (x : Wk) (n : Nat) : Value := if x.rd = true then .int .i64 (n : Int) else .bool x.ad
structure PwX (w : World) (M : Nat → Prop) (t p N n : Nat) (x : Wk) (g nx sn : Nat) (ml : List Nat) : Prop where
  at' : PwAt w p (pwV t 2 5 N (stW x N) nx sn (.slice (some ⟨g, 0, none⟩) N N) (adV x n))
  own : w.ownsRow 0 43 1 (.slice (some ⟨g, 0, none⟩) N N) N (uintsN ml)
  len : ml.length = N
  gp : g ≠ p
  mp : M p
  mg : M g
  lt : ∀ i, M i → i < w.heap.size
  em : EmL n N x.l
  a8 : x.ad = true → n = 8 ∧ N = 1
  wr : x.rd = false → nx = x.at ∧ (x.holds = true → sn = x.tk + 9223372036854775808) ∧ ml = (if x.ad = true ∧ x.mv ≤ 1 then [x.n] else x.l)
  rd : x.rd = true → 0 < x.mv → nx = x.mv - 1 ∧ sn = x.sn ∧ ∀ j, j < x.gt.length → ml.getD j 0 = x.gt.getD j 0
def PW : InPred := fun w M t p N n x => ∃ g nx sn ml, PwX w M t p N n x g nx sn ml
section
variable {w w' : World} {M R S : Nat → Prop} {t p N n k g nx sn : Nat} {x : Wk} {c : Ce} {ml : List Nat}
theorem pw_keep (h : PW w M t p N n x) (hk : Keeps R w w') (hM : ∀ i, M i → ¬ R i) : PW w' M t p N n x := by
  obtain ⟨g, nx, sn, ml, h⟩ := h
  refine ⟨g, nx, sn, ml, h.at'.keep hk (hM p h.mp), own_keep h.own hk (fun q hq => ?_), h.len, h.gp, h.mp, h.mg, fun i hi => Nat.lt_of_lt_of_le (h.lt i hi) hk.size, h.em, h.a8, h.wr, h.rd⟩
  cases hq; exact hM _ h.mg
theorem pw_lt (h : PW w M t p N n x) : ∀ i, M i → i < w.heap.size := by
  obtain ⟨g, nx, sn, ml, h⟩ := h
  exact h.lt
theorem pw_em (h : PW w M t p N n x) : EmL n N x.l := by
  obtain ⟨g, nx, sn, ml, h⟩ := h
  exact h.em
/-- Somebody behind a move. -/
theorem PwX.next (h : PwX w M t p N n x g nx sn ml) {x' : Wk} {nx' sn' : Nat} {ml' : List Nat} (hs : w.heap.size ≤ w'.heap.size) (ha : PwAt w' p (pwV t 2 5 N (stW x' N) nx' sn' (.slice (some ⟨g, 0, none⟩) N N) (adV x n))) (ho : w'.ownsRow 0 43 1 (.slice (some ⟨g, 0, none⟩) N N) N (uintsN ml')) (hl : ml'.length = N)
    (h1 : x'.rd = x.rd) (h2 : x'.ad = x.ad) (hem : EmL n N x'.l) (hw : x'.rd = false → nx' = x'.at ∧ (x'.holds = true → sn' = x'.tk + 9223372036854775808) ∧ ml' = (if x'.ad = true ∧ x'.mv ≤ 1 then [x'.n] else x'.l)) (hr : x'.rd = true → 0 < x'.mv → nx' = x'.mv - 1 ∧ sn' = x'.sn ∧ ∀ j, j < x'.gt.length → ml'.getD j 0 = x'.gt.getD j 0) :
    PW w' (More M w w') t p N n x' :=
  ⟨g, nx', sn', ml', by unfold adV; rw [h1, h2]; exact ha, ho, hl, h.gp, .inl h.mp, .inl h.mg, fun i hi => hi.elim (fun q => Nat.lt_of_lt_of_le (h.lt i q) hs) (fun q => q.2), hem, fun e => h.a8 (h2 ▸ e), hw, hr⟩
theorem pw_same (h : PW w M t p N n x) (hb : Below w.heap.size w w') : PW w' (More M w w') t p N n x := by
  obtain ⟨g, nx, sn, ml, h⟩ := h
  exact h.next hb.size (h.at'.below hb) (own_keep h.own (Below.keeps (S := fun _ => False) hb) (fun _ _ => id)) h.len rfl rfl h.em h.wr h.rd
theorem inb_pb (h : InBuf w S t k N c) : ∃ F, PB w S t 2 6 k F := by
  obtain ⟨F, V, h1, _⟩ := h.ex
  exact ⟨F, h1⟩
theorem ns_one (h : InBuf w S t k N c) (n : Nat) (hn : n ≤ 128) (y : World) (hy : Below w.heap.size w y) :
    Calls Try.prog 37 #[.pointer (some ⟨t, 0, none⟩), .int .u64 1, .int .i64 1, .int .i64 (n : Int)] y fun e w' => e = .returned (.tuple #[spotV (some ⟨t, 0, none⟩) 2 5 (wordsFor n), .int .i64 0]) ∧ Below y.heap.size y w' := by
  obtain ⟨F, hp⟩ := inb_pb h
  have l1 : wordsFor 1 = 1 := rfl
  have l2 : wordsFor n ≤ 16 := by unfold wordsFor; omega
  have := ns_yes (hp.below hy) 1 1 n ⟨Nat.le_refl _, by decide⟩ hn (by decide) (fits6 1 (sizeR 1 n) (by decide) (by unfold sizeR; omega) (by unfold sizeR; omega))
  rw [l1] at this
  exact this
theorem pw_newW (s : ByteArray) (hb : InBuf w S t k N c) (hs : s.size ≤ 128) (hN : N = wordsFor s.size) :
    Calls Try.prog 19 #[.pointer (some ⟨t, 0, none⟩), .int .u64 1, .int .i64 1, .string s] w fun e w' => ∃ (M : Nat → Prop) (p : Nat), e = .returned (.tuple #[.pointer (some ⟨p, 0, none⟩), .int .i64 0]) ∧ PW w' M t p N s.size (wkW (wordsL s.data.toList N)) ∧ (∀ i, M i → w.heap.size ≤ i) ∧ Below w.heap.size w w' := by
  subst hN
  refine (nw_yes (t := t) (L := 2) (V := 5) (N := wordsFor s.size) 1 1 s (by omega) (ns_one hb s.size hs w (Below.refl _ _))).mono ?_
  rintro e w' ⟨p, g, rfl, ha, ho, hgp, hp, hg, hbl⟩
  have lg := (ho.lt g rfl).2
  refine ⟨fun i => i = p ∨ i = g, p, rfl, ⟨g, 0, 0, _, ha, ho, wordsL_length _ _, hgp, .inl rfl, .inr rfl, fun i hi => ?_, emL_words s, fun e => (by cases e), fun _ => ⟨rfl, fun e => (by cases e), rfl⟩, fun e => (by cases e)⟩, fun i hi => ?_, hbl⟩
  · rcases hi with rfl | rfl
    · exact ha.lt
    · exact lg
  · rcases hi with rfl | rfl
    · exact hp
    · exact hg
theorem pw_newA (n : Nat) (hb : InBuf w S t k 1 c) (hn : n < 18446744073709551616) :
    Calls Try.prog 21 #[.pointer (some ⟨t, 0, none⟩), .int .u64 1, .int .i64 1, .int .u64 (n : Int)] w fun e w' => ∃ (M : Nat → Prop) (p : Nat), e = .returned (.tuple #[.pointer (some ⟨p, 0, none⟩), .int .i64 0]) ∧ PW w' M t p 1 8 (wkA n) ∧ (∀ i, M i → w.heap.size ≤ i) ∧ Below w.heap.size w w' := by
  refine (na_yes (t := t) (L := 2) (V := 5) (N := 1) 1 1 n hn (fun y hy => ns_one hb 8 (by decide) y hy)).mono ?_
  rintro e w' ⟨p, g, rfl, ha, ho, hgp, hp, hg, hbl⟩
  have lg := (ho.lt g rfl).2
  refine ⟨fun i => i = p ∨ i = g, p, rfl, ⟨g, 0, 0, [n], ha, ho, rfl, hgp, .inl rfl, .inr rfl, fun i hi => ?_, emL_nil _ _, fun _ => ⟨rfl, rfl⟩, fun _ => ⟨rfl, fun e => (by cases e), rfl⟩, fun e => (by cases e)⟩, fun i hi => ?_, hbl⟩
  · rcases hi with rfl | rfl
    · exact ha.lt
    · exact lg
  · rcases hi with rfl | rfl
    · exact hp
    · exact hg
theorem pw_newR (n : Nat) (hb : InBuf w S t k N c) (hn : n ≤ 128) (hN : N = wordsFor n) :
    Calls Try.prog 20 #[.pointer (some ⟨t, 0, none⟩), .int .u64 1, .int .i64 1, .int .i64 (n : Int)] w fun e w' => ∃ (M : Nat → Prop) (p : Nat), e = .returned (.tuple #[.pointer (some ⟨p, 0, none⟩), .int .i64 0]) ∧ PW w' M t p N n wkR ∧ (∀ i, M i → w.heap.size ≤ i) ∧ Below w.heap.size w w' := by
  subst hN
  have l2 : wordsFor n ≤ 16 := by unfold wordsFor; omega
  refine (nr_yes (t := t) (L := 2) (V := 5) (N := wordsFor n) 1 1 (n : Int) (by omega) (ns_one hb n hn w (Below.refl _ _))).mono ?_
  rintro e w' ⟨p, g, rfl, ha, ho, hgp, hp, hg, hbl⟩
  have lg := (ho.lt g rfl).2
  refine ⟨fun i => i = p ∨ i = g, p, rfl, ⟨g, 0, 0, _, ha, ho, List.length_replicate, hgp, .inl rfl, .inr rfl, fun i hi => ?_, emL_nil _ _, fun e => (by cases e), fun e => (by cases e), fun _ e => absurd e (by decide)⟩, fun i hi => ?_, hbl⟩
  · rcases hi with rfl | rfl
    · exact ha.lt
    · exact lg
  · rcases hi with rfl | rfl
    · exact hp
    · exact hg
theorem onN_two (i N : Nat) : onN i N = 2 ∨ onN i N = 3 := by
  unfold onN
  split
  · exact .inl rfl
  · exact .inr rfl
theorem pw_holds (h : PW w M t p N n x) (hr : x.rd = false) :
    Calls Try.prog 14 #[.pointer (some ⟨p, 0, none⟩)] w fun e w' => e = .returned (.bool x.holds) ∧ Below w.heap.size w w' := by
  obtain ⟨g, nx, sn, ml, h⟩ := h
  refine wh_any h.at' x.holds ?_
  unfold stW Wk.holds
  rw [hr]
  cases hd : x.dn with
  | true => simp
  | false =>
    rw [if_neg (by decide)]
    by_cases h0 : x.mv = 0
    · rw [if_pos h0, h0]; rfl
    · rw [if_neg h0, if_neg (by decide)]
      have hp : 0 < x.mv := by omega
      by_cases h1 : x.ad = true ∧ x.mv = 1
      · rw [if_pos h1]; simp [hp]
      · rw [if_neg h1]
        rcases onN_two x.at N with e | e <;> rw [e] <;> simp [hp]
theorem bytesL_congr {f f' : Nat → Nat} {n N : Nat} (h : ∀ j, j < N → f j = f' j) (hn : n ≤ 8 * N) : bytesL f n = bytesL f' n := by
  unfold bytesL
  refine List.map_congr_left fun i hi => ?_
  have := List.mem_range.1 hi
  unfold byteAt
  rw [h (i / 8) (by omega)]
theorem pw_value (h : PW w M t p N n x) (hr : x.rd = true) (hx : WkOk N x) (hN : N = wordsFor n) (h16 : N ≤ 16) (he : x.dn = true → Empty (fun j => x.gt.getD j 0) n N) :
    Calls Try.prog 13 #[.pointer (some ⟨p, 0, none⟩)] w fun e w' => e = .returned (.string (if x.dn = true then txtS x.gt n else ⟨#[]⟩)) ∧ Below w.heap.size w w' := by
  obtain ⟨g, nx, sn, ml, h⟩ := h
  by_cases hd : x.dn = true
  · have hm := hx.rdn hr hd
    have hgl := hx.rgt hr (by omega)
    have hgN : x.gt.length = N := by omega
    have hst : stW x N = 4 := by unfold stW; rw [if_pos hd]
    have ha := h.at'
    rw [hst] at ha
    unfold adV at ha
    rw [if_pos hr] at ha
    have hsl : Sl .u64 w (some ⟨g, 0, none⟩) N (fun j => (ml.getD j 0 : Int)) := by
      obtain ⟨a2, c2, e2, hs⟩ := own_slU h.own h.len
      cases e2
      intro q hq
      obtain ⟨b', off, e, hc⟩ := hs q hq
      exact ⟨b', off, e, by simp only [List.getD_eq_getElem?_getD]; exact hc⟩
    have hn8 : n ≤ 8 * N := by rw [hN]; unfold wordsFor; omega
    rw [if_pos hd]
    unfold txtS
    rw [hgN, if_pos (he hd), ← bytesL_congr (fun j hj => (h.rd hr (by omega)).2.2 j (by omega)) hn8]
    exact rv_some ha hsl h16 hn8
  · rw [if_neg hd]
    refine rv_none h.at' ?_
    unfold stW
    rw [if_neg hd]
    by_cases h0 : x.mv = 0
    · rw [if_pos h0]; decide
    · rw [if_neg h0, if_pos hr]
      rcases onN_two (x.mv - 1) N with e | e <;> rw [e] <;> decide
end
end Go.Proofs.Ytikpphbgjbfddaa
namespace Go.Proofs.Ytikpphbgjbfddaa
set_option maxRecDepth 20000
open Go.RowKit
section
variable {w w' : World} {M R S : Nat → Prop} {t p N n k g nx sn : Nat} {x : Wk} {c : Ce} {ml : List Nat}
theorem keeps_one {y y' : World} (h : Keeps (fun i => i = p) y y') (hp : M p) : Keeps (fun i => M i ∨ S i) y y' := h.wider (fun i _ e => .inl (by rw [e]; exact hp))
theorem keeps_two {y y' : World} (h : Keeps (fun i => i = p ∨ i = g) y y') (hp : M p) (hg : M g) : Keeps (fun i => M i ∨ S i) y y' := h.wider (fun i _ e => .inl (by rcases e with rfl | rfl; exact hp; exact hg))
theorem keeps_buf {y y' : World} (h : Keeps (fun i => i = p ∨ S i) y y') (hp : M p) : Keeps (fun i => M i ∨ S i) y y' := h.wider (fun i _ e => e.imp (fun q => by rw [q]; exact hp) id)
theorem pw_moveW (h : PW w M t p N n x) (hb : InBuf w S t k N c) (hMS : ∀ i, M i → ¬ S i) (hc : CeOk N c) (hr : x.rd = false) (hk : k ≤ 100000) (hh : x.holds = true → c.lk = true ∧ x.tk = c.ct) :
    Calls Try.prog 23 #[.pointer (some ⟨p, 0, none⟩)] w fun e w' => e = .returned (.tuple #[.int .i64 ((wkMove c x).1 : Int), .int .i64 0]) ∧ PW w' (More M w w') t p N n (wkMove c x).2.2 ∧ InBuf w' S t (k + 1) N (wkMove c x).2.1 ∧ Keeps (fun i => M i ∨ S i) w w' := by
  obtain ⟨g, nx, sn, ml, h⟩ := h
  obtain ⟨wn, wsn, wml⟩ := h.wr hr
  have ha := h.at'
  have hSp := hMS p h.mp
  have hSg := hMS g h.mg
  have had : adV x n = .bool x.ad := by unfold adV; rw [if_neg (by rw [hr]; decide)]
  by_cases hd : x.dn = true
  · rw [show wkMove c x = (2, c, x) by unfold wkMove; rw [if_pos hd]]
    rw [show stW x N = 4 by unfold stW; rw [if_pos hd]] at ha
    refine (wm_four ha).mono ?_
    rintro e w' ⟨rfl, rfl⟩
    exact ⟨rfl, pw_same ⟨g, nx, sn, ml, h⟩ (Below.refl _ _), hb.up (Nat.le_succ k), Keeps.refl _ _⟩
  · have hd' : x.dn = false := by simpa using hd
    have hrn : ¬ x.rd = true := by rw [hr]; decide
    by_cases h0 : x.mv = 0
    · have hst : stW x N = 0 := by unfold stW; rw [if_neg hd, if_pos h0]
      rw [hst] at ha
      by_cases hl : c.lk = true
      · rw [show wkMove c x = (3, c, x) by unfold wkMove; rw [if_neg hd, if_neg hrn, if_pos h0, if_pos hl]]
        refine wm_zero ha ((wb_busy ha hb hc.ct hl).mono ?_)
        rintro e w' ⟨rfl, hbl⟩
        exact ⟨rfl, pw_same ⟨g, nx, sn, ml, h⟩ hbl, (hb.below hbl).up (Nat.le_succ k), Below.keeps hbl⟩
      · have hl' : c.lk = false := by simpa using hl
        rw [show wkMove c x = (1, { c with lk := true }, { x with mv := 1, tk := c.ct }) by unfold wkMove; rw [if_neg hd, if_neg hrn, if_pos h0, if_neg hl]]
        rw [had] at ha
        refine wm_zero ha ((wb_take ha hb hSp hk hc.ct hl').mono ?_)
        rintro e w' ⟨rfl, ha', hb', hk'⟩
        have hat : x.at = 0 := by unfold Wk.at; omega
        have hat' : Wk.at { x with mv := 1, tk := c.ct } = 0 := by show 1 - 1 - _ = 0; omega
        have hsw : stW { x with mv := 1, tk := c.ct } N = (if x.ad = true then 1 else onN nx N) := by
          unfold stW
          rw [if_neg hd, if_neg (show ¬ (1 : Nat) = 0 by decide), if_neg hrn, hat', wn, hat]
          by_cases q : x.ad = true
          · rw [if_pos q, if_pos ⟨q, rfl⟩]
          · rw [if_neg q, if_neg (fun e => q e.1)]
        refine ⟨rfl, h.next hk'.size (by rw [hsw, had]; exact ha') (own_keep h.own hk' (fun q hq e => ?_)) h.len rfl rfl h.em (fun _ => ⟨by rw [hat', wn, hat], fun _ => rfl, ?_⟩) (fun e => absurd e hrn), hb', keeps_buf hk' h.mp⟩
        · cases hq
          rcases e with e | e
          · exact h.gp e
          · exact hSg e
        · rw [wml]
          show (if x.ad = true ∧ x.mv ≤ 1 then [x.n] else x.l) = if x.ad = true ∧ 1 ≤ 1 then [x.n] else x.l
          rw [h0]
          by_cases q : x.ad = true
          · rw [if_pos ⟨q, by omega⟩, if_pos ⟨q, by omega⟩]
          · rw [if_neg (fun e => q e.1), if_neg (fun e => q e.1)]
    · have hhx : x.holds = true := by
        have : 0 < x.mv := by omega
        simp [Wk.holds, hr, hd', this]
      obtain ⟨hlk, htk⟩ := hh hhx
      have hsn := wsn hhx
      by_cases h1 : x.ad = true ∧ x.mv = 1
      · obtain ⟨e8, eN⟩ := h.a8 h1.1
        rw [show wkMove c x = (1, c, { x with l := [sumW (c.l.getD 0 0) x.n], mv := 2 }) by unfold wkMove; rw [if_neg hd, if_neg hrn, if_neg h0, if_pos h1]]
        rw [show stW x N = 1 by unfold stW; rw [if_neg hd, if_neg h0, if_neg hrn, if_pos h1]] at ha
        have hat : x.at = 0 := by unfold Wk.at; omega
        have hat' : Wk.at { x with l := [sumW (c.l.getD 0 0) x.n], mv := 2 } = 0 := by
          show 2 - 1 - (if x.ad = true then 1 else 0) = 0
          rw [if_pos h1.1]
        rw [wn, hat] at ha
        refine wm_one ha ((wa_any ha hb (by omega) h.own h.len h.gp).mono ?_)
        rintro e w' ⟨rfl, ha', ho', hk'⟩
        have hml : ml.set 0 (sumW (ml.getD 0 0) (c.l.getD 0 0)) = [sumW (c.l.getD 0 0) x.n] := by
          rw [wml, if_pos ⟨h1.1, by omega⟩]
          show [sumW x.n (c.l.getD 0 0)] = _
          unfold sumW
          rw [Nat.add_comm]
        rw [hml] at ho'
        have hsw : stW { x with l := [sumW (c.l.getD 0 0) x.n], mv := 2 } N = onN 0 N := by
          unfold stW
          rw [if_neg hd, if_neg (show ¬ (2 : Nat) = 0 by decide), if_neg hrn, if_neg (fun e => absurd e.2 (show ¬ (2 : Nat) = 1 by decide)), hat']
        refine ⟨rfl, h.next hk'.size (by rw [hsw]; exact ha') ho' (by rw [eN]; rfl) rfl rfl (fun i q1 q2 => by omega) (fun _ => ⟨hat'.symm, fun _ => hsn, ?_⟩) (fun e => absurd e hrn), (hb.keep hk' (fun i hi e => ?_)).up (Nat.le_succ k), keeps_two hk' h.mp h.mg⟩
        · show _ = if x.ad = true ∧ 2 ≤ 1 then [x.n] else [sumW (c.l.getD 0 0) x.n]
          rw [if_neg (fun e => absurd e.2 (by omega))]
        · rcases e with rfl | rfl
          · exact hSp hi
          · exact hSg hi
      · have hst : stW x N = onN x.at N := by unfold stW; rw [if_neg hd, if_neg h0, if_neg hrn, if_neg h1]
        have hml : ml = x.l := by
          rw [wml, if_neg (fun e => h1 ⟨e.1, by omega⟩)]
        have hll : x.l.length = N := by rw [← hml]; exact h.len
        rw [hst] at ha
        by_cases h2 : x.at < x.l.length
        · rw [show wkMove c x = (1, { c with l := c.l.set x.at (x.l.getD x.at 0) }, { x with mv := x.mv + 1 }) by unfold wkMove; rw [if_neg hd, if_neg hrn, if_neg h0, if_neg h1, if_pos h2]]
          rw [show onN x.at N = 2 from if_pos (by omega), wn] at ha
          have hw := ww_any ha hb (by omega) h.own h.len hc.len hSp hSg
          rw [hml] at hw
          refine wm_two ha (hw.mono ?_)
          rintro e w' ⟨rfl, ha', hb', hk'⟩
          have hat' : Wk.at { x with mv := x.mv + 1 } = x.at + 1 := by
            show x.mv + 1 - 1 - (if x.ad = true then 1 else 0) = x.mv - 1 - (if x.ad = true then 1 else 0) + 1
            by_cases q : x.ad = true
            · have : x.mv ≠ 1 := fun e => h1 ⟨q, e⟩
              rw [if_pos q]; omega
            · rw [if_neg q]; omega
          have hsw : stW { x with mv := x.mv + 1 } N = onN (x.at + 1) N := by
            unfold stW
            rw [if_neg hd, if_neg (show ¬ x.mv + 1 = 0 by omega), if_neg hrn, if_neg (fun e => absurd e.2 (show ¬ x.mv + 1 = 1 by omega)), hat']
          refine ⟨rfl, h.next hk'.size (by rw [hsw]; exact ha') (own_keep h.own hk' (fun q hq e => ?_)) h.len rfl rfl h.em (fun _ => ⟨hat'.symm, fun _ => hsn, ?_⟩) (fun e => absurd e hrn), hb', keeps_buf hk' h.mp⟩
          · cases hq
            rcases e with e | e
            · exact h.gp e
            · exact hSg e
          · show ml = if x.ad = true ∧ x.mv + 1 ≤ 1 then [x.n] else x.l
            rw [if_neg (fun e => absurd e.2 (by omega))]; exact hml
        · rw [show wkMove c x = (2, { c with lk := false, ct := (c.ct + 1) % 4294967296 }, { x with dn := true }) by unfold wkMove; rw [if_neg hd, if_neg hrn, if_neg h0, if_neg h1, if_neg h2]]
          rw [show onN x.at N = 3 from if_neg (by omega), hsn] at ha
          refine wm_three ha ((we_any ha hb htk hc.ct hSp).mono ?_)
          rintro e w' ⟨rfl, ha', hb', hk'⟩
          have hsw : stW { x with dn := true } N = 4 := by unfold stW; rw [if_pos rfl]
          refine ⟨rfl, h.next hk'.size (by rw [hsw]; exact ha') (own_keep h.own hk' (fun q hq e => ?_)) h.len rfl rfl h.em (fun _ => ⟨wn, fun _ => rfl, wml⟩) (fun e => absurd e hrn), hb', keeps_buf hk' h.mp⟩
          cases hq
          rcases e with e | e
          · exact h.gp e
          · exact hSg e
theorem pw_moveR (h : PW w M t p N n x) (hb : InBuf w S t k N c) (hMS : ∀ i, M i → ¬ S i) (hc : CeOk N c) (hx : WkOk N x) (hr : x.rd = true) :
    Calls Try.prog 24 #[.pointer (some ⟨p, 0, none⟩)] w fun e w' => e = .returned (.tuple #[.int .i64 ((wkMove c x).1 : Int), .int .i64 0]) ∧ PW w' (More M w w') t p N n (wkMove c x).2.2 ∧ InBuf w' S t (k + 1) N (wkMove c x).2.1 ∧ Keeps (fun i => M i ∨ S i) w w' := by
  obtain ⟨g, nx, sn, ml, h⟩ := h
  have ha := h.at'
  have hSp := hMS p h.mp
  have hSg := hMS g h.mg
  have hgk : ∀ {y y' : World}, Keeps (fun i => i = p) y y' → (y.ownsRow 0 43 1 (.slice (some ⟨g, 0, none⟩) N N) N (uintsN ml)) → y'.ownsRow 0 43 1 (.slice (some ⟨g, 0, none⟩) N N) N (uintsN ml) := fun hk ho => own_keep ho hk (fun q hq e => h.gp (by cases hq; exact e))
  have hbk : ∀ {y : World}, Keeps (fun i => i = p) w y → InBuf y S t (k + 1) N c := fun hk => (hb.keep hk (fun i hi e => hSp (by rw [← e]; exact hi))).up (Nat.le_succ k)
  have hrf : x.rd = false → False := fun e => by rw [hr] at e; cases e
  by_cases hd : x.dn = true
  · rw [show wkMove c x = (2, c, x) by unfold wkMove; rw [if_pos hd]]
    rw [show stW x N = 4 by unfold stW; rw [if_pos hd]] at ha
    refine (rm_four ha).mono ?_
    rintro e w' ⟨rfl, rfl⟩
    exact ⟨rfl, pw_same ⟨g, nx, sn, ml, h⟩ (Below.refl _ _), hb.up (Nat.le_succ k), Keeps.refl _ _⟩
  · by_cases h0 : x.mv = 0
    · have hst : stW x N = 0 := by unfold stW; rw [if_neg hd, if_pos h0]
      rw [hst] at ha
      by_cases hl : c.lk = true
      · rw [show wkMove c x = (3, c, x) by unfold wkMove; rw [if_neg hd, if_pos hr, if_pos h0, if_pos hl]]
        refine rm_zero ha ((rb_busy ha hb hc.ct hl).mono ?_)
        rintro e w' ⟨rfl, hbl⟩
        exact ⟨rfl, pw_same ⟨g, nx, sn, ml, h⟩ hbl, (hb.below hbl).up (Nat.le_succ k), Below.keeps hbl⟩
      · have hl' : c.lk = false := by simpa using hl
        rw [show wkMove c x = (1, c, { x with sn := c.ct, gt := [], mv := 1 }) by unfold wkMove; rw [if_neg hd, if_pos hr, if_pos h0, if_neg hl]]
        refine rm_zero ha ((rb_take ha hb hc.ct hl').mono ?_)
        rintro e w' ⟨rfl, ha', hk'⟩
        have hsw : stW { x with sn := c.ct, gt := [], mv := 1 } N = onN 0 N := by
          unfold stW
          rw [if_neg hd, if_neg (show ¬ (1 : Nat) = 0 by decide), if_pos hr]; rfl
        exact ⟨rfl, h.next hk'.size (by rw [hsw]; exact ha') (hgk hk' h.own) h.len rfl rfl h.em (fun e => (hrf e).elim) (fun _ _ => ⟨rfl, rfl, fun j hj => absurd hj (Nat.not_lt_zero j)⟩), hbk hk', keeps_one hk' h.mp⟩
    · obtain ⟨rn, rsn, rg⟩ := h.rd hr (by omega)
      have hgl := hx.rgt hr (by omega)
      have hst : stW x N = onN (x.mv - 1) N := by unfold stW; rw [if_neg hd, if_neg h0, if_pos hr]
      rw [hst] at ha
      by_cases h1 : x.mv - 1 < c.l.length
      · rw [show wkMove c x = (1, c, { x with gt := x.gt ++ [c.l.getD (x.mv - 1) 0], mv := x.mv + 1 }) by unfold wkMove; rw [if_neg hd, if_pos hr, if_neg h0, if_pos h1]]
        have hcl := hc.len
        have hj : x.mv - 1 < N := by omega
        rw [show onN (x.mv - 1) N = 2 from if_pos hj, rn] at ha
        refine rm_two ha ((rr_any ha hb hj h.own h.len h.gp).mono ?_)
        rintro e w' ⟨rfl, ha', ho', hk'⟩
        have hsw : stW { x with gt := x.gt ++ [c.l.getD (x.mv - 1) 0], mv := x.mv + 1 } N = onN (x.mv - 1 + 1) N := by
          unfold stW
          rw [if_neg hd, if_neg (show ¬ x.mv + 1 = 0 by omega), if_pos hr]
          show onN (x.mv + 1 - 1) N = _
          rw [show x.mv + 1 - 1 = x.mv - 1 + 1 by omega]
        refine ⟨rfl, h.next hk'.size (by rw [hsw]; exact ha') ho' (by rw [List.length_set]; exact h.len) rfl rfl h.em (fun e => (hrf e).elim) (fun _ _ => ⟨?_, rsn, fun i hi => ?_⟩), (hb.keep hk' (fun i hi e => ?_)).up (Nat.le_succ k), keeps_two hk' h.mp h.mg⟩
        · show x.mv - 1 + 1 = x.mv + 1 - 1
          omega
        · have hi' : i < x.gt.length + 1 := by simpa using hi
          show (ml.set (x.mv - 1) (c.l.getD (x.mv - 1) 0)).getD i 0 = (x.gt ++ [c.l.getD (x.mv - 1) 0]).getD i 0
          have hml := h.len
          by_cases e : i < x.gt.length
          · have := rg i e
            simp only [List.getD_eq_getElem?_getD] at this ⊢
            rw [List.getElem?_set, if_neg (by omega), List.getElem?_append_left e]; exact this
          · have e2 : i = x.mv - 1 := by omega
            subst e2
            simp only [List.getD_eq_getElem?_getD]
            rw [List.getElem?_set, if_pos rfl, if_pos (by omega), List.getElem?_append_right (by omega), show x.mv - 1 - x.gt.length = 0 by omega]
            rfl
        · rcases e with rfl | rfl
          · exact hSp hi
          · exact hSg hi
      · have hcl := hc.len
        rw [show onN (x.mv - 1) N = 3 from if_neg (by omega), rsn] at ha
        have hsb := hx.sn
        have hcb := hc.ct
        by_cases h2 : c.lk = true ∨ c.ct ≠ x.sn
        · rw [show wkMove c x = (3, c, { x with mv := 0 }) by unfold wkMove; rw [if_neg hd, if_pos hr, if_neg h0, if_neg h1, if_pos h2]]
          have hne : lwN c ≠ x.sn := by
            rcases h2 with e | e
            · rw [lw_taken e]; omega
            · unfold lwN
              split
              · omega
              · omega
          refine rm_three ha ((re_busy ha hb hne).mono ?_)
          rintro e w' ⟨rfl, ha', hk'⟩
          have hsw : stW { x with mv := 0 } N = 0 := by unfold stW; rw [if_neg hd, if_pos rfl]
          exact ⟨rfl, h.next hk'.size (by rw [hsw]; exact ha') (hgk hk' h.own) h.len rfl rfl h.em (fun e => (hrf e).elim) (fun _ e => absurd e (by simp)), hbk hk', keeps_one hk' h.mp⟩
        · rw [show wkMove c x = (2, c, { x with dn := true }) by unfold wkMove; rw [if_neg hd, if_pos hr, if_neg h0, if_neg h1, if_neg h2]]
          have hl' : c.lk = false := by
            cases q : c.lk with
            | false => rfl
            | true => exact absurd (.inl q) h2
          have hct : c.ct = x.sn := Classical.byContradiction fun q => h2 (.inr q)
          refine rm_three ha ((re_done ha hb (by rw [(lw_free hcb hl').1]; exact hct)).mono ?_)
          rintro e w' ⟨rfl, ha', hk'⟩
          have hsw : stW { x with dn := true } N = 4 := by unfold stW; rw [if_pos rfl]
          exact ⟨rfl, h.next hk'.size (by rw [hsw]; exact ha') (hgk hk' h.own) h.len rfl rfl h.em (fun e => (hrf e).elim) (fun _ _ => ⟨rn, rfl, rg⟩), hbk hk', keeps_one hk' h.mp⟩
end
theorem pwProg : InProg PW where
  keep := pw_keep
  lt := pw_lt
  em := pw_em
  newW := fun s hb hs hN => pw_newW s hb hs hN
  newA := fun n hb hn => pw_newA n hb hn
  newR := fun n hb hn hN => pw_newR n hb hn hN
  moveW := fun h hb hMS hc _ hr hk hh => pw_moveW h hb hMS hc hr hk hh
  moveR := fun h hb hMS hc hx hr _ => pw_moveR h hb hMS hc hx hr
  holds := fun h hr => pw_holds h hr
  holds0 := wh_nil
  value := fun h hr hx hN h16 he => pw_value h hr hx hN h16 he
end Go.Proofs.Ytikpphbgjbfddaa
