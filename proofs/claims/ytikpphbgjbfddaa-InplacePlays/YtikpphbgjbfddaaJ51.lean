/- Parts of the proof: Bj. -/
import Derived.Test.YtikpphbgjbfddaaJ40
import Derived.Test.YtikpphbgjbfddaaJ47
import Derived.Test.YtikpphbgjbfddaaJ50
namespace Go.Proofs.Ytikpphbgjbfddaa
set_option maxRecDepth 20000
open Go.RowKit
/-- The state that tells of somebody. -/
def stW (x : Wk) (N : Nat) : Nat := if x.dn = true then 4 else if x.mv = 0 then 0 else if x.rd = true then onN (x.mv - 1) N else if x.ad = true ∧ x.mv = 1 then 1 else onN x.at N
def adV (x : Wk) (n : Nat) : Value := if x.rd = true then .int .i64 (n : Int) else .bool x.ad
structure PwX (w : World) (M : Nat → Prop) (t p N n : Nat) (x : Wk) (g nx sn : Nat) (ml : List Nat) : Prop where
  at' : PwAt w p (pwV t 2 5 N (stW x N) nx sn (.slice (some ⟨g, 0, none⟩) N N) (adV x n))
  own : w.ownsRow 0 43 1 (.slice (some ⟨g, 0, none⟩) N N) N (uintsN ml)
  len : ml.length = N
  gp : g ≠ p
  mp : M p
  mg : M g
  lt : ∀ i, M i → i < w.heap.size
  em : EmL n N x.l
  a8 : x.ad = true → n = 8 ∧ N = 1
  wr : x.rd = false → nx = x.at ∧ (x.holds = true → sn = x.tk + 9223372036854775808) ∧ ml = (if x.ad = true ∧ x.mv ≤ 1 then [x.n] else x.l)
  rd : x.rd = true → 0 < x.mv → nx = x.mv - 1 ∧ sn = x.sn ∧ ∀ j, j < x.gt.length → ml.getD j 0 = x.gt.getD j 0
def PW : InPred := fun w M t p N n x => ∃ g nx sn ml, PwX w M t p N n x g nx sn ml
section
variable {w w' : World} {M R S : Nat → Prop} {t p N n k g nx sn : Nat} {x : Wk} {c : Ce} {ml : List Nat}
theorem pw_keep (h : PW w M t p N n x) (hk : Keeps R w w') (hM : ∀ i, M i → ¬ R i) : PW w' M t p N n x := by
  obtain ⟨g, nx, sn, ml, h⟩ := h
  refine ⟨g, nx, sn, ml, h.at'.keep hk (hM p h.mp), own_keep h.own hk (fun q hq => ?_), h.len, h.gp, h.mp, h.mg, fun i hi => Nat.lt_of_lt_of_le (h.lt i hi) hk.size, h.em, h.a8, h.wr, h.rd⟩
  cases hq; exact hM _ h.mg
theorem pw_lt (h : PW w M t p N n x) : ∀ i, M i → i < w.heap.size := by
  obtain ⟨g, nx, sn, ml, h⟩ := h
  exact h.lt
theorem pw_em (h : PW w M t p N n x) : EmL n N x.l := by
  obtain ⟨g, nx, sn, ml, h⟩ := h
  exact h.em
/-- Somebody behind a move. -/
theorem PwX.next (h : PwX w M t p N n x g nx sn ml) {x' : Wk} {nx' sn' : Nat} {ml' : List Nat} (hs : w.heap.size ≤ w'.heap.size) (ha : PwAt w' p (pwV t 2 5 N (stW x' N) nx' sn' (.slice (some ⟨g, 0, none⟩) N N) (adV x n))) (ho : w'.ownsRow 0 43 1 (.slice (some ⟨g, 0, none⟩) N N) N (uintsN ml')) (hl : ml'.length = N)
    (h1 : x'.rd = x.rd) (h2 : x'.ad = x.ad) (hem : EmL n N x'.l) (hw : x'.rd = false → nx' = x'.at ∧ (x'.holds = true → sn' = x'.tk + 9223372036854775808) ∧ ml' = (if x'.ad = true ∧ x'.mv ≤ 1 then [x'.n] else x'.l)) (hr : x'.rd = true → 0 < x'.mv → nx' = x'.mv - 1 ∧ sn' = x'.sn ∧ ∀ j, j < x'.gt.length → ml'.getD j 0 = x'.gt.getD j 0) :
    PW w' (More M w w') t p N n x' :=
  ⟨g, nx', sn', ml', by unfold adV; rw [h1, h2]; exact ha, ho, hl, h.gp, .inl h.mp, .inl h.mg, fun i hi => hi.elim (fun q => Nat.lt_of_lt_of_le (h.lt i q) hs) (fun q => q.2), hem, fun e => h.a8 (h2 ▸ e), hw, hr⟩
theorem pw_same (h : PW w M t p N n x) (hb : Below w.heap.size w w') : PW w' (More M w w') t p N n x := by
  obtain ⟨g, nx, sn, ml, h⟩ := h
  exact h.next hb.size (h.at'.below hb) (own_keep h.own (Below.keeps (S := fun _ => False) hb) (fun _ _ => id)) h.len rfl rfl h.em h.wr h.rd
theorem inb_pb (h : InBuf w S t k N c) : ∃ F, PB w S t 2 6 k F := by
  obtain ⟨F, V, h1, _⟩ := h.ex
  exact ⟨F, h1⟩
theorem ns_one (h : InBuf w S t k N c) (n : Nat) (hn : n ≤ 128) (y : World) (hy : Below w.heap.size w y) :
    Calls Try.prog 37 #[.pointer (some ⟨t, 0, none⟩), .int .u64 1, .int .i64 1, .int .i64 (n : Int)] y fun e w' => e = .returned (.tuple #[spotV (some ⟨t, 0, none⟩) 2 5 (wordsFor n), .int .i64 0]) ∧ Below y.heap.size y w' := by
  obtain ⟨F, hp⟩ := inb_pb h
  have l1 : wordsFor 1 = 1 := rfl
  have l2 : wordsFor n ≤ 16 := by unfold wordsFor; omega
  have := ns_yes (hp.below hy) 1 1 n ⟨Nat.le_refl _, by decide⟩ hn (by decide) (fits6 1 (sizeR 1 n) (by decide) (by unfold sizeR; omega) (by unfold sizeR; omega))
  rw [l1] at this
  exact this
theorem pw_newW (s : ByteArray) (hb : InBuf w S t k N c) (hs : s.size ≤ 128) (hN : N = wordsFor s.size) :
    Calls Try.prog 19 #[.pointer (some ⟨t, 0, none⟩), .int .u64 1, .int .i64 1, .string s] w fun e w' => ∃ (M : Nat → Prop) (p : Nat), e = .returned (.tuple #[.pointer (some ⟨p, 0, none⟩), .int .i64 0]) ∧ PW w' M t p N s.size (wkW (wordsL s.data.toList N)) ∧ (∀ i, M i → w.heap.size ≤ i) ∧ Below w.heap.size w w' := by
  subst hN
  refine (nw_yes (t := t) (L := 2) (V := 5) (N := wordsFor s.size) 1 1 s (by omega) (ns_one hb s.size hs w (Below.refl _ _))).mono ?_
  rintro e w' ⟨p, g, rfl, ha, ho, hgp, hp, hg, hbl⟩
  have lg := (ho.lt g rfl).2
  refine ⟨fun i => i = p ∨ i = g, p, rfl, ⟨g, 0, 0, _, ha, ho, wordsL_length _ _, hgp, .inl rfl, .inr rfl, fun i hi => ?_, emL_words s, fun e => (by cases e), fun _ => ⟨rfl, fun e => (by cases e), rfl⟩, fun e => (by cases e)⟩, fun i hi => ?_, hbl⟩
  · rcases hi with rfl | rfl
    · exact ha.lt
    · exact lg
  · rcases hi with rfl | rfl
    · exact hp
    · exact hg
theorem pw_newA (n : Nat) (hb : InBuf w S t k 1 c) (hn : n < 18446744073709551616) :
    Calls Try.prog 21 #[.pointer (some ⟨t, 0, none⟩), .int .u64 1, .int .i64 1, .int .u64 (n : Int)] w fun e w' => ∃ (M : Nat → Prop) (p : Nat), e = .returned (.tuple #[.pointer (some ⟨p, 0, none⟩), .int .i64 0]) ∧ PW w' M t p 1 8 (wkA n) ∧ (∀ i, M i → w.heap.size ≤ i) ∧ Below w.heap.size w w' := by
  refine (na_yes (t := t) (L := 2) (V := 5) (N := 1) 1 1 n hn (fun y hy => ns_one hb 8 (by decide) y hy)).mono ?_
  rintro e w' ⟨p, g, rfl, ha, ho, hgp, hp, hg, hbl⟩
  have lg := (ho.lt g rfl).2
  refine ⟨fun i => i = p ∨ i = g, p, rfl, ⟨g, 0, 0, [n], ha, ho, rfl, hgp, .inl rfl, .inr rfl, fun i hi => ?_, emL_nil _ _, fun _ => ⟨rfl, rfl⟩, fun _ => ⟨rfl, fun e => (by cases e), rfl⟩, fun e => (by cases e)⟩, fun i hi => ?_, hbl⟩
  · rcases hi with rfl | rfl
    · exact ha.lt
    · exact lg
  · rcases hi with rfl | rfl
    · exact hp
    · exact hg
theorem pw_newR (n : Nat) (hb : InBuf w S t k N c) (hn : n ≤ 128) (hN : N = wordsFor n) :
    Calls Try.prog 20 #[.pointer (some ⟨t, 0, none⟩), .int .u64 1, .int .i64 1, .int .i64 (n : Int)] w fun e w' => ∃ (M : Nat → Prop) (p : Nat), e = .returned (.tuple #[.pointer (some ⟨p, 0, none⟩), .int .i64 0]) ∧ PW w' M t p N n wkR ∧ (∀ i, M i → w.heap.size ≤ i) ∧ Below w.heap.size w w' := by
  subst hN
  have l2 : wordsFor n ≤ 16 := by unfold wordsFor; omega
  refine (nr_yes (t := t) (L := 2) (V := 5) (N := wordsFor n) 1 1 (n : Int) (by omega) (ns_one hb n hn w (Below.refl _ _))).mono ?_
  rintro e w' ⟨p, g, rfl, ha, ho, hgp, hp, hg, hbl⟩
  have lg := (ho.lt g rfl).2
  refine ⟨fun i => i = p ∨ i = g, p, rfl, ⟨g, 0, 0, _, ha, ho, List.length_replicate, hgp, .inl rfl, .inr rfl, fun i hi => ?_, emL_nil _ _, fun e => (by cases e), fun e => (by cases e), fun _ e => absurd e (by decide)⟩, fun i hi => ?_, hbl⟩
  · rcases hi with rfl | rfl
    · exact ha.lt
    · exact lg
  · rcases hi with rfl | rfl
    · exact hp
    · exact hg
theorem onN_two (i N : Nat) : onN i N = 2 ∨ onN i N = 3 := by
  unfold onN
  split
  · exact .inl rfl
  · exact .inr rfl
theorem pw_holds (h : PW w M t p N n x) (hr : x.rd = false) :
    Calls Try.prog 14 #[.pointer (some ⟨p, 0, none⟩)] w fun e w' => e = .returned (.bool x.holds) ∧ Below w.heap.size w w' := by
  obtain ⟨g, nx, sn, ml, h⟩ := h
  refine wh_any h.at' x.holds ?_
  unfold stW Wk.holds
  rw [hr]
  cases hd : x.dn with
  | true => simp
  | false =>
    rw [if_neg (by decide)]
    by_cases h0 : x.mv = 0
    · rw [if_pos h0, h0]; rfl
    · rw [if_neg h0, if_neg (by decide)]
      have hp : 0 < x.mv := by omega
      by_cases h1 : x.ad = true ∧ x.mv = 1
      · rw [if_pos h1]; simp [hp]
      · rw [if_neg h1]
        rcases onN_two x.at N with e | e <;> rw [e] <;> simp [hp]
theorem bytesL_congr {f f' : Nat → Nat} {n N : Nat} (h : ∀ j, j < N → f j = f' j) (hn : n ≤ 8 * N) : bytesL f n = bytesL f' n := by
  unfold bytesL
  refine List.map_congr_left fun i hi => ?_
  have := List.mem_range.1 hi
  unfold byteAt
  rw [h (i / 8) (by omega)]
theorem pw_value (h : PW w M t p N n x) (hr : x.rd = true) (hx : WkOk N x) (hN : N = wordsFor n) (h16 : N ≤ 16) (he : x.dn = true → Empty (fun j => x.gt.getD j 0) n N) :
    Calls Try.prog 13 #[.pointer (some ⟨p, 0, none⟩)] w fun e w' => e = .returned (.string (if x.dn = true then txtS x.gt n else ⟨#[]⟩)) ∧ Below w.heap.size w w' := by
  obtain ⟨g, nx, sn, ml, h⟩ := h
  by_cases hd : x.dn = true
  · have hm := hx.rdn hr hd
    have hgl := hx.rgt hr (by omega)
    have hgN : x.gt.length = N := by omega
    have hst : stW x N = 4 := by unfold stW; rw [if_pos hd]
    have ha := h.at'
    rw [hst] at ha
    unfold adV at ha
    rw [if_pos hr] at ha
    have hsl : Sl .u64 w (some ⟨g, 0, none⟩) N (fun j => (ml.getD j 0 : Int)) := by
      obtain ⟨a2, c2, e2, hs⟩ := own_slU h.own h.len
      cases e2
      intro q hq
      obtain ⟨b', off, e, hc⟩ := hs q hq
      exact ⟨b', off, e, by simp only [List.getD_eq_getElem?_getD]; exact hc⟩
    have hn8 : n ≤ 8 * N := by rw [hN]; unfold wordsFor; omega
    rw [if_pos hd]
    unfold txtS
    rw [hgN, if_pos (he hd), ← bytesL_congr (fun j hj => (h.rd hr (by omega)).2.2 j (by omega)) hn8]
    exact rv_some ha hsl h16 hn8
  · rw [if_neg hd]
    refine rv_none h.at' ?_
    unfold stW
    rw [if_neg hd]
    by_cases h0 : x.mv = 0
    · rw [if_pos h0]; decide
    · rw [if_neg h0, if_pos hr]
      rcases onN_two (x.mv - 1) N with e | e <;> rw [e] <;> decide
end
end Go.Proofs.Ytikpphbgjbfddaa
