/- Parts of the proof: Jp. -/
import Derived.Test.YtikpphbgjbfddaaJ13
import Derived.Test.YtikpphbgjbfddaaJ31
namespace Go.Proofs.Ytikpphbgjbfddaa
set_option maxRecDepth 20000
open Go.RowKit
theorem valS_words (n : Nat) (hn : n < 18446744073709551616) : wordsFor (valS n).size = 1 ∧ wordsL (valS n).data.toList 1 = [n] := by
  refine ⟨by rw [valS_size]; rfl, ?_⟩
  show [wordAt (valS n).data.toList 0] = [n]
  have : wordAt (valS n).data.toList 0 = n := by
    rw [valS, strL_toList]
    unfold wordAt
    rw [Nat.mul_zero, List.drop_zero, List.take_of_length_le (by rw [bytesL_length]; decide), leN_bytes n hn]
  rw [this]
theorem inb_load {w : World} {S : Nat → Prop} {t k N : Nat} {c : Ce} (h : InBuf w S t k N c) (j : Nat) (hj : j < N) :
    Calls Try.prog 16 #[.pointer (some ⟨t, 0, none⟩), .int .u64 ((5 + j : Nat) : Int)] w fun e w' => e = .returned (.tuple #[.int .u64 (c.l.getD j 0 : Int), .int .i64 0]) ∧ Below w.heap.size w w' := by
  obtain ⟨F, V, ⟨fb, g, o, hp⟩, hF, _, hV⟩ := h.ex
  have hf := h.few
  obtain ⟨p1, p2⟩ := page6 (5 + j) (by omega)
  exact pb_load_yes hp (5 + j) (by omega) V (by rw [p1]; exact hF) _ (by rw [p2]; exact hV j hj)
theorem inb_lock {w : World} {S : Nat → Prop} {t k N : Nat} {c : Ce} (h : InBuf w S t k N c) :
    Calls Try.prog 16 #[.pointer (some ⟨t, 0, none⟩), .int .u64 2] w fun e w' => e = .returned (.tuple #[.int .u64 (((if c.lk = true then 9223372036854775808 else 0) + c.ct : Nat) : Int), .int .i64 0]) ∧ Below w.heap.size w w' := by
  obtain ⟨F, V, ⟨fb, g, o, hp⟩, hF, h2, _⟩ := h.ex
  obtain ⟨p1, p2⟩ := page6 2 (by omega)
  exact pb_load_yes hp 2 (by omega) V (by rw [p1]; exact hF) _ (by rw [p2]; exact h2)
theorem inb_words {w : World} {S : Nat → Prop} {t k N : Nat} {c : Ce} (h : InBuf w S t k N c) (h0 : 1 ≤ N) :
    Calls Try.prog 30 #[.pointer (some ⟨t, 0, none⟩), .int .u64 5, .int .i64 (N : Int)] w fun e w' => ∃ b, e = .returned (.tuple #[.slice (some ⟨b, 0, none⟩) N N, .int .i64 0]) ∧ Sl .u64 w' (some ⟨b, 0, none⟩) N (fun j => (c.l.getD j 0 : Int)) ∧ Below w.heap.size w w' := by
  obtain ⟨F, V, ⟨fb, g, o, hp⟩, hF, _, hV⟩ := h.ex
  have hf := h.few
  obtain ⟨p1, p2⟩ := page6 5 (by omega)
  refine (pb_words_yes hp 5 (by omega) V (by rw [p1]; exact hF) N (fits6 5 N (by omega) h0 (by omega))).mono ?_
  rintro e w' ⟨b, rfl, hs, hb⟩
  refine ⟨b, rfl, fun j hj => ?_, hb⟩
  obtain ⟨q, off, e, hc⟩ := hs j hj
  refine ⟨q, off, e, ?_⟩
  rw [hc]
  simp only [p2]
  rw [hV j hj]
def itA : Nat → Ce × Wk
  | 0 => (⟨false, 0, [5]⟩, wkA 7)
  | j + 1 => ((wkMove (itA j).1 (itA j).2).2.1, (wkMove (itA j).1 (itA j).2).2.2)
theorem itA_ok : ∀ j, CeOk 1 (itA j).1 ∧ WkOk 1 (itA j).2 := fun j => by
  induction j with
  | zero =>
    refine ⟨⟨rfl, fun x hx => ?_, by decide⟩, ⟨by decide, fun x hx => by simp [itA, wkA] at hx, fun x hx => by simp [itA, wkA] at hx, by decide, by simp [itA, wkA], fun h => by simp [itA, wkA] at h, fun h => by simp [itA, wkA] at h, by simp [itA, wkA], fun h => by simp [itA, wkA] at h, fun _ h => by simp [itA, wkA] at h, fun _ => by simp [itA, wkA]⟩⟩
    simp [itA] at hx; subst hx; decide
  | succ j ih => exact wk_keeps ih.1 ih.2
theorem itA_is : ∀ j, j ≤ 3 → (wkMove (itA j).1 (itA j).2).1 = (if j = 3 then 2 else 1) ∧ (itA j).2.rd = false ∧ ((itA j).2.holds = true → (itA j).1.lk = true ∧ (itA j).2.tk = (itA j).1.ct) := fun j hj => by
  match j, hj with
  | 0, _ => exact ⟨rfl, rfl, fun h => by cases h⟩
  | 1, _ => exact ⟨rfl, rfl, fun _ => ⟨rfl, rfl⟩⟩
  | 2, _ => exact ⟨rfl, rfl, fun _ => ⟨rfl, rfl⟩⟩
  | 3, _ => exact ⟨rfl, rfl, fun _ => ⟨rfl, rfl⟩⟩
set_option maxHeartbeats 2000000 in
theorem awake18 {X : InPred} (C : InProg X) (w : World) :
    Calls Try.prog 6 #[] w fun e w' => e = .returned (.bool true) ∧ Below w.heap.size w w' := by
  have HV := hide (rvalue_any 5 w (by decide))
  have HBG := hide (begin_any (valS 5) (by rw [valS_size]; decide))
  obtain ⟨hw1, hw2⟩ := valS_words 5 (by decide)
  rw [hw1, hw2] at HBG
  go_enter Try.func6, Try.ntmps6
  go_wp2_with fail
  refine HV.out.mono ?_
  rintro e y0 ⟨rfl, b0⟩
  go_wp2_with fail
  refine (HBG.out _).mono ?_
  rintro e y1 ⟨t, S, rfl, hbuf, hS, b1⟩
  have HNA := hide (C.newA 7 hbuf (by decide))
  have HB := hide (b0.trans (b1.mono b0.size))
  have HIB := hide hbuf
  have HWY : Hid (w.heap.size ≤ y1.heap.size) := (b0.trans (b1.mono b0.size)).size
  have HS : Hid (∀ i, S i → w.heap.size ≤ i ∧ i < y1.heap.size) := fun i hi => by
    have := hS i hi
    have := b0.size
    omega
  clear HV HBG hw1 hw2 b0 b1 hS hbuf
  go_wp2_with fail
  refine HNA.out.mono ?_
  rintro e y2 ⟨M, p, rfl, hx, hM, b2⟩
  have HB2 := hide (HB.out.trans (b2.mono HB.out.size))
  have HX := hide hx
  have HIB2 := hide (HIB.out.keep (Below.keeps (S := fun _ => False) b2) (fun _ _ => id))
  have HM := hide hM
  have hs2 := b2.size
  clear hx hM b2 HIB HNA HB
  go_wp2
  go_loopw [5] (fun vn wr => ∃ (j k : Nat) (M : Nat → Prop), j ≤ 3 ∧ vn = .int .i64 (j : Int) ∧ k ≤ j + 1 ∧ X wr M t p 1 8 (itA j).2 ∧ InBuf wr S t k 1 (itA j).1 ∧ (∀ i, M i → y1.heap.size ≤ i) ∧ y1.heap.size ≤ wr.heap.size ∧ Below w.heap.size w wr) (fun vn _ => 9 - (intOf vn).toNat)
  case atStart => exact ⟨0, 1, M, by omega, rfl, by omega, HX.out, HIB2.out, HM.out, hs2, HB2.out⟩
  case round =>
    clear HX HIB2 HM HB2
    obtain ⟨j, k, M, hj, rfl, hk, hx, hib, hM, hwy, hbel⟩ := hrel
    obtain ⟨f1, f2, f3⟩ := itA_is j hj
    obtain ⟨o1, o2⟩ := itA_ok j
    have HMV := hide (C.moveW hx hib (fun i hi hs => by have := hM i hi; have := (HS.out i hs).2; omega) o1 o2 f2 (by omega) f3)
    rw [f1] at HMV
    have HSZ : Hid (∀ z, Below w.heap.size w wr → Keeps (fun i => M i ∨ S i) wr z → (∀ i, More M wr z i → y1.heap.size ≤ i) ∧ Below w.heap.size w z) := fun z hb hk => by
      have hw1 : y1.heap.size ≤ wr.heap.size := hwy
      refine ⟨fun i hi => ?_, hb.trans (hk.below hb.size (fun i hi => ?_))⟩
      · rcases hi with hi | hi
        · exact hM i hi
        · omega
      · rcases hi with hi | hi
        · exact Nat.le_trans HWY.out (hM i hi)
        · exact (HS.out i hi).1
    have HBL := hide hbel
    clear hx hib hM f1 f2 f3 o1 o2 hbel
    by_cases h3 : j = 3
    · rw [if_pos h3] at HMV
      subst h3
      rw [show ((3 : Nat) : Int) = 3 from rfl]
      rw [show ((2 : Nat) : Int) = 2 from rfl] at HMV
      go_wp2_with fail
      refine HMV.out.mono ?_
      rintro e z ⟨rfl, _, hib', hk'⟩
      have HBZ := hide (HSZ.out z HBL.out hk').2
      have HLD0 := inb_load hib' 0 (by omega)
      have e12 : ((wkMove (itA 3).1 (itA 3).2).2.1.l.getD 0 0 : Int) = 12 := rfl
      rw [e12, show ((5 + 0 : Nat) : Int) = 5 from rfl] at HLD0
      have HLD := hide HLD0
      clear HLD0 hib' hk' HMV HSZ e12
      go_wp2_with fail
      refine HLD.out.mono ?_
      rintro e z2 ⟨rfl, bz⟩
      go_wp2
      go_ret
      exact ⟨rfl, HBZ.out.trans (bz.mono HBZ.out.size)⟩
    · rw [if_neg h3] at HMV
      rw [show ((1 : Nat) : Int) = 1 from rfl] at HMV
      go_wp2_with fail
      refine HMV.out.mono ?_
      rintro e z ⟨rfl, hx', hib', hk'⟩
      obtain ⟨hM', hb'⟩ := HSZ.out z HBL.out hk'
      have hsz' := hk'.size
      clear HMV HSZ hk'
      go_wp2
      go_roundw
      case rel => exact ⟨j + 1, k + 1, _, by omega, by go_num, by omega, hx', hib', hM', Nat.le_trans hwy hsz', hb'⟩
      case measure => simp [intOf]; omega
end Go.Proofs.Ytikpphbgjbfddaa
