/- Parts of the proof: Jo Jp. -/
import Derived.Test.YtikpphbgjbfddaaJ10
import Derived.Test.YtikpphbgjbfddaaJ11
import Derived.Test.YtikpphbgjbfddaaJ12
import Derived.Test.YtikpphbgjbfddaaJ13
namespace Go.Proofs.Ytikpphbgjbfddaa
set_option maxRecDepth 20000
open Go.RowKit
theorem rtext_any (ao : Option Addr) (cap : Nat) (l : List Nat) (n : Nat) (w : World) (hs : Sl .u64 w ao l.length (fun j => (l.getD j 0 : Int))) (hl : AllW l) (hL : l.length ≤ 1000) (hn : n ≤ 8 * l.length) :
    Calls Try.prog 12 #[.slice ao l.length cap, .int .i64 (n : Int)] w fun e w' => e = .returned (.string (txtS l n)) ∧ Below w.heap.size w w' := by
  obtain ⟨T, HT⟩ : ∃ T, Hid (txtS l n = T) := ⟨_, rfl⟩
  rw [HT.out]
  obtain ⟨r, hr⟩ : ∃ r : Bool, r = true ↔ Empty (fun j => l.getD j 0) n l.length := by
    classical
    exact ⟨decide (Empty (fun j => l.getD j 0) n l.length), by simp⟩
  have HX := hide (text_any ao l.length cap n (fun j => l.getD j 0) r T w (by omega) hn hs (fun j _ => hl.get j) hr (by
    rw [← HT.out]
    unfold txtS
    by_cases e : Empty (fun j => l.getD j 0) n l.length
    · rw [if_pos e, if_pos (hr.2 e)]
    · rw [if_neg e, if_neg (fun h => e (hr.1 h))]))
  clear hs hl hr
  go_enter Try.func12, Try.ntmps12
  go_wp2_with fail
  refine HX.out.mono ?_
  rintro e z ⟨rfl, b1⟩
  go_wp2
  go_ret
  exact ⟨rfl, b1⟩
def kS : ByteArray := ⟨#[107]⟩
theorem fresh_any (s : ByteArray) (hs : s.size ≤ 128) (w : World) :
    Calls Try.prog 50 #[.string kS, .string s] w fun e w' => ∃ u, e = .returned u ∧ w'.ownsRow w.heap.size 43 1 u (recL 0 false false kS s).length (uintsN (recL 0 false false kS s)) ∧ Below w.heap.size w w' := by
  have HW := hide (ref_words 0 false false kS s w (by
    have e1 : kS.size = 1 := rfl
    unfold rightE
    rw [e1, if_neg (fun h => by rcases h with h | h | h; · omega
                                · omega
                                · exact absurd h.1 (by decide)), if_neg (by omega)]))
  generalize recL 0 false false kS s = R at *
  simp only [recV] at HW
  generalize kS = k at *
  go_enter Try.func50, Try.ntmps50
  go_wp2_with fail
  refine HW.out.mono ?_
  rintro e z ⟨u, rfl, ho, b1⟩
  go_wp2
  go_ret
  exact ⟨u, rfl, ho, b1⟩
theorem recL_get (s : ByteArray) : (recL 0 false false kS s).getD 1 0 = 0 ∧ ∀ j, j < wordsFor s.size → (recL 0 false false kS s).getD (4 + j) 0 = (wordsL s.data.toList (wordsFor s.size)).getD j 0 := by
  have e1 : wordsFor kS.size = 1 := rfl
  have e2 : (wordsL kS.data.toList (wordsFor kS.size)).length = 1 := by rw [wordsL_length]; exact e1
  refine ⟨rfl, fun j hj => ?_⟩
  unfold recL
  rw [List.getD_eq_getElem?_getD, List.getD_eq_getElem?_getD, List.getElem?_append_right (by simp [e2])]
  rw [show ([packN 0 false false, 0, lenN kS.size s.size] ++ wordsL kS.data.toList (wordsFor kS.size)).length = 4 by rw [List.length_append, e2]; rfl]
  rw [show 4 + j - 4 = j by omega]
theorem page6 (a : Nat) (ha : a < 64) : pageN 6 a = 0 ∧ offN 6 a = a := by
  unfold pageN offN
  have h : ((5 : Int) ≤ 6 ∧ (6 : Int) ≤ 9) ∧ a ≤ 281474976710655 := ⟨by decide, by omega⟩
  rw [if_pos h, if_pos h]
  show a / 64 = 0 ∧ a % 64 = a
  omega
theorem fits6 (a k : Nat) (ha : a < 64) (hk : 1 ≤ k) (h : a + k ≤ 64) : fitsB 6 a (k : Int) = true := by
  have hr : roomN 6 a = 64 - a := by
    unfold roomN
    rw [if_pos ⟨by decide, by omega⟩]
    show 64 - a % 64 = 64 - a
    omega
  unfold fitsB
  rw [hr]
  simp
  omega
set_option maxHeartbeats 1000000 in
/-- A buffer of a page with a record. -/
theorem begin_any (s : ByteArray) (hs : s.size ≤ 128) (w : World) :
    Calls Try.prog 25 #[.string s] w fun e w' => ∃ (t : Nat) (S : Nat → Prop), e = .returned (.tuple #[.pointer (some ⟨t, 0, none⟩), .bool true]) ∧ InBuf w' S t 1 (wordsFor s.size) ⟨false, 0, wordsL s.data.toList (wordsFor s.size)⟩ ∧ (∀ i, S i → w.heap.size ≤ i ∧ i < w'.heap.size) ∧ Below w.heap.size w w' := by
  have HF := hide (fresh_any s hs)
  have hRl : (recL 0 false false kS s).length = sizeR 1 s.size := recL_length 0 false false kS s
  have hRg := hide (recL_get s)
  have hN : wordsFor s.size ≤ 16 := by unfold wordsFor; omega
  have hRn : 4 ≤ sizeR 1 s.size ∧ sizeR 1 s.size = 4 + wordsFor s.size := by
    have : wordsFor 1 = 1 := rfl
    unfold sizeR; omega
  have HNW := hide (pb_new_yes 6 2 (by decide) (by decide))
  generalize wordsL s.data.toList (wordsFor s.size) = L at *
  generalize wordsFor s.size = N at *
  generalize recL 0 false false kS s = R at *
  clear hs
  go_enter Try.func25, Try.ntmps25
  go_wp2_with fail
  refine (HNW.out _).mono ?_
  rintro e y1 ⟨t, rfl, ⟨fb, g, o, hp⟩, b1⟩
  have HO := hide (pb_open_yes hp 0 (by omega) rfl (fun k hk => hk.2))
  clear HNW
  go_wp2_with fail
  refine HO.out.mono ?_
  rintro e y2 ⟨rfl, ⟨fb2, g2, o2, hp2⟩, k2⟩
  have hb2 : Below w.heap.size w y2 := b1.trans (k2.below b1.size (fun k hk => hk.1))
  have hM : ∀ k, More (fun k => w.heap.size ≤ k ∧ k < y1.heap.size) y1 y2 k → w.heap.size ≤ k ∧ k < y2.heap.size := fun k hk => by
    have := b1.size
    have := k2.size
    rcases hk with hk | hk <;> omega
  have HP := hide hp2
  clear HO hp k2 hp2
  go_wp2_with fail
  refine (HF.out _).mono ?_
  rintro e y3 ⟨u, rfl, ho, b3⟩
  obtain ⟨ao, cap, rfl, hsl⟩ := own_slU ho rfl
  have hab : ∀ b off, ao = some ⟨b, off, none⟩ → y2.heap.size ≤ b := fun b off e => by
    have := ho.lt b (by rw [e]; rfl)
    exact this.1
  have hp3 := HP.out.below b3
  have h6 := page6 1 (by omega)
  have HFI := hide (pb_fill_yes (cap := cap) hp3 1 (by omega) (fun _ => 0) (by rw [h6.1]; rfl) R.length (fits6 1 R.length (by omega) (by omega) (by omega)) ao _ hsl (fun _ b off e hS => by have := hab b off e; have := (hM b hS).2; omega))
  rw [h6.1, h6.2] at HFI
  have HRL : Hid (R.length = 4 + N) := by rw [Hid, hRl]; exact hRn.2
  clear HF ho hsl hp3 HP hRl hRn
  generalize R.length = rl at *
  go_wp2_with fail
  refine HFI.out.mono ?_
  rintro e y4 ⟨rfl, hp4, k4⟩
  have B3 := hb2.trans (b3.mono hb2.size)
  have hs4 := Nat.le_trans b3.size k4.size
  go_wp2
  go_ret2
  have hRl := HRL.out
  refine ⟨t, _, rfl, ⟨⟨_, _, ⟨_, _, _, hp4⟩, rfl, ?_, fun j hj => ?_⟩, hN⟩, fun i hi => ⟨(hM i hi).1, Nat.lt_of_lt_of_le (hM i hi).2 hs4⟩, B3.trans (k4.below B3.size (fun k hk => (hM k hk).1))⟩
  · unfold fillV
    rw [if_pos (by omega)]
    show ((R[1]?.getD 0 : Nat) : Int) = _
    have := hRg.out.1
    rw [List.getD_eq_getElem?_getD] at this
    rw [this]; rfl
  · unfold fillV
    rw [if_pos (by omega)]
    show ((R[5 + j - 1]?.getD 0 : Nat) : Int) = _
    have := hRg.out.2 j hj
    rw [List.getD_eq_getElem?_getD] at this
    rw [show 5 + j - 1 = 4 + j by omega, this]
end Go.Proofs.Ytikpphbgjbfddaa
namespace Go.Proofs.Ytikpphbgjbfddaa
set_option maxRecDepth 20000
open Go.RowKit
theorem valS_words (n : Nat) (hn : n < 18446744073709551616) : wordsFor (valS n).size = 1 ∧ wordsL (valS n).data.toList 1 = [n] := by
  refine ⟨by rw [valS_size]; rfl, ?_⟩
  show [wordAt (valS n).data.toList 0] = [n]
  have : wordAt (valS n).data.toList 0 = n := by
    rw [valS, strL_toList]
    unfold wordAt
    rw [Nat.mul_zero, List.drop_zero, List.take_of_length_le (by rw [bytesL_length]; decide), leN_bytes n hn]
  rw [this]
theorem inb_load {w : World} {S : Nat → Prop} {t k N : Nat} {c : Ce} (h : InBuf w S t k N c) (j : Nat) (hj : j < N) :
    Calls Try.prog 16 #[.pointer (some ⟨t, 0, none⟩), .int .u64 ((5 + j : Nat) : Int)] w fun e w' => e = .returned (.tuple #[.int .u64 (c.l.getD j 0 : Int), .int .i64 0]) ∧ Below w.heap.size w w' := by
  obtain ⟨F, V, ⟨fb, g, o, hp⟩, hF, _, hV⟩ := h.ex
  have hf := h.few
  obtain ⟨p1, p2⟩ := page6 (5 + j) (by omega)
  exact pb_load_yes hp (5 + j) (by omega) V (by rw [p1]; exact hF) _ (by rw [p2]; exact hV j hj)
theorem inb_lock {w : World} {S : Nat → Prop} {t k N : Nat} {c : Ce} (h : InBuf w S t k N c) :
    Calls Try.prog 16 #[.pointer (some ⟨t, 0, none⟩), .int .u64 2] w fun e w' => e = .returned (.tuple #[.int .u64 (((if c.lk = true then 9223372036854775808 else 0) + c.ct : Nat) : Int), .int .i64 0]) ∧ Below w.heap.size w w' := by
  obtain ⟨F, V, ⟨fb, g, o, hp⟩, hF, h2, _⟩ := h.ex
  obtain ⟨p1, p2⟩ := page6 2 (by omega)
  exact pb_load_yes hp 2 (by omega) V (by rw [p1]; exact hF) _ (by rw [p2]; exact h2)
theorem inb_words {w : World} {S : Nat → Prop} {t k N : Nat} {c : Ce} (h : InBuf w S t k N c) (h0 : 1 ≤ N) :
    Calls Try.prog 30 #[.pointer (some ⟨t, 0, none⟩), .int .u64 5, .int .i64 (N : Int)] w fun e w' => ∃ b, e = .returned (.tuple #[.slice (some ⟨b, 0, none⟩) N N, .int .i64 0]) ∧ Sl .u64 w' (some ⟨b, 0, none⟩) N (fun j => (c.l.getD j 0 : Int)) ∧ Below w.heap.size w w' := by
  obtain ⟨F, V, ⟨fb, g, o, hp⟩, hF, _, hV⟩ := h.ex
  have hf := h.few
  obtain ⟨p1, p2⟩ := page6 5 (by omega)
  refine (pb_words_yes hp 5 (by omega) V (by rw [p1]; exact hF) N (fits6 5 N (by omega) h0 (by omega))).mono ?_
  rintro e w' ⟨b, rfl, hs, hb⟩
  refine ⟨b, rfl, fun j hj => ?_, hb⟩
  obtain ⟨q, off, e, hc⟩ := hs j hj
  refine ⟨q, off, e, ?_⟩
  rw [hc]
  simp only [p2]
  rw [hV j hj]
def itA : Nat → Ce × Wk
  | 0 => (⟨false, 0, [5]⟩, wkA 7)
  | j + 1 => ((wkMove (itA j).1 (itA j).2).2.1, (wkMove (itA j).1 (itA j).2).2.2)
theorem itA_ok : ∀ j, CeOk 1 (itA j).1 ∧ WkOk 1 (itA j).2 := fun j => by
  induction j with
  | zero =>
    refine ⟨⟨rfl, fun x hx => ?_, by decide⟩, ⟨by decide, fun x hx => by simp [itA, wkA] at hx, fun x hx => by simp [itA, wkA] at hx, by decide, by simp [itA, wkA], fun h => by simp [itA, wkA] at h, fun h => by simp [itA, wkA] at h, by simp [itA, wkA], fun h => by simp [itA, wkA] at h, fun _ h => by simp [itA, wkA] at h, fun _ => by simp [itA, wkA]⟩⟩
    simp [itA] at hx; subst hx; decide
  | succ j ih => exact wk_keeps ih.1 ih.2
theorem itA_is : ∀ j, j ≤ 3 → (wkMove (itA j).1 (itA j).2).1 = (if j = 3 then 2 else 1) ∧ (itA j).2.rd = false ∧ ((itA j).2.holds = true → (itA j).1.lk = true ∧ (itA j).2.tk = (itA j).1.ct) := fun j hj => by
  match j, hj with
  | 0, _ => exact ⟨rfl, rfl, fun h => by cases h⟩
  | 1, _ => exact ⟨rfl, rfl, fun _ => ⟨rfl, rfl⟩⟩
  | 2, _ => exact ⟨rfl, rfl, fun _ => ⟨rfl, rfl⟩⟩
  | 3, _ => exact ⟨rfl, rfl, fun _ => ⟨rfl, rfl⟩⟩
set_option maxHeartbeats 2000000 in
theorem awake18 {X : InPred} (C : InProg X) (w : World) :
    Calls Try.prog 6 #[] w fun e w' => e = .returned (.bool true) ∧ Below w.heap.size w w' := by
  have HV := hide (rvalue_any 5 w (by decide))
  have HBG := hide (begin_any (valS 5) (by rw [valS_size]; decide))
  obtain ⟨hw1, hw2⟩ := valS_words 5 (by decide)
  rw [hw1, hw2] at HBG
  go_enter Try.func6, Try.ntmps6
  go_wp2_with fail
  refine HV.out.mono ?_
  rintro e y0 ⟨rfl, b0⟩
  go_wp2_with fail
  refine (HBG.out _).mono ?_
  rintro e y1 ⟨t, S, rfl, hbuf, hS, b1⟩
  have HNA := hide (C.newA 7 hbuf (by decide))
  have HB := hide (b0.trans (b1.mono b0.size))
  have HIB := hide hbuf
  have HWY : Hid (w.heap.size ≤ y1.heap.size) := (b0.trans (b1.mono b0.size)).size
  have HS : Hid (∀ i, S i → w.heap.size ≤ i ∧ i < y1.heap.size) := fun i hi => by
    have := hS i hi
    have := b0.size
    omega
  clear HV HBG hw1 hw2 b0 b1 hS hbuf
  go_wp2_with fail
  refine HNA.out.mono ?_
  rintro e y2 ⟨M, p, rfl, hx, hM, b2⟩
  have HB2 := hide (HB.out.trans (b2.mono HB.out.size))
  have HX := hide hx
  have HIB2 := hide (HIB.out.keep (Below.keeps (S := fun _ => False) b2) (fun _ _ => id))
  have HM := hide hM
  have hs2 := b2.size
  clear hx hM b2 HIB HNA HB
  go_wp2
  go_loopw [5] (fun vn wr => ∃ (j k : Nat) (M : Nat → Prop), j ≤ 3 ∧ vn = .int .i64 (j : Int) ∧ k ≤ j + 1 ∧ X wr M t p 1 8 (itA j).2 ∧ InBuf wr S t k 1 (itA j).1 ∧ (∀ i, M i → y1.heap.size ≤ i) ∧ y1.heap.size ≤ wr.heap.size ∧ Below w.heap.size w wr) (fun vn _ => 9 - (intOf vn).toNat)
  case atStart => exact ⟨0, 1, M, by omega, rfl, by omega, HX.out, HIB2.out, HM.out, hs2, HB2.out⟩
  case round =>
    clear HX HIB2 HM HB2
    obtain ⟨j, k, M, hj, rfl, hk, hx, hib, hM, hwy, hbel⟩ := hrel
    obtain ⟨f1, f2, f3⟩ := itA_is j hj
    obtain ⟨o1, o2⟩ := itA_ok j
    have HMV := hide (C.moveW hx hib (fun i hi hs => by have := hM i hi; have := (HS.out i hs).2; omega) o1 o2 f2 (by omega) f3)
    rw [f1] at HMV
    have HSZ : Hid (∀ z, Below w.heap.size w wr → Keeps (fun i => M i ∨ S i) wr z → (∀ i, More M wr z i → y1.heap.size ≤ i) ∧ Below w.heap.size w z) := fun z hb hk => by
      have hw1 : y1.heap.size ≤ wr.heap.size := hwy
      refine ⟨fun i hi => ?_, hb.trans (hk.below hb.size (fun i hi => ?_))⟩
      · rcases hi with hi | hi
        · exact hM i hi
        · omega
      · rcases hi with hi | hi
        · exact Nat.le_trans HWY.out (hM i hi)
        · exact (HS.out i hi).1
    have HBL := hide hbel
    clear hx hib hM f1 f2 f3 o1 o2 hbel
    by_cases h3 : j = 3
    · rw [if_pos h3] at HMV
      subst h3
      rw [show ((3 : Nat) : Int) = 3 from rfl]
      rw [show ((2 : Nat) : Int) = 2 from rfl] at HMV
      go_wp2_with fail
      refine HMV.out.mono ?_
      rintro e z ⟨rfl, _, hib', hk'⟩
      have HBZ := hide (HSZ.out z HBL.out hk').2
      have HLD0 := inb_load hib' 0 (by omega)
      have e12 : ((wkMove (itA 3).1 (itA 3).2).2.1.l.getD 0 0 : Int) = 12 := rfl
      rw [e12, show ((5 + 0 : Nat) : Int) = 5 from rfl] at HLD0
      have HLD := hide HLD0
      clear HLD0 hib' hk' HMV HSZ e12
      go_wp2_with fail
      refine HLD.out.mono ?_
      rintro e z2 ⟨rfl, bz⟩
      go_wp2
      go_ret
      exact ⟨rfl, HBZ.out.trans (bz.mono HBZ.out.size)⟩
    · rw [if_neg h3] at HMV
      rw [show ((1 : Nat) : Int) = 1 from rfl] at HMV
      go_wp2_with fail
      refine HMV.out.mono ?_
      rintro e z ⟨rfl, hx', hib', hk'⟩
      obtain ⟨hM', hb'⟩ := HSZ.out z HBL.out hk'
      have hsz' := hk'.size
      clear HMV HSZ hk'
      go_wp2
      go_roundw
      case rel => exact ⟨j + 1, k + 1, _, by omega, by go_num, by omega, hx', hib', hM', Nat.le_trans hwy hsz', hb'⟩
      case measure => simp [intOf]; omega
end Go.Proofs.Ytikpphbgjbfddaa
