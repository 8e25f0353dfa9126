/- Parts of the proof: Jo. -/
import Derived.Test.YtikpphbgjbfddaaJ23
import Derived.Test.YtikpphbgjbfddaaJ25
import Derived.Test.YtikpphbgjbfddaaJ29
import Derived.Test.YtikpphbgjbfddaaJ30
namespace Go.Proofs.Ytikpphbgjbfddaa
set_option maxRecDepth 20000
open Go.RowKit
theorem rtext_any (ao : Option Addr) (cap : Nat) (l : List Nat) (n : Nat) (w : World) (hs : Sl .u64 w ao l.length (fun j => (l.getD j 0 : Int))) (hl : AllW l) (hL : l.length ≤ 1000) (hn : n ≤ 8 * l.length) :
    Calls Try.prog 12 #[.slice ao l.length cap, .int .i64 (n : Int)] w fun e w' => e = .returned (.string (txtS l n)) ∧ Below w.heap.size w w' := by
  obtain ⟨T, HT⟩ : ∃ T, Hid (txtS l n = T) := ⟨_, rfl⟩
  rw [HT.out]
  obtain ⟨r, hr⟩ : ∃ r : Bool, r = true ↔ Empty (fun j => l.getD j 0) n l.length := by
    classical
    exact ⟨decide (Empty (fun j => l.getD j 0) n l.length), by simp⟩
  have HX := hide (text_any ao l.length cap n (fun j => l.getD j 0) r T w (by omega) hn hs (fun j _ => hl.get j) hr (by
    rw [← HT.out]
    unfold txtS
    by_cases e : Empty (fun j => l.getD j 0) n l.length
    · rw [if_pos e, if_pos (hr.2 e)]
    · rw [if_neg e, if_neg (fun h => e (hr.1 h))]))
  clear hs hl hr
  go_enter Try.func12, Try.ntmps12
  go_wp2_with fail
  refine HX.out.mono ?_
  rintro e z ⟨rfl, b1⟩
  go_wp2
  go_ret
  exact ⟨rfl, b1⟩
def kS : ByteArray := ⟨#[107]⟩
theorem fresh_any (s : ByteArray) (hs : s.size ≤ 128) (w : World) :
    Calls Try.prog 50 #[.string kS, .string s] w fun e w' => ∃ u, e = .returned u ∧ w'.ownsRow w.heap.size 43 1 u (recL 0 false false kS s).length (uintsN (recL 0 false false kS s)) ∧ Below w.heap.size w w' := by
  have HW := hide (ref_words 0 false false kS s w (by
    have e1 : kS.size = 1 := rfl
    unfold rightE
    rw [e1, if_neg (fun h => by rcases h with h | h | h; · omega
                                · omega
                                · exact absurd h.1 (by decide)), if_neg (by omega)]))
  generalize recL 0 false false kS s = R at *
  simp only [recV] at HW
  generalize kS = k at *
  go_enter Try.func50, Try.ntmps50
  go_wp2_with fail
  refine HW.out.mono ?_
  rintro e z ⟨u, rfl, ho, b1⟩
  go_wp2
  go_ret
  exact ⟨u, rfl, ho, b1⟩
theorem recL_get (s : ByteArray) : (recL 0 false false kS s).getD 1 0 = 0 ∧ ∀ j, j < wordsFor s.size → (recL 0 false false kS s).getD (4 + j) 0 = (wordsL s.data.toList (wordsFor s.size)).getD j 0 := by
  have e1 : wordsFor kS.size = 1 := rfl
  have e2 : (wordsL kS.data.toList (wordsFor kS.size)).length = 1 := by rw [wordsL_length]; exact e1
  refine ⟨rfl, fun j hj => ?_⟩
  unfold recL
  rw [List.getD_eq_getElem?_getD, List.getD_eq_getElem?_getD, List.getElem?_append_right (by simp [e2])]
  rw [show ([packN 0 false false, 0, lenN kS.size s.size] ++ wordsL kS.data.toList (wordsFor kS.size)).length = 4 by rw [List.length_append, e2]; rfl]
  rw [show 4 + j - 4 = j by omega]
theorem page6 (a : Nat) (ha : a < 64) : pageN 6 a = 0 ∧ offN 6 a = a := by
  unfold pageN offN
  have h : ((5 : Int) ≤ 6 ∧ (6 : Int) ≤ 9) ∧ a ≤ 281474976710655 := ⟨by decide, by omega⟩
  rw [if_pos h, if_pos h]
  show a / 64 = 0 ∧ a % 64 = a
  omega
theorem fits6 (a k : Nat) (ha : a < 64) (hk : 1 ≤ k) (h : a + k ≤ 64) : fitsB 6 a (k : Int) = true := by
  have hr : roomN 6 a = 64 - a := by
    unfold roomN
    rw [if_pos ⟨by decide, by omega⟩]
    show 64 - a % 64 = 64 - a
    omega
  unfold fitsB
  rw [hr]
  simp
  omega
set_option maxHeartbeats 1000000 in
/-- A buffer of a page with a record. -/
theorem begin_any (s : ByteArray) (hs : s.size ≤ 128) (w : World) :
    Calls Try.prog 25 #[.string s] w fun e w' => ∃ (t : Nat) (S : Nat → Prop), e = .returned (.tuple #[.pointer (some ⟨t, 0, none⟩), .bool true]) ∧ InBuf w' S t 1 (wordsFor s.size) ⟨false, 0, wordsL s.data.toList (wordsFor s.size)⟩ ∧ (∀ i, S i → w.heap.size ≤ i ∧ i < w'.heap.size) ∧ Below w.heap.size w w' := by
  have HF := hide (fresh_any s hs)
  have hRl : (recL 0 false false kS s).length = sizeR 1 s.size := recL_length 0 false false kS s
  have hRg := hide (recL_get s)
  have hN : wordsFor s.size ≤ 16 := by unfold wordsFor; omega
  have hRn : 4 ≤ sizeR 1 s.size ∧ sizeR 1 s.size = 4 + wordsFor s.size := by
    have : wordsFor 1 = 1 := rfl
    unfold sizeR; omega
  have HNW := hide (pb_new_yes 6 2 (by decide) (by decide))
  generalize wordsL s.data.toList (wordsFor s.size) = L at *
  generalize wordsFor s.size = N at *
  generalize recL 0 false false kS s = R at *
  clear hs
  go_enter Try.func25, Try.ntmps25
  go_wp2_with fail
  refine (HNW.out _).mono ?_
  rintro e y1 ⟨t, rfl, ⟨fb, g, o, hp⟩, b1⟩
  have HO := hide (pb_open_yes hp 0 (by omega) rfl (fun k hk => hk.2))
  clear HNW
  go_wp2_with fail
  refine HO.out.mono ?_
  rintro e y2 ⟨rfl, ⟨fb2, g2, o2, hp2⟩, k2⟩
  have hb2 : Below w.heap.size w y2 := b1.trans (k2.below b1.size (fun k hk => hk.1))
  have hM : ∀ k, More (fun k => w.heap.size ≤ k ∧ k < y1.heap.size) y1 y2 k → w.heap.size ≤ k ∧ k < y2.heap.size := fun k hk => by
    have := b1.size
    have := k2.size
    rcases hk with hk | hk <;> omega
  have HP := hide hp2
  clear HO hp k2 hp2
  go_wp2_with fail
  refine (HF.out _).mono ?_
  rintro e y3 ⟨u, rfl, ho, b3⟩
  obtain ⟨ao, cap, rfl, hsl⟩ := own_slU ho rfl
  have hab : ∀ b off, ao = some ⟨b, off, none⟩ → y2.heap.size ≤ b := fun b off e => by
    have := ho.lt b (by rw [e]; rfl)
    exact this.1
  have hp3 := HP.out.below b3
  have h6 := page6 1 (by omega)
  have HFI := hide (pb_fill_yes (cap := cap) hp3 1 (by omega) (fun _ => 0) (by rw [h6.1]; rfl) R.length (fits6 1 R.length (by omega) (by omega) (by omega)) ao _ hsl (fun _ b off e hS => by have := hab b off e; have := (hM b hS).2; omega))
  rw [h6.1, h6.2] at HFI
  have HRL : Hid (R.length = 4 + N) := by rw [Hid, hRl]; exact hRn.2
  clear HF ho hsl hp3 HP hRl hRn
  generalize R.length = rl at *
  go_wp2_with fail
  refine HFI.out.mono ?_
  rintro e y4 ⟨rfl, hp4, k4⟩
  have B3 := hb2.trans (b3.mono hb2.size)
  have hs4 := Nat.le_trans b3.size k4.size
  go_wp2
  go_ret2
  have hRl := HRL.out
  refine ⟨t, _, rfl, ⟨⟨_, _, ⟨_, _, _, hp4⟩, rfl, ?_, fun j hj => ?_⟩, hN⟩, fun i hi => ⟨(hM i hi).1, Nat.lt_of_lt_of_le (hM i hi).2 hs4⟩, B3.trans (k4.below B3.size (fun k hk => (hM k hk).1))⟩
  · unfold fillV
    rw [if_pos (by omega)]
    show ((R[1]?.getD 0 : Nat) : Int) = _
    have := hRg.out.1
    rw [List.getD_eq_getElem?_getD] at this
    rw [this]; rfl
  · unfold fillV
    rw [if_pos (by omega)]
    show ((R[5 + j - 1]?.getD 0 : Nat) : Int) = _
    have := hRg.out.2 j hj
    rw [List.getD_eq_getElem?_getD] at this
    rw [show 5 + j - 1 = 4 + j by omega, this]
end Go.Proofs.Ytikpphbgjbfddaa
