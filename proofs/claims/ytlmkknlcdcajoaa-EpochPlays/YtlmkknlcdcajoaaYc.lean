/- Package epoch at a table that is there: In, Safe, New; the chapter's example (awake). -/
import Derived.Test.YtlmkknlcdcajoaaMg
namespace Go.Proofs.Ytlmkknlcdcajoaa
open Go.RowKit
theorem getD_intsN {w : World} {base : Nat} {e : TypeId} {v : Value} {l : List Nat} (h : w.ownsRow base e 1 v l.length (intsN l)) : ∃ ao cap, v = .slice ao l.length cap ∧ Sl .i64 w ao l.length (fun j => ((l.getD j 0 : Nat) : Int)) ∧ (0 < l.length → ∃ g off, ao = some ⟨g, off, none⟩ ∧ base ≤ g) := by
  by_cases h0 : l.length = 0
  · rw [h0] at h ⊢
    rcases h.2 with ⟨h1, _⟩ | ⟨g, cap, cur, hv, _⟩
    · exact ⟨none, 0, h1, fun j hj => by omega, fun hj => by omega⟩
    · exact ⟨_, _, hv, fun j hj => by omega, fun hj => by omega⟩
  · obtain ⟨g, cap, rfl, hg, _⟩ := own_form h (by omega)
    refine ⟨_, _, rfl, fun j hj => ⟨g, 0, rfl, ?_⟩, fun _ => ⟨g, 0, rfl, hg⟩⟩
    rw [Nat.zero_add, own_cellsN h rfl j hj]; simp only [List.getD_eq_getElem?_getD]
set_option maxHeartbeats 800000 in
theorem in_at {w : World} {t r1 b1 r2 b2 n now : Nat} {v : Nat → Nat} {won lost : Int} (h : TabAt w t r1 b1 r2 b2 n now v won lost) (hn : n ≤ 8) :
    Calls Try.prog 13 #[.pointer (some ⟨t, 0, none⟩)] w fun e w' => ∃ ao cap, e = .returned (.slice ao (inL v n).length cap) ∧ Sl .i64 w' ao (inL v n).length (fun j => (((inL v n).getD j 0 : Nat) : Int)) ∧ (0 < (inL v n).length → ∃ g off, ao = some ⟨g, off, none⟩ ∧ w.heap.size ≤ g) ∧ Below w.heap.size w w' := by
  obtain ⟨i0, hi, hz0, hz1, hz2⟩ := info_parts Try.infoInt
  have c1 := h.c1
  go_enter Try.func13, Try.ntmps13
  go_wp2_with fail
  refine (len_any r2 _ n n _ h.saw.c0).mono ?_
  rintro e x ⟨rfl, rfl⟩
  go_wp2
  go_loopw [3, 12] (fun l i wr => ∃ k : Nat, k ≤ n ∧ i = .int .i64 k ∧ wr.ownsRow x.heap.size 3 1 l (inL v k).length (intsN (inL v k)) ∧ Below x.heap.size x wr)
    (fun _ i _ => n - (intOf i).toNat)
  case atStart => exact ⟨0, Nat.zero_le _, rfl, by simpa [intsN, inL] using World.ownsRow_nil (e := 3) (size := 1) x x.heap.size, Below.refl _ _⟩
  case round =>
    obtain ⟨k, hk, rfl, hown, hbel⟩ := hrel
    have hB := hbel.size
    have hT := h.below hbel
    have c1' := hT.c1
    have hlen := inL_length v k
    clear c1
    by_cases hlt : k < n
    · by_cases hv : v k = 0
      · have hl := rload hT.saw k hlt 0 (by rw [hv]; rfl)
        have HO : Hid (wr.ownsRow x.heap.size 3 1 u3 (inL v (k + 1)).length (intsN (inL v (k + 1)))) := by
          have e : inL v (k + 1) = inL v k := by simp [inL, hv]
          rw [e]; exact hown
        clear hv hown
        go_wp2_with fail
        refine hl.mono ?_
        rintro e y ⟨rfl, rfl⟩
        go_wp2
        go_roundw
        case rel => exact ⟨k + 1, by omega, by go_num, HO.out, hbel⟩
        case measure => simp [intOf]; omega
      · have hl := rload hT.saw k hlt (v k : Int) rfl
        have hvb : ((v k : Int) != 0) = true := by rw [bne_iff_ne]; omega
        have e : inL v (k + 1) = inL v k ++ [k] := by simp [inL, hv]
        have HE := hide e
        clear hv e
        go_wp2_with fail
        refine hl.mono ?_
        rintro e y ⟨rfl, rfl⟩
        have hown2 := hown.alloc (.cells #[.int .i64 (k : Int)] 3)
        go_wp2_with (at_builtin; refine wpList_append_own _ rfl _ _ 41 rfl x.heap.size 3 i0 (.int .i64 0) 1 8 Try.underlying41 hi hz0 hz1 hz2 rfl (by decide) _ _ _ rfl hown2 ⟨y.heap.size, 0, none⟩ 1 1 [.int .i64 (k : Int)] rfl rfl ?c1 ?c2 ?c3 ?c4 ?c5 ?_)
        case c1 => exact cell_one _ _ _
        case c2 => exact one_int
        case c3 => unfold maxLen; omega
        case c4 => omega
        case c5 => simp; omega
        intro v' w1 hown' hgrow _
        have R := grow_step hown hB hbel hgrow
        clear hgrow hown hown2
        go_wp2
        go_roundw
        case rel => exact ⟨k + 1, by omega, by go_num, by rw [HE.out, intsN_snoc, List.length_append]; exact hown', R⟩
        case measure => simp [intOf]; omega
    · go_wp2
      go_ret
      have e : k = n := by omega
      subst e
      obtain ⟨ao, cap, rfl, hs, hg⟩ := getD_intsN hown
      exact ⟨ao, cap, rfl, hs, hg, hbel⟩
theorem in_far {w : World} {B C t n now : Nat} {v : Nat → Nat} {k : Nat} (h : TabIs w B C t n now v k) :
    Calls Try.prog 13 #[.pointer (some ⟨t, 0, none⟩)] w fun e w' => ∃ ao cap, e = .returned (.slice ao (inL v n).length cap) ∧ Sl .i64 w' ao (inL v n).length (fun j => (((inL v n).getD j 0 : Nat) : Int)) ∧ (0 < (inL v n).length → ∃ g off, ao = some ⟨g, off, none⟩ ∧ w.heap.size ≤ g) ∧ Below w.heap.size w w' := by
  obtain ⟨r1, b1, r2, b2, won, lost, h, _, _, _, hn, _⟩ := h
  exact in_at h hn
theorem in_any {w : World} {B C t n now : Nat} {v : Nat → Nat} {k : Nat} (h : TabIs w B C t n now v k) :
    Calls Try.prog 13 #[.pointer (some ⟨t, 0, none⟩)] w fun e w' => ∃ ao cap, e = .returned (.slice ao (inL v n).length cap) ∧ Sl .i64 w' ao (inL v n).length (fun j => (((inL v n).getD j 0 : Nat) : Int)) ∧ Below w.heap.size w w' := by
  refine (in_far h).mono ?_
  rintro e w' ⟨ao, cap, h1, h2, _, h3⟩
  exact ⟨ao, cap, h1, h2, h3⟩
theorem min_if (f q : Nat) : (if q < f then (q : Int) else (f : Int)) = ((min f q : Nat) : Int) := by split <;> omega
set_option maxHeartbeats 800000 in
theorem safe_at {w : World} {B C t n now : Nat} {v : Nat → Nat} {k : Nat} (h : TabIs w B C t n now v k) (hk : k ≤ 1000000) :
    Calls Try.prog 16 #[.pointer (some ⟨t, 0, none⟩)] w fun e w' => e = .returned (.int .u64 ((leastN now v n - 1 : Nat) : Int)) ∧ Below w.heap.size w w' := by
  obtain ⟨q, hq⟩ : ∃ q, q = leastN now v n := ⟨_, rfl⟩
  rw [← hq]
  have HQ0 := hide hq
  clear hq
  go_enter Try.func16, Try.ntmps16
  go_wp2_with fail
  refine (now_any h).mono ?_
  rintro e x ⟨rfl, rfl⟩
  go_wp2_with fail
  refine (in_any h).mono ?_
  rintro e w1 ⟨ao, cap, rfl, hs, hb⟩
  have h1 := h.below hb
  have hpos : 1 ≤ now ∧ now ≤ 1000001 := by
    obtain ⟨r1, b1, r2, b2, won, lost, _, _, _, _, _, h4⟩ := h
    omega
  have HL : Hid (∀ k, k < (inL v n).length → foldL now v ((inL v n).take (k + 1)) = min (foldL now v ((inL v n).take k)) (v ((inL v n).getD k 0))) := by
    intro k hk
    rw [List.take_succ_eq_append_getElem hk, foldL_snoc, List.getD_eq_getElem?_getD, List.getElem?_eq_getElem hk]; rfl
  have HF : Hid (foldL now v ((inL v n).take (inL v n).length) = q) := by
    rw [List.take_length, HQ0.out]; exact foldL_in now v n
  have HG : Hid (∀ k, k < (inL v n).length → (inL v n).getD k 0 < n) := fun k hk => (inL_get v n k hk).1
  have HP : Hid (1 ≤ q ∧ q ≤ now) := by rw [HQ0.out]; exact ⟨leastN_pos now v n hpos.1, leastN_le_now now v n⟩
  have hlen : (inL v n).length ≤ 8 := by
    have := inL_length v n
    obtain ⟨r1, b1, r2, b2, won, lost, _, _, _, _, h8, _⟩ := h
    omega
  generalize inL v n = L at *
  generalize hm : L.length = m at *
  have HM := hide hm
  clear hm h
  have HS := hide hs
  clear hs
  go_wp2
  go_loop [3, 13] (fun a i => ∃ k : Nat, k ≤ m ∧ i = .int .i64 k ∧ a = .int .u64 ((foldL now v (L.take k) : Nat) : Int))
    (fun _ i => m - (intOf i).toNat)
  case atStart => exact ⟨0, Nat.zero_le _, rfl, rfl⟩
  case round =>
    obtain ⟨k, hk, rfl, rfl⟩ := hrel
    by_cases hlt : k < m
    · obtain ⟨g, off, rfl, hc⟩ := HS.out k hlt
      replace hc : w1.cell? ⟨g, off + k, none⟩ = some (.int .i64 ((L.getD k 0 : Nat) : Int)) := hc
      have hq := HL.out k hlt
      have hp := HG.out k hlt
      have hseen := seen_any h1 (L.getD k 0) hp
      generalize L.getD k 0 = p at *
      generalize foldL now v (L.take k) = f at *
      generalize v p = z at *
      have HQ := hide hq
      clear hq
      go_wp2_with fail
      refine hseen.mono ?_
      rintro e y ⟨rfl, rfl⟩
      go_wp2
      go_round
      case rel => exact ⟨k + 1, by omega, by go_num, by rw [HQ.out, ← min_if]⟩
      case measure => simp [intOf]; omega
    · have e : k = m := by omega
      subst e
      rw [HF.out]
      obtain ⟨p1, p2⟩ := HP.out
      go_wp2
      go_ret
      exact ⟨ret_int (by omega), hb⟩
theorem new_no (s : Int) (hs : s < 1 ∨ 8 < s) (w : World) :
    Calls Try.prog 8 #[.int .i64 s] w fun e w' => e = .returned (.tuple #[.pointer none, .int .i64 1]) ∧ w' = w := by
  by_cases h : s < 1
  · go_enter Try.func8, Try.ntmps8
    go_wp2
    go_ret2
    exact ⟨rfl, rfl⟩
  · have h2 : 8 < s := by omega
    clear hs
    go_enter Try.func8, Try.ntmps8
    go_wp2
    go_ret2
    exact ⟨rfl, rfl⟩
set_option maxHeartbeats 400000 in
theorem table_yes (s : Nat) (h1 : 1 ≤ s) (h2 : s ≤ 8) (w : World) :
    Calls Try.prog 8 #[.int .i64 (s : Int)] w fun e w' => ∃ t, e = .returned (.tuple #[.pointer (some ⟨t, 0, none⟩), .int .i64 0]) ∧ TabIs w' w.heap.size w'.heap.size t s 1 (fun _ => 0) 0 ∧ Below w.heap.size w w' := by
  go_enter Try.func8, Try.ntmps8
  go_wp2_with fail
  refine (new_yes 1 (by decide) (by decide) _).mono ?_
  rintro e w1 ⟨r1, b1, rfl, k1, hr1, hb1, B1⟩
  go_wp2_with fail
  refine (new_yes s h1 (by omega) _).mono ?_
  rintro e w2 ⟨r2, b2, rfl, k2, hr2, hb2, B2⟩
  have j1 := k1.below B2
  have lr1 : r1 < w1.heap.size := World.block_lt_of_cell? w1 _ k1.c0
  have lb1 : b1 < w1.heap.size := World.block_lt_of_cell? w1 _ (k1.cs 0 (by decide))
  have lr2 : r2 < w2.heap.size := World.block_lt_of_cell? w2 _ k2.c0
  have lb2 : b2 < w2.heap.size := World.block_lt_of_cell? w2 _ (k2.cs 0 (by omega))
  have e1 := B1.size
  have e2 := B2.size
  go_wp2_with fail
  refine (store_yes r1 b1 1 1 0 _ 1 (by decide) _ j1.c0 (j1.cs 0 (by decide)) (j1.fs 0 (by decide))).mono ?_
  rintro e w3 ⟨rfl, rfl⟩
  have m1 : RowIs (w2.setCell ⟨b1, 0, none⟩ (.int .u64 1)) r1 b1 1 (fun _ => ((1 : Nat) : Int)) 0 0 := by
    refine (j1.word 0 (by decide) 1).congr ?_
    intro i hi
    have : i = 0 := by omega
    subst this
    rw [updV_same]; rfl
  have m2 : RowIs (w2.setCell ⟨b1, 0, none⟩ (.int .u64 1)) r2 b2 s (fun _ => ((0 : Nat) : Int)) 0 0 := k2.other _ _ (by simp; omega) (by simp; omega)
  have B3 : Below w.heap.size w (w2.setCell ⟨b1, 0, none⟩ (.int .u64 1)) := (B1.trans (B2.mono e1)).setCell hb1 _
  have hsz : (w2.setCell ⟨b1, 0, none⟩ (.int .u64 1)).heap.size = w2.heap.size := by simp [World.setCell]
  clear k1 k2 j1 B1 B2
  generalize w2.setCell ⟨b1, 0, none⟩ (.int .u64 1) = w3 at *
  go_wp2
  go_ret2
  have B4 := (Below.refl w3.heap.size w3).alloc (Nat.le_refl _) (Obj.cells #[.pointer (some ⟨r1, 0, none⟩), .pointer (some ⟨r2, 0, none⟩)] 55)
  have e3 := B3.size
  have e4 : (w3.alloc (Obj.cells #[.pointer (some ⟨r1, 0, none⟩), .pointer (some ⟨r2, 0, none⟩)] 55)).heap.size = w3.heap.size + 1 := by simp
  refine ⟨w2.heap.size, rfl, ⟨r1, b1, r2, b2, 0, 0, ⟨?_, ?_, m1.below B4, m2.below B4, ?_, ?_, ?_, ?_, ?_, ?_, ?_⟩, ?_, by decide, by decide, h2, by decide⟩, B3.alloc (by omega) _⟩
  · rw [← hsz]; simp
  · rw [← hsz]; simp
  all_goals omega
set_option maxHeartbeats 1000000 in
theorem awake6_any (w : World) :
    Calls Try.prog 7 #[] w fun e w' => e = .returned (.bool true) ∧ Below w.heap.size w w' := by
  go_enter Try.func7, Try.ntmps7
  go_wp2_with fail
  refine (table_yes 1 (by decide) (by decide) _).mono ?_
  rintro e w1 ⟨t, rfl, h1, b1⟩
  have hz := b1.size
  go_wp2_with fail
  refine (enter_any h1 (by decide) 0).mono ?_
  rintro e w2 ⟨he, h2, b2⟩
  rw [show doesE 1 (fun _ => 0) 1 0 = 0 by decide] at he
  subst he
  replace b2 := b1.trans (b2.below hz)
  have hz2 := b2.size
  go_wp2_with fail
  refine (bump_any h2 (by decide)).mono ?_
  rintro e w3 ⟨rfl, h3, b3⟩
  replace b3 := b2.trans (b3.below hz2)
  have hz3 := b3.size
  go_wp2_with fail
  refine (safe_at h3 (by decide)).mono ?_
  rintro e w4 ⟨he, b4⟩
  rw [show leastN (1 + 1) (doesV 1 1 (fun _ => 0) 1 0) 1 - 1 = 0 by decide] at he
  subst he
  have h4 := h3.below b4
  replace b4 := b3.trans (b4.mono b3.size)
  go_wp2_with fail
  refine (refresh_any h4 0).mono ?_
  rintro e w5 ⟨he, h5, b5⟩
  rw [show doesE 1 (doesV 1 1 (fun _ => 0) 1 0) 2 0 = 0 by decide] at he
  subst he
  replace b5 := b4.trans (b5.below b4.size)
  go_wp2_with fail
  refine (safe_at h5 (by decide)).mono ?_
  rintro e w6 ⟨he, b6⟩
  rw [show leastN (1 + 1) (doesV 1 (1 + 1) (doesV 1 1 (fun _ => 0) 1 0) 2 0) 1 - 1 = 1 by decide] at he
  subst he
  replace b6 := b5.trans (b6.mono b5.size)
  go_wp2
  go_ret
  exact ⟨rfl, b6⟩
end Go.Proofs.Ytlmkknlcdcajoaa
