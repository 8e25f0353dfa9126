/- Parts of the proof: Zm. -/
import Derived.Test.YtfghfbmmaclcnaaGreatJ9
namespace Go.Proofs.YtfghfbmmaclcnaaGreat
set_option maxRecDepth 20000
open Go.RowKit
set_option maxHeartbeats 2000000 in
theorem ref_ready_far_at {w : World} {M : Nat → Prop} {t n : Nat} {z : Nat → A3} {g : Nat → Bool} {vL vG : Value} (h : RefIs w M t (takeZ z n) n g vL vG) (hM : ∀ k, M k → k < w.heap.size) (hn : n ≤ 1000) (s : Int) :
    Calls Tryz.prog 119 #[.pointer (some ⟨t, 0, none⟩), .int .u64 s] w fun e w' => ∃ ao cap, e = .returned (.slice ao (readyL s (waitK z g n)).length cap) ∧ As w' ao (readyL s (waitK z g n)).length (getL (readyL s (waitK z g n))) ∧ RefIs w' M t (takeZ z n) n (goneK z g s n) vL vG ∧ Keeps M w w' ∧ ∀ b off, ao = some ⟨b, off, none⟩ → w.heap.size ≤ b := by
  obtain ⟨i0, hi, hz0, hz1, hz2⟩ := info_parts Tryz.infoAct
  obtain ⟨lo, lcap, hvL, hsL, -, hcL⟩ := h.oL.form
  obtain ⟨bo, bcap, hvG, hsG, hcG⟩ := h.oG.form
  subst hvL
  subst hvG
  rw [takeZ_length] at *
  have hMt := hM t h.m
  have HM : Hid (∀ k, M k → k < w.heap.size) := hM
  clear hM
  go_enter Tryz.func119, Tryz.ntmps119
  go_wp2
  go_loopw [5, 6] (fun out i wr => ∃ k : Nat, k ≤ n ∧ i = .int .i64 k ∧ Own3 wr out (readyL s (waitK z g k)) ∧ (∀ b, out.ownBlock = some b → w.heap.size ≤ b) ∧ RefIs wr M t (takeZ z n) n (goneK z g s k) (.slice lo n lcap) (.slice bo n bcap) ∧ Keeps M w wr)
    (fun _ i _ => n - (intOf i).toNat)
  case atStart => exact ⟨0, Nat.zero_le _, rfl, own3_lit w, fun b hb => by simp [Value.ownBlock] at hb; omega, by rw [goneK_zero]; exact h.below ((Below.refl _ _).alloc (Nat.le_refl _) _), Below.keeps ((Below.refl _ _).alloc (Nat.le_refl _) _)⟩
  case round =>
    clear hsL hsG h
    obtain ⟨k, hk, rfl, hown, hlow, hr, hkp⟩ := hrel
    have hB := hkp.size
    have c0 := hr.c0
    have c1 := hr.c1
    by_cases hlt : k < n
    · obtain ⟨lo', lcap', e1, hsL, -, -⟩ := hr.oL.form
      rw [takeZ_length] at e1 hsL
      simp only [Value.slice.injEq] at e1
      obtain ⟨rfl, -, rfl⟩ := e1
      obtain ⟨bo', bcap', e2, hsG, -⟩ := hr.oG.form
      simp only [Value.slice.injEq] at e2
      obtain ⟨rfl, -, rfl⟩ := e2
      obtain ⟨b, off, rfl, d1, d2, d3⟩ := hsL k hlt
      obtain ⟨b', rfl, hob, g1, gf⟩ := hsG k hlt
      rw [getL_takeZ _ _ _ hlt] at d1 d2 d3
      have hq := readyL_length s (waitK z g k)
      have hq2 := waitK_length z g k
      have HW := hide (wait_ready z g s k)
      have hgk : goneK z g s k k = g k := by simp [goneK]
      rw [hgk] at g1
      have HT := hide (goneK_take z g s k)
      have HS := hide (goneK_skip z g s k)
      generalize hzk : z k = a at *
      obtain ⟨ae, ak, ap⟩ := a
      simp only at d1 d2 d3
      clear hsL hsG hgk
      cases hg : g k with
      | true =>
        rw [hg] at g1 HW HS
        clear hg
        go_wp2
        go_roundw
        case rel => exact ⟨k + 1, by omega, by go_num, by rw [HW.out]; simpa using hown, hlow, by rw [HS.out (.inl rfl)]; exact hr, hkp⟩
        case measure => simp [intOf]; omega
      | false =>
        rw [hg] at g1 HW HS
        clear hg
        by_cases hle : ae ≤ s
        · have hown2 := own_one hown (.cells #[.int .u64 ae, .int .i64 ak, .int .i64 ap] 151)
          have hnews := cell_three wr (.int .u64 ae) (.int .i64 ak) (.int .i64 ap) 151
          go_wp2_with (at_builtin; refine wpList_append_lies _ rfl _ _ 74 rfl 0 151 i0 (.agg #[.int .u64 0, .int .i64 0, .int .i64 0]) 3 24 Tryz.underlying74 hi hz0 hz1 hz2 rfl (by decide) _ _ _ rfl hown2 ⟨wr.heap.size, 0, none⟩ 1 1 [.int .u64 ae, .int .i64 ak, .int .i64 ap] rfl rfl hnews three_ints (by decide) ?c3 ?c4 (Nat.zero_le _) (wr.heap.size + 1) (by simp) ?_)
          case c3 => unfold maxLen; omega
          case c4 => omega
          intro b2 cap' w1 hown' hgrow hat hlt2
          have K1 : Keeps (fun k => w.heap.size ≤ k) wr w1 := ((Keeps.refl _ wr).alloc _).grown hgrow (fun k hk _ => hlow k hk)
          have hr1 : RefIs w1 M t (takeZ z n) n (goneK z g s k) _ _ := hr.keep K1 (fun k hm hge => by have := HM.out k hm; omega)
          have r3 : w.heap.size ≤ b2 := by
            rcases hat with hat | hat
            · exact hlow b2 hat
            · omega
          have r1 : Own3 w1 (.slice (some ⟨b2, 0, none⟩) ((readyL s (waitK z g k)).length + 1) cap') (readyL s (waitK z g k) ++ [⟨ae, ak, ap⟩]) := by unfold Own3; rw [actsV_snoc, List.length_append]; exact hown'
          have kp1 : Keeps M w w1 := hkp.trans K1 (fun i hi hge => by omega)
          have hMb := (hr1.mG b' hob).1
          obtain ⟨hr2, kp2⟩ := hr1.setG hlt hob true
          have r1' : Own3 (w1.setCell ⟨b', k, none⟩ (.bool true)) (.slice (some ⟨b2, 0, none⟩) ((readyL s (waitK z g k)).length + 1) cap') (readyL s (waitK z g k) ++ [⟨ae, ak, ap⟩]) := r1.keep kp2 (fun b hb hm => by
            have e : b2 = b := by simpa [Value.ownBlock] using hb
            subst e
            have := HM.out b2 hm; omega)
          have c1' := hr1.c1
          have q1 : w1.cell? ⟨b', k, none⟩ = some (.bool false) := by rw [K1.cell (World.block_lt_of_cell? wr _ g1) (by have := HM.out b' hMb; simp; omega)]; exact g1
          have q2 : w1.frozen? ⟨b', k, none⟩ = false := by rw [K1.frozen (World.block_lt_of_cell? wr _ g1) (by have := HM.out b' hMb; simp; omega)]; exact gf
          clear hown' hgrow hat hown hown2 hnews hi K1 r1 hr1 hr
          go_wp2
          go_roundw
          case rel => exact ⟨k + 1, by omega, by go_num, by rw [HW.out, if_pos (by simp [hle])]; exact r1', fun b hb => by simp [Value.ownBlock] at hb; omega, by rw [HT.out hle]; exact hr2, kp1.trans kp2 (fun _ _ h => h)⟩
          case measure => simp [intOf]; omega
        · go_wp2
          go_roundw
          case rel => exact ⟨k + 1, by omega, by go_num, by rw [HW.out]; simpa [hle] using hown, hlow, by rw [HS.out (.inr (by simp only; omega))]; exact hr, hkp⟩
          case measure => simp [intOf]; omega
    · have e : k = n := by omega
      subst e
      obtain ⟨ro, rcap, rfl, hrr, hob2, -, -⟩ := hown.form
      have hfar : ∀ b off, ro = some ⟨b, off, none⟩ → w.heap.size ≤ b := fun b off e => hlow b (hob2 b off e)
      clear hown hi
      go_wp2
      go_ret
      exact ⟨ro, rcap, rfl, hrr, hr, hkp, hfar⟩
theorem ref_ready_far {w : World} {M : Nat → Prop} {t c : Nat} {l : List A3} (h : RefW w M t l c) (hM : ∀ k, M k → k < w.heap.size) (hc : c ≤ 1000) (s : Int) :
    Calls Tryz.prog 119 #[.pointer (some ⟨t, 0, none⟩), .int .u64 s] w fun e w' => ∃ ao cap, e = .returned (.slice ao (readyL s l).length cap) ∧ As w' ao (readyL s l).length (getL (readyL s l)) ∧ RefW w' M t (restL s l) c ∧ Keeps M w w' ∧ ∀ b off, ao = some ⟨b, off, none⟩ → w.heap.size ≤ b := by
  obtain ⟨n, z, g, vL, vG, hn, hr, rfl⟩ := h
  refine (ref_ready_far_at hr hM (by omega) s).mono ?_
  rintro e w' ⟨ao, cap, rfl, ha, hr', hk, hfar⟩
  exact ⟨ao, cap, rfl, ha, ⟨n, z, goneK z g s n, vL, vG, hn, hr', wait_gone z g s n n (Nat.le_refl _)⟩, hk, hfar⟩
end Go.Proofs.YtfghfbmmaclcnaaGreat
