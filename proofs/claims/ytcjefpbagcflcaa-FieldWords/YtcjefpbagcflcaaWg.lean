/- The walk of the reference's Join. -/
import Derived.Test.YtcjefpbagcflcaaWf
import Derived.Deep.AppendLies
import Derived.Deep.DrawnRows
namespace Go.Proofs.Ytcjefpbagcflcaa
open Go.RowKit
attribute [local go_sem ↓] Go.wp_at_zero Go.wp_at_succ

set_option maxHeartbeats 400000 in
theorem rjoin_arg (va wa : Option Addr) (nv nw cv cw : Nat) (z : Nat → Int) (r : Bool) (w : World) (hn : nw ≤ 1000000) (hz : Sl .i64 w wa nw z) (hr : r = true ↔ Fits z nw) (h : r = false ∨ nv ≠ nw) :
    Calls Try.prog 22 #[.slice va nv cv, .slice wa nw cw] w fun e w' => e = .returned (.tuple #[.int .u64 0, .int .i64 1]) ∧ w' = w := by
  have HR := hide hr
  have HZ := hide hz
  clear hr hz
  by_cases hne : nv = nw
  · have hrf : r = false := by rcases h with h | h; exact h; exact absurd hne h
    subst hrf
    have hne' : ((nv : Int) != (nw : Int)) = false := by simp [hne]
    clear h hne
    go_enter Try.func22, Try.ntmps22
    go_wp2_with (go_at_call 24; refine (fit_any _ _ _ _ _ _ hn HZ.out HR.out).mono ?_; rintro e w' ⟨rfl, rfl⟩)
    go_ret2
    exact ⟨rfl, rfl⟩
  · have hne' : ((nv : Int) != (nw : Int)) = true := by rw [bne_iff_ne]; omega
    clear h hne
    go_enter Try.func22, Try.ntmps22
    go_wp2
    go_ret2
    exact ⟨rfl, rfl⟩

theorem take_intsN (x m : Nat) (h : m ≤ 64) : intsN (bitsL x m) = (intsN (bitsL x 64)).take m := by
  unfold intsN; rw [← List.map_take, bitsL_take _ _ _ h]
theorem intsN_append (a b : List Nat) : intsN (a ++ b) = intsN a ++ intsN b := by simp [intsN]
theorem intsN_one (l : List Nat) : ∀ u ∈ intsN l, u.oneCell' = true := by
  intro u hu
  simp only [intsN, List.mem_map] at hu
  obtain ⟨x, _, rfl⟩ := hu
  rfl
theorem own_news {w : World} {base g cap x m : Nat} {e : TypeId} (h : w.ownsRow base e 1 (.slice (some ⟨g, 0, none⟩) 64 cap) 64 (intsN (bitsL x 64))) (hm : m ≤ 64) :
    ∀ j u, (intsN (bitsL x m))[j]? = some u → w.cell? ((⟨g, 0, none⟩ : Addr).add j) = some u := by
  intro j u hj
  rw [take_intsN x m hm, List.getElem?_take] at hj
  split at hj
  · exact h.cells (g := g) rfl j u hj
  · cases hj

set_option maxHeartbeats 2000000 in
theorem rjoin_run (va wa : Option Addr) (n cv cw : Nat) (v : Nat → Nat) (z : Nat → Int) (r : Bool) (w : World) (hn : n ≤ 1000000) (hv : Sl .u64 w va n (fun j => (v j : Int))) (hz : Sl .i64 w wa n z)
    (hv64 : ∀ j, j < n → v j < 18446744073709551616) (hf : Fits z n) (hr : r = true ↔ ∀ k, k < n → v k ≤ mostN (z k)) :
    Calls Try.prog 22 #[.slice va n cv, .slice wa n cw] w fun e w' => e = .returned (.tuple #[.int .u64 (joinV v z n r : Int), .int .i64 (joinE r)]) ∧ Below w.heap.size w w' := by
  obtain ⟨i0, hi, hz0, hz1, hz2⟩ := info_parts Try.infoInt
  have HR := hide hr
  have HZ := hide hz
  have HV := hide hv
  have HF := hide hf
  have HV64 := hide hv64
  have hnn : ((n : Int) != (n : Int)) = false := by simp
  clear hr hz hv hf hv64
  go_enter Try.func22, Try.ntmps22
  go_wp2_with (go_at_call 24; refine (fit_any _ _ _ _ true _ hn HZ.out (by simpa using HF.out)).mono ?_; rintro e w' ⟨rfl, rfl⟩)
  go_loopw [6, 7] (fun l i wr => ∃ k : Nat, k ≤ n ∧ i = .int .i64 k ∧ wr.ownsRow w'.heap.size 3 1 l (atK (wid z) k) (intsN (bitsK v (wid z) k)) ∧ (∃ g cap, l = .slice (some ⟨g, 0, none⟩) (atK (wid z) k) cap) ∧ (∀ j, j < k → v j ≤ mostN (z j)) ∧ Below w'.heap.size w' wr) (fun _ i _ => n - (intOf i).toNat)
  case atStart => exact ⟨0, Nat.zero_le _, rfl, by simpa [intsN, bitsK, atK] using World.ownsRow_made (e := 3) (size := 1) w' #[] 0 (Nat.le_refl _) (by decide) (by simp), ⟨_, _, rfl⟩, fun j hj => absurd hj (by omega), (Below.refl _ _).alloc (Nat.le_refl _) _⟩
  case round =>
    obtain ⟨k, hk, rfl, hown, hform, hall, hb⟩ := hrel
    have HALL := hide hall
    clear hall
    have hB := hb.size
    have hat := fits_at (fits_mono HF.out hk)
    by_cases hlt : k < n
    · obtain ⟨bw, ow, hao, hc0⟩ := HZ.out k hlt
      obtain ⟨bv, ov, hao2, hd0⟩ := HV.out k hlt
      have hlc := World.block_lt_of_cell? _ _ hc0
      have hld := World.block_lt_of_cell? _ _ hd0
      have hc : wr.cell? ⟨bw, ow + k, none⟩ = some (.int .i64 (z k)) := by rw [hb.cell (p := ⟨bw, ow + k, none⟩) hlc]; exact hc0
      have hd : wr.cell? ⟨bv, ov + k, none⟩ = some (.int .u64 (v k : Int)) := by rw [hb.cell (p := ⟨bv, ov + k, none⟩) hld]; exact hd0
      have hkeep : Hid (∀ W, Below w'.heap.size w' W → W.cell? ⟨bv, ov + k, none⟩ = some (.int .u64 (v k : Int)) ∧ W.cell? ⟨bw, ow + k, none⟩ = some (.int .i64 (z k))) := fun W hW =>
        ⟨(hW.cell (p := ⟨bv, ov + k, none⟩) hld).trans hd0, (hW.cell (p := ⟨bw, ow + k, none⟩) hlc).trans hc0⟩
      clear hc0 hd0
      clear hlc hld
      subst hao hao2
      have hfk := HF.out k hlt
      have hzk1 : 1 ≤ z k := hfk.1
      have hzk2 : z k ≤ 64 := by have := hfk.2; simp only [atK, wid] at this; omega
      have hvk64 := HV64.out k hlt
      by_cases hvk : v k ≤ mostN (z k)
      · have HALL' : Hid (∀ j, j < k + 1 → v j ≤ mostN (z j)) := fun j hj => by
          by_cases e : j < k
          · exact HALL.out j e
          · rw [show j = k by omega]; exact hvk
        obtain ⟨g, cap, hl⟩ := hform
        subst hl
        have hlt0 : ¬ mostN (z k) < v k := by omega
        go_wp2
        go_quiet ((go_at_call 14; exact Calls.quiet_of_same (rmost_any _ _)))
        go_wp2
        have hgB := own_cap hown
        generalize hwq : wr.drewN nq = wq at *
        have hown1 : wq.ownsRow w'.heap.size 3 1 (.slice (some ⟨g, 0, none⟩) (atK (wid z) k) cap) (atK (wid z) k) (intsN (bitsK v (wid z) k)) := by rw [← hwq]; exact hown
        have hb1 : Below w'.heap.size w' wq := by rw [← hwq]; exact below_drewN hb nq
        have hc1 := (hkeep.out wq hb1).2
        have hd1 := (hkeep.out wq hb1).1
        have hgg := hgB.2.1
        clear hwq hown hb hc hd
        obtain ⟨Z, hZ⟩ : ∃ Z : Nat, z k = (Z : Int) := Int.eq_ofNat_of_zero_le (by omega)
        rw [hZ] at hc1 hkeep hzk1 hzk2
        have HZZ : Hid (wid z k = Z) := by unfold Hid wid; rw [hZ]; rfl
        have hZ1 : 1 ≤ Z := by omega
        have hZ2 : Z ≤ 64 := by omega
        clear hZ hlt0 hvk hfk
        go_region_held3 (fun W => W.cell? ⟨bv, ov + k, none⟩ = some (.int .u64 (v k : Int)) ∧ W.cell? ⟨bw, ow + k, none⟩ = some (.int .i64 (Z : Int))) (first | go_keep | exact hkeep.out _ (by assumption)) (first | (go_at_call 19; refine (bits_any _ _ hvk64).mono ?_; rintro e w1 ⟨g1, cap1, rfl, hown2, hb2⟩; have hcap1 := (own_cap hown2).1; have hcap2 : ¬ cap1 = 0 := (by omega); have hcap3 : (Z : Int) ≤ (cap1 : Int) := (by omega); have hown3 := own_below (w := wq.drew) (show wq.drew.ownsRow w'.heap.size 3 1 (.slice (some ⟨g, 0, none⟩) (atK (wid z) k) cap) (atK (wid z) k) (intsN (bitsK v (wid z) k)) from hown1) hb2; have hsz : w'.heap.size ≤ w1.heap.size := (Nat.le_trans hb1.size hb2.size); have hbN : Below w'.heap.size w' w1 := (hb1.drew.trans (hb2.mono hb1.size))) | (refine step_append_lies _ (by rfl) _ _ _ (by rfl) w'.heap.size 3 i0 _ 1 8 Try.underlying33 hi hz0 hz1 hz2 rfl (by omega) (.slice (some ⟨g, 0, none⟩) (atK (wid z) k) cap) (atK (wid z) k) (intsN (bitsK v (wid z) k)) (by rfl) hown3 ⟨g1, 0, none⟩ Z cap1 (intsN (bitsL (v k) Z)) (by rfl) (by rw [intsN_length, bitsL_length, Nat.mul_one]) (own_news hown2 hZ2) (intsN_one _) hZ1 (by unfold maxLen; omega) (by omega) hsz _ rfl ?_; intro g2 cap2 w3 hown4 hgrow hat2 hlt2; have hbM : Below w'.heap.size w' w3 := (hbN.grown hgrow hsz (fun j hj => (hown3.lt j hj).1))))
        have hown5 : w3.ownsRow w'.heap.size 3 1 (.slice (some ⟨g2, 0, none⟩) (atK (wid z) (k + 1)) cap2) (atK (wid z) (k + 1)) (intsN (bitsK v (wid z) (k + 1))) := by
          simp only [atK, bitsK, HZZ.out, intsN_append]; exact hown4
        have hfrm : Hid (atK (wid z) k + Z = atK (wid z) (k + 1)) := by unfold Hid; simp only [atK, HZZ.out]
        rw [hfrm.out]
        clear hown4 hgrow hbN hown3 hown2 hb2 hkeep hown1 hb1
        go_wp2
        go_roundw
        case rel => exact ⟨k + 1, by omega, by go_num, hown5, ⟨_, _, rfl⟩, HALL'.out, hbM⟩
        case measure => simp [intOf]; omega
      · have hrf : Hid (r = false) := by
          cases r
          · rfl
          · exact absurd (HR.out.1 rfl k hlt) hvk
        have hvk' : mostN (z k) < v k := by omega
        go_wp2
        go_quiet ((go_at_call 14; exact Calls.quiet_of_same (rmost_any _ _)))
        go_wp2
        go_ret2
        exact ⟨by rw [hrf.out]; rfl, below_drewN hb _⟩
    · have e : k = n := by omega
      subst e
      obtain ⟨g, cap, rfl⟩ := hform
      have hlt2 : ∀ j, j < k → v j < 2 ^ wid z j := fun j hj => (lt_of_most HF.out (by omega)).1 (HALL.out j hj)
      have HW := hide (bitsK_word v (wid z) k hlt2)
      clear hlt2
      have hc : ∀ j, j < atK (wid z) k → wr.cell? ⟨g, 0 + j, none⟩ = some (.int .i64 ((bitsK v (wid z) k)[j]?.getD 0 : Nat)) := by
        intro j hj
        rw [Nat.zero_add]
        exact own_cellsN hown (bitsK_length _ _ _) j hj
      have HC := hide hc
      clear hc
      go_wp2_with fail
      refine (word_any (bitsK v (wid z) k) g 0 _ _ _ (bitsK_length _ _ _) hat (bitsK_isBits _ _ _) HC.out).mono ?_
      rintro e w3 ⟨rfl, rfl⟩
      go_wp2
      go_ret2
      exact ⟨by rw [HR.out.2 HALL.out, HW.out]; rfl, hb⟩
end Go.Proofs.Ytcjefpbagcflcaa
