/- The walks of field.Join and field.Spread. -/
import Derived.Test.YtcjefpbagcflcaaWe
namespace Go.Proofs.Ytcjefpbagcflcaa
open Go.RowKit

theorem drewN_drewN (w : World) (a b : Nat) : (w.drewN a).drewN b = w.drewN (a + b) := by simp
theorem drewN_zero (w : World) : w = w.drewN 0 := rfl
/-- The answer of Join, where the widths fit and there are as many of both. -/
def joinV (v : Nat → Nat) (z : Nat → Int) (n : Nat) (r : Bool) : Nat := if r then sumK v (wid z) n else 0
def joinE (r : Bool) : Int := if r then 0 else 13

set_option maxHeartbeats 400000 in
theorem join_arg (va wa : Option Addr) (nv nw cv cw : Nat) (z : Nat → Int) (r : Bool) (w : World) (hn : nw ≤ 1000000) (hz : Sl .i64 w wa nw z) (hr : r = true ↔ Fits z nw) (h : r = false ∨ nv ≠ nw) :
    Calls Try.prog 21 #[.slice va nv cv, .slice wa nw cw] w fun e w' => e = .returned (.tuple #[.int .u64 0, .int .i64 1]) ∧ w' = w := by
  have HR := hide hr
  have HZ := hide hz
  clear hr hz
  cases r
  · go_enter Try.func21, Try.ntmps21
    go_wp2_with (go_at_call 29; refine (side_any _ _ _ _ _ _ hn HZ.out HR.out).mono ?_; rintro e w' ⟨rfl, rfl⟩)
    go_ret2
    exact ⟨rfl, rfl⟩
  · have hne : ((nv : Int) != (nw : Int)) = true := by
      rcases h with h | h
      · cases h
      · rw [bne_iff_ne]; omega
    clear h
    go_enter Try.func21, Try.ntmps21
    go_wp2_with (go_at_call 29; refine (side_any _ _ _ _ _ _ hn HZ.out HR.out).mono ?_; rintro e w' ⟨rfl, rfl⟩)
    go_ret2
    exact ⟨rfl, rfl⟩

set_option maxHeartbeats 1000000 in
theorem join_run (va wa : Option Addr) (n cv cw : Nat) (v : Nat → Nat) (z : Nat → Int) (r : Bool) (w : World) (hn : n ≤ 1000000) (hv : Sl .u64 w va n (fun j => (v j : Int))) (hz : Sl .i64 w wa n z)
    (hf : Fits z n) (hr : r = true ↔ ∀ k, k < n → v k ≤ mostN (z k)) :
    Calls Try.prog 21 #[.slice va n cv, .slice wa n cw] w fun e w' => e = .returned (.tuple #[.int .u64 (joinV v z n r : Int), .int .i64 (joinE r)]) ∧ ∃ m, w' = w.drewN m := by
  have HR := hide hr
  have HZ := hide hz
  have HV := hide hv
  have HF := hide hf
  clear hr hz hv hf
  go_enter Try.func21, Try.ntmps21
  go_wp2_with (go_at_call 29; refine (side_any _ _ _ _ true _ hn HZ.out (by simpa using HF.out)).mono ?_; rintro e w' ⟨rfl, rfl⟩)
  go_loopw [6, 7, 24] (fun x a i wr => ∃ k : Nat, k ≤ n ∧ i = .int .i64 k ∧ a = .int .i64 (atK (wid z) k : Int) ∧ x = .int .u64 (sumK v (wid z) k : Int) ∧ (∀ j, j < k → v j ≤ mostN (z j)) ∧ ∃ m, wr = w'.drewN m) (fun _ _ i _ => n - (intOf i).toNat)
  case atStart => exact ⟨0, Nat.zero_le _, rfl, rfl, rfl, fun j hj => absurd hj (by omega), 0, rfl⟩
  case round =>
    obtain ⟨k, hk, rfl, rfl, rfl, hall, m, rfl⟩ := hrel
    have HALL := hide hall
    have hlt2 : ∀ j, j < k → v j < 2 ^ wid z j := fun j hj => (lt_of_most HF.out (by omega)).1 (hall j hj)
    have hsum : sumK v (wid z) k < 18446744073709551616 := Nat.lt_of_lt_of_le (sumK_lt v (wid z) k hlt2) (pow_le64 (fits_at (fits_mono HF.out hk)))
    have HLT2 := hide hlt2
    clear hall hlt2
    by_cases hlt : k < n
    · obtain ⟨b, off, hao, hc⟩ := HZ.out k hlt
      obtain ⟨b2, off2, hao2, hc2⟩ := HV.out k hlt
      subst hao hao2
      have hrb := (fits_succ z k (fits_mono HF.out (by omega))).1 (fits_mono HF.out (by omega))
      obtain ⟨hA1, hA2, hA3, hA4⟩ := (rightB_iff _ _).1 hrb
      have HA := hide (at_succ z k hA3)
      have HP := hide (put_sum v (wid z) k HLT2.out)
      have HW : Hid (wid z k = (z k).toNat) := rfl
      by_cases hvk : v k ≤ mostN (z k)
      · have HALL' : Hid (∀ j, j < k + 1 → v j ≤ mostN (z j)) := fun j hj => by
          by_cases e : j < k
          · exact HALL.out j e
          · rw [show j = k by omega]; exact hvk
        go_wp2_with (go_at_call 9; refine (put_yes _ _ _ _ _ hsum hrb hvk).mono ?_; rintro e w' ⟨rfl, m2, rfl⟩)
        go_roundw
        case rel => exact ⟨k + 1, by omega, by go_num, by rw [← HA.out], by rw [← HP.out]; rfl, HALL'.out, _, rfl⟩
        case measure => simp [intOf]; omega
      · have hrf : Hid (r = false) := by
          cases r
          · rfl
          · exact absurd (HR.out.1 rfl k hlt) hvk
        have hvk' : mostN (z k) < v k := by omega
        go_wp2_with (go_at_call 9; refine (put_over _ _ _ _ _ hrb hvk').mono ?_; rintro e w' ⟨rfl, rfl⟩)
        go_ret2
        exact ⟨by rw [hrf.out]; rfl, _, rfl⟩
    · have e : k = n := by omega
      subst e
      go_wp2
      go_ret2
      exact ⟨by rw [HR.out.2 HALL.out]; rfl, _, rfl⟩

def getsL (x : Nat) (z : Nat → Int) (n : Nat) : List Nat := (List.range n).map fun i => getN x (atK (wid z) i) (wid z i)
theorem getsL_length (x : Nat) (z : Nat → Int) (n : Nat) : (getsL x z n).length = n := by simp [getsL]
theorem getsL_succ (x : Nat) (z : Nat → Int) (n : Nat) : getsL x z (n + 1) = getsL x z n ++ [getN x (atK (wid z) n) (wid z n)] := by simp [getsL, List.range_succ]
theorem getsL_get (x : Nat) (z : Nat → Int) (n i : Nat) (h : i < n) : (getsL x z n)[i]? = some (getN x (atK (wid z) i) (wid z i)) := by simp [getsL, h]
theorem own_slU {w : World} {base n : Nat} {e : TypeId} {v : Value} {zs : List Nat} (h : w.ownsRow base e 1 v n (uintsN zs)) (hl : zs.length = n) :
    ∃ ao cap, v = .slice ao n cap ∧ Sl .u64 w ao n (fun i => ((zs[i]?.getD 0 : Nat) : Int)) := by
  by_cases hn : 0 < n
  · obtain ⟨g, cap, rfl, _, _⟩ := own_form h hn
    refine ⟨_, _, rfl, fun j hj => ⟨g, 0, rfl, ?_⟩⟩
    rw [Nat.zero_add]
    exact own_cellsU h hl j hj
  · rcases h.2 with ⟨h1, h2⟩ | ⟨g, cap, cur, h1, _⟩
    · exact ⟨_, _, by rw [h1, h2], fun j hj => absurd hj (by omega)⟩
    · exact ⟨_, _, h1, fun j hj => absurd hj (by omega)⟩

set_option maxHeartbeats 400000 in
theorem spread_arg (x : Nat) (wa : Option Addr) (n cw : Nat) (z : Nat → Int) (w : World) (hn : n ≤ 1000000) (hz : Sl .i64 w wa n z) (hf : ¬ Fits z n) :
    Calls Try.prog 23 #[.int .u64 (x : Int), .slice wa n cw] w fun e w' => e = .returned (.tuple #[.slice none 0 0, .int .i64 1]) ∧ w' = w := by
  have HZ := hide hz
  have HF := hide hf
  clear hz hf
  go_enter Try.func23, Try.ntmps23
  go_wp2_with (go_at_call 29; refine (side_any _ _ _ _ false _ hn HZ.out (by simpa using HF.out)).mono ?_; rintro e w' ⟨rfl, rfl⟩)
  go_ret2
  exact ⟨rfl, rfl⟩

set_option maxHeartbeats 1000000 in
theorem spread_run (x : Nat) (wa : Option Addr) (n cw : Nat) (z : Nat → Int) (w : World) (hx : x < 18446744073709551616) (hn : n ≤ 1000000) (hz : Sl .i64 w wa n z) (hf : Fits z n) :
    Calls Try.prog 23 #[.int .u64 (x : Int), .slice wa n cw] w fun e w' => ∃ ao cap, e = .returned (.tuple #[.slice ao n cap, .int .i64 0]) ∧
      Sl .u64 w' ao n (fun i => (getN x (atK (wid z) i) (wid z i) : Int)) ∧ Below w.heap.size w w' := by
  obtain ⟨i0, hi, hz0, hz1, hz2⟩ := info_parts Try.infoU64
  have HZ := hide hz
  have HF := hide hf
  clear hz hf
  go_enter Try.func23, Try.ntmps23
  go_wp2_with (first | (go_at_call 29; refine (side_any _ _ _ _ true _ hn HZ.out (by simpa using HF.out)).mono ?_; rintro e w' ⟨rfl, rfl⟩) | (at_make; refine wpList_make_own _ rfl _ _ 38 rfl w'.heap.size 22 i0 (.int .u64 0) 1 Try.underlying38 hi hz0 hz1 _ _ _ n rfl rfl rfl ?b1 ?b2 (Nat.le_refl _) ?_))
  case b1 => rw [hz2]; omega
  case b2 => unfold maxLen; omega
  intro w1 hown hgrow
  have hb1 : Below w'.heap.size w' w1 := (Below.refl _ _).grown hgrow (Nat.le_refl _) (by simp)
  clear hgrow
  go_wp2
  go_loopw [6, 7, 18] (fun v a i wr => ∃ k : Nat, k ≤ n ∧ i = .int .i64 k ∧ a = .int .i64 (atK (wid z) k : Int) ∧ wr.ownsRow w'.heap.size 22 1 v k (uintsN (getsL x z k)) ∧ Below w'.heap.size w' wr) (fun _ _ i _ => n - (intOf i).toNat)
  case atStart => exact ⟨0, Nat.zero_le _, rfl, rfl, hown, hb1⟩
  case round =>
    clear hown hb1
    obtain ⟨k, hk, rfl, rfl, hown, hb⟩ := hrel
    by_cases hlt : k < n
    · obtain ⟨b, off, hao, hc0⟩ := HZ.out k hlt
      have hc : wr.cell? ⟨b, off + k, none⟩ = some (.int .i64 (z k)) := by rw [hb.cell (p := ⟨b, off + k, none⟩) (World.block_lt_of_cell? _ _ hc0)]; exact hc0
      subst hao
      clear hc0
      have hrb := (fits_succ z k (fits_mono HF.out (by omega))).1 (fits_mono HF.out (by omega))
      obtain ⟨hA1, hA2, hA3, hA4⟩ := (rightB_iff _ _).1 hrb
      have HA := hide (at_succ z k hA3)
      have HG := hide (getsL_succ x z k)
      go_wp2_with fail
      refine (get_yes _ _ _ _ hx hrb).mono ?_
      rintro e w2 ⟨rfl, hm⟩
      have hown1 : w2.ownsRow w'.heap.size 22 1 u6 k (uintsN (getsL x z k)) := by obtain ⟨m, rfl⟩ := hm; exact hown
      have hb2 : Below w'.heap.size w' w2 := by obtain ⟨m, rfl⟩ := hm; exact below_drewN hb m
      clear hown hb hm hc
      have hB := hb2.size
      have hg0 : Hid (getN x (Int.toNat (atK (wid z) k : Int)) (z k).toNat = getN x (atK (wid z) k) (wid z k)) := rfl
      generalize getN x (Int.toNat (atK (wid z) k : Int)) (z k).toNat = y at *
      have hown2 := hown1.alloc (.cells #[.int .u64 (y : Int)] 22)
      go_wp2_with (at_builtin; refine wpList_append_own _ rfl _ _ 38 rfl w'.heap.size 22 i0 (.int .u64 0) 1 8 Try.underlying38 hi hz0 hz1 hz2 rfl (by decide) _ _ _ rfl hown2 ⟨w2.heap.size, 0, none⟩ 1 1 [.int .u64 (y : Int)] rfl rfl (cell_one _ _ _) one_int ?c3 ?c4 ?c5 ?_)
      case c3 => unfold maxLen; omega
      case c4 => omega
      case c5 => simp; omega
      intro v' w3 hown' hgrow _
      have R := grow_step hown1 hB hb2 hgrow
      clear hgrow hown1 hown2
      go_wp2
      go_roundw
      case rel => exact ⟨k + 1, by omega, by go_num, by rw [← HA.out], by rw [HG.out, uintsN_snoc, ← hg0.out]; exact hown', R⟩
      case measure => simp [intOf]; omega
    · have e : k = n := by omega
      subst e
      go_wp2
      go_ret2
      obtain ⟨ao, cap, rfl, hs⟩ := own_slU hown (getsL_length x z k)
      refine ⟨ao, cap, rfl, fun j hj => ?_, hb⟩
      obtain ⟨b, off, h1, h2⟩ := hs j hj
      exact ⟨b, off, h1, by rw [h2]; simp only [getsL_get x z k j hj, Option.getD_some]⟩
end Go.Proofs.Ytcjefpbagcflcaa
