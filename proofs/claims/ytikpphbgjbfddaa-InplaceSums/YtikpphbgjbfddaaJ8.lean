/- Parts of the proof: Wh Wi Jl. -/
import Derived.Test.YtikpphbgjbfddaaJ1
import Derived.Test.YtikpphbgjbfddaaJ7
namespace Go.Proofs.Ytikpphbgjbfddaa
set_option maxRecDepth 20000
open Go.RowKit

set_option maxHeartbeats 800000 in
theorem same_any (a1 a2 : Option Addr) (n1 n2 c1 c2 : Nat) (x y : Nat → Nat) (r : Bool) (w : World) (h1 : n1 ≤ 1000000) (h2 : n2 ≤ 1000000) (s1 : Sl .u64 w a1 n1 (fun j => (x j : Int))) (s2 : Sl .u64 w a2 n2 (fun j => (y j : Int)))
    (hr : r = true ↔ n1 = n2 ∧ ∀ j, j < n1 → x j = y j) :
    Calls Try.prog 10 #[.slice a1 n1 c1, .slice a2 n2 c2] w fun e w' => e = .returned (.bool r) ∧ ∃ m, w' = w.drewN m := by
  have S1 := hide s1
  have S2 := hide s2
  have HR := hide hr
  clear s1 s2 hr
  by_cases he : n1 = n2
  · subst he
    have hnn : ((n1 : Int) != (n1 : Int)) = false := by simp
    go_enter Try.func10, Try.ntmps10
    go_wp2
    go_loopw [5] (fun i wr => ∃ k : Nat, k ≤ n1 ∧ i = .int .i64 k ∧ (∀ j, j < k → x j = y j) ∧ ∃ m, wr = w.drewN m) (fun i _ => n1 - (intOf i).toNat)
    case atStart => exact ⟨0, Nat.zero_le _, rfl, fun j hj => absurd hj (by omega), 0, rfl⟩
    case round =>
      obtain ⟨k, hk, rfl, hall, m, rfl⟩ := hrel
      have HALL := hide hall
      clear hall
      by_cases hlt : k < n1
      · obtain ⟨b, off, hao, hc⟩ := S1.out k hlt
        obtain ⟨b2, off2, hao2, hd⟩ := S2.out k hlt
        subst hao hao2
        simp only at hc hd
        by_cases hxy : x k = y k
        · have HALL' : Hid (∀ j, j < k + 1 → x j = y j) := fun j h2 => by
            by_cases e : j < k
            · exact HALL.out j e
            · rw [show j = k by omega]; exact hxy
          rw [← hxy] at hd
          clear hxy
          generalize x k = X at *
          have hX : ((X : Int) != (X : Int)) = false := by simp
          go_wp2
          go_quiet (fail)
          go_wp2
          go_roundw
          case rel => exact ⟨k + 1, by omega, by go_num, HALL'.out, _, rfl⟩
          case measure => simp [intOf]; omega
        · have hrf : Hid (r = false) := by
            cases r
            · rfl
            · exact absurd ((HR.out.1 rfl).2 k hlt) hxy
          have hX : ((x k : Int) != (y k : Int)) = true := by rw [bne_iff_ne]; omega
          clear hxy
          generalize x k = X at *
          generalize y k = Y at *
          go_wp2
          go_quiet (fail)
          go_wp2
          go_ret
          exact ⟨ret_bool hrf.out.symm, _, drewN_drewN _ _ _⟩
      · have hrt : Hid (r = true) := HR.out.2 ⟨trivial, fun j hj => HALL.out j (by omega)⟩
        go_wp2
        go_ret
        exact ⟨ret_bool hrt.out.symm, _, rfl⟩
  · have hrf : Hid (r = false) := by
      cases r
      · rfl
      · exact absurd (HR.out.1 rfl).1 he
    have hnn : ((n1 : Int) != (n2 : Int)) = true := by rw [bne_iff_ne]; omega
    clear he
    go_enter Try.func10, Try.ntmps10
    go_wp2
    go_ret
    exact ⟨ret_bool hrf.out.symm, 0, rfl⟩
end Go.Proofs.Ytikpphbgjbfddaa
namespace Go.Proofs.Ytikpphbgjbfddaa
set_option maxRecDepth 20000
open Go.RowKit

set_option maxHeartbeats 2000000 in
theorem rwords_own (s : ByteArray) (w : World) (hs : s.size ≤ 1000000) :
    Calls Try.prog 28 #[.string s] w fun e w' => ∃ u, e = .returned u ∧ w'.ownsRow w.heap.size 43 1 u (wordsFor s.size) (uintsN (wordsL s.data.toList (wordsFor s.size))) ∧ Below w.heap.size w w' := by
  obtain ⟨i0, hi, hz0, hz1, hz2⟩ := info_parts Try.infoU64
  have hlen : Hid (s.data.toList.length = s.size) := by unfold Hid; simp
  go_enter Try.func28, Try.ntmps28
  go_wp2
  go_loopw [3, 4] (fun v i wr => ∃ k c : Nat, k ≤ wordsFor s.size ∧ Hid (c = 8 * k) ∧ i = .int .i64 (c : Int) ∧ wr.ownsRow w.heap.size 43 1 v k (uintsN (wordsL s.data.toList k)) ∧ Below w.heap.size w wr) (fun _ i _ => s.size + 8 - (intOf i).toNat)
  case atStart => exact ⟨0, 0, Nat.zero_le _, rfl, rfl, by simpa [uintsN, wordsL] using World.ownsRow_made (e := 43) (size := 1) w #[] 0 (Nat.le_refl _) (by decide) (by simp), (Below.refl _ _).alloc (Nat.le_refl _) _⟩
  case round =>
    obtain ⟨k, c, hk, HC, rfl, hown, hb⟩ := hrel
    have hB := hb.size
    have hcs : c ≤ s.size + 7 := by have := HC.out; unfold wordsFor at hk; omega
    by_cases hlt : c < s.size
    · go_wp2
      go_loop [5, 6] (fun x i => ∃ j : Nat, j ≤ 8 ∧ i = .int .i64 ((j : Int) - 1) ∧ x = .int .u64 (leN ((s.data.toList.drop (c + j)).take (8 - j)) : Int)) (fun _ i => (intOf i + 1).toNat)
      case atStart => exact ⟨8, Nat.le_refl _, rfl, by simp [leN]⟩
      case round =>
        obtain ⟨j, hj, rfl, rfl⟩ := hrel
        by_cases h0 : 0 < j
        · obtain ⟨q, rfl⟩ : ∃ q, j = q + 1 := ⟨j - 1, by omega⟩
          have hst := leN_step s.data.toList (c) q (by omega)
          have hbd := word_bound s.data.toList (c) q (by omega)
          by_cases hin : c + q < s.size
          · rw [dif_pos (by rw [hlen.out]; exact hin)] at hst
            have hst' : leN ((s.data.toList.drop (c + q)).take (8 - q)) = leN ((s.data.toList.drop (c + (q + 1))).take (8 - (q + 1))) * 256 + (s[c + q]).toNat := hst
            have HST := hide hst'
            clear hst hst'
            have hby := (s[c + q]).toNat_lt
            generalize leN ((s.data.toList.drop (c + (q + 1))).take (8 - (q + 1))) = X at *
            go_wp2
            go_round
            case rel => exact ⟨q, by omega, by go_num, by rw [HST.out]; exact congrArg (Value.int .u64) (by omega)⟩
            case measure => simp [intOf]
          · rw [dif_neg (by rw [hlen.out]; exact hin)] at hst
            have HST := hide hst
            clear hst
            generalize leN ((s.data.toList.drop (c + (q + 1))).take (8 - (q + 1))) = X at *
            go_wp2
            go_round
            case rel => exact ⟨q, by omega, by go_num, by rw [HST.out]; exact congrArg (Value.int .u64) (by omega)⟩
            case measure => simp [intOf]
        · have e : j = 0 := by omega
          subst e
          have HX : Hid (leN ((s.data.toList.drop (c + 0)).take (8 - 0)) = wordAt s.data.toList k) := by rw [HC.out]; rfl
          rw [HX.out]
          have HG := hide (wordsL_succ s.data.toList k)
          generalize wordAt s.data.toList k = y at *
          have hown2 := hown.alloc (.cells #[.int .u64 (y : Int)] 43)
          have hk1 : k + 1 ≤ wordsFor s.size := by have := HC.out; unfold wordsFor; omega
          have hk2 : k ≤ 1000000 := by have := HC.out; omega
          go_wp2_with (at_builtin; refine wpList_append_own _ rfl _ _ 41 rfl w.heap.size 43 i0 (.int .u64 0) 1 8 Try.underlying41 hi hz0 hz1 hz2 rfl (by decide) _ _ _ rfl hown2 ⟨wr.heap.size, 0, none⟩ 1 1 [.int .u64 (y : Int)] rfl rfl (cell_one _ _ _) one_int ?c3 ?c4 ?c5 ?_)
          case c3 => unfold maxLen; omega
          case c4 => omega
          case c5 => simpa using Nat.le_succ_of_le hB
          intro v' w3 hown' hgrow _
          have R := grow_step hown hB hb hgrow
          clear hgrow hown hown2
          go_wp2
          go_roundw
          case rel => exact ⟨k + 1, c + 8, hk1, by have := HC.out; unfold Hid; omega, by go_num, by rw [HG.out, uintsN_snoc]; exact hown', R⟩
          case measure => simp [intOf]; omega
    · have e : k = wordsFor s.size := by have := HC.out; unfold wordsFor at *; omega
      subst e
      go_wp2
      go_ret
      exact ⟨_, rfl, hown, hb⟩
theorem rwords_any (s : ByteArray) (w : World) (hs : s.size ≤ 1000000) :
    Calls Try.prog 28 #[.string s] w fun e w' => ∃ ao cap, e = .returned (.slice ao (wordsFor s.size) cap) ∧
      Sl .u64 w' ao (wordsFor s.size) (fun j => (wordAt s.data.toList j : Int)) ∧ Below w.heap.size w w' := by
  refine (rwords_own s w hs).mono ?_
  rintro e w' ⟨u, rfl, hown, hb⟩
  obtain ⟨ao, cap, rfl, hsl⟩ := own_slU hown (wordsL_length _ _)
  refine ⟨ao, cap, rfl, fun j hj => ?_, hb⟩
  obtain ⟨b, off, h1, h2⟩ := hsl j hj
  exact ⟨b, off, h1, by rw [h2]; simp only [wordsL_get _ _ j hj, Option.getD_some]⟩
end Go.Proofs.Ytikpphbgjbfddaa
namespace Go.Proofs.Ytikpphbgjbfddaa
set_option maxRecDepth 20000
open Go.RowKit
set_option maxHeartbeats 1000000 in
theorem rc_of (s : ByteArray) (w : World) (hs : s.size ≤ 1000000) :
    Calls Try.prog 26 #[.string s] w fun e w' => ∃ m v, e = .returned (.pointer (some ⟨m, 0, none⟩)) ∧ RcIs w' w.heap.size m v ⟨false, 0, wordsL s.data.toList (wordsFor s.size)⟩ ∧ w.heap.size ≤ m ∧ (∀ g, v.ownBlock = some g → w.heap.size ≤ g) ∧ Below w.heap.size w w' := by
  have hlen : (wordsL s.data.toList (wordsFor s.size)).length = wordsFor s.size := wordsL_length _ _
  have HW := hide (fun w => rwords_own s w hs)
  generalize wordsL s.data.toList (wordsFor s.size) = l at *
  rw [← hlen] at HW
  clear hs
  go_enter Try.func26, Try.ntmps26
  go_wp2_with fail
  refine (HW.out _).mono ?_
  rintro e y ⟨u, rfl, hown, hb⟩
  obtain ⟨ao, cap, rfl, -, -, -⟩ := own_slice hown
  have hge : ∀ g, (Value.slice ao l.length cap).ownBlock = some g → w.heap.size ≤ g ∧ g < y.heap.size := fun g e => hown.lt g e
  have hR : RcIs (y.alloc (.cells #[.bool false, .int .u64 0, .slice ao l.length cap] 45)) w.heap.size y.heap.size (.slice ao l.length cap) ⟨false, 0, l⟩ :=
    ⟨by simp, by simp, by simp, by simp, by simp, hown.alloc _, fun e => by have := (hge _ e).2; omega⟩
  have H := hide hR
  have hb' := hb.alloc hb.size (.cells #[.bool false, .int .u64 0, .slice ao l.length cap] 45)
  clear hR hown hlen
  go_wp2
  go_ret
  exact ⟨_, _, rfl, H.out, hb.size, fun g e => (hge g e).1, hb'⟩
end Go.Proofs.Ytikpphbgjbfddaa
