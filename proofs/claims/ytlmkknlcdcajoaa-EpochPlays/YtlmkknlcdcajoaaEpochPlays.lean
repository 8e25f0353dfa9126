/- Whatever the input, haycroftlaw06.EpochPlays returns true and changes no argument. Conditions: none. -/
import Derived.Test.YtlmkknlcdcajoaaYg
import Derived.Test.YtlmkknlcdcajoaaRows
import Derived.WalkKit
import Derived.ProofKit
import Derived.OpenShut
import Derived.ShutString
import Derived.ChangeOld
import Derived.Below
import Derived.ChangeSame
namespace Go.Proofs.Ytlmkknlcdcajoaa.epochPlays
open Go.ChangeShapes Go.WideShapes Go.ChangeAt Go.RowKit
open Go.ChangeMaps (open_string shut_string)
set_option linter.unusedVariables false
theorem own : ownKnob Try.prog.godebug = none := by kernel_rfl
theorem laidOut : laidOutB Try.prog = true := by kernel_rfl

set_option maxHeartbeats 1000000 in
set_option maxRecDepth 10000 in
theorem walk_no (a0 : Int) (ao : Option Addr) (len cap : Nat) (w : World) (h : a0 < 1 ∨ 8 < a0) :
    Calls Try.prog 3 #[.int .i64 a0, .slice ao len cap] w fun e w' => e = .returned (.bool true) ∧ Below w.heap.size w w' := by
  go_enter Try.func3, Try.ntmps3
  go_wp2_with fail
  refine (awake6_any _).mono ?_
  rintro e x1 ⟨rfl, b1⟩
  go_wp2_with fail
  refine (new_no a0 h _).mono ?_
  rintro e x2 ⟨rfl, rfl⟩
  go_wp2_with fail
  refine (rnew_no a0 h _).mono ?_
  rintro e x3 ⟨rfl, rfl⟩
  go_wp2
  go_ret
  exact ⟨rfl, b1⟩
set_option maxHeartbeats 8000000 in
set_option maxRecDepth 10000 in
theorem walk_yes (n : Nat) (h1 : 1 ≤ n) (h2 : n ≤ 8) (ao : Option Addr) (len cap : Nat) (kd sv : Nat → Int) (w : World) (hl : len ≤ 9223372036854775807) (hs : Acts w ao len kd sv) :
    Calls Try.prog 3 #[.int .i64 (n : Int), .slice ao len cap] w fun e w' => e = .returned (.bool true) ∧ Below w.heap.size w w' := by
  have HS := hide hs
  clear hs
  go_enter Try.func3, Try.ntmps3
  go_wp2_with fail
  refine (awake6_any _).mono ?_
  rintro e x1 ⟨rfl, b1⟩
  go_wp2_with fail
  refine (table_yes n h1 h2 _).mono ?_
  rintro e x2 ⟨t, rfl, T, b2⟩
  replace T := T.mono b1.size (Nat.le_refl _)
  replace b2 := b1.trans (b2.mono b1.size)
  have hBC := b2.size
  clear b1
  go_wp2_with fail
  refine (rnew_yes n h1 h2 _).mono ?_
  rintro e x3 ⟨m, b, rfl, R, hm, hb, b3⟩
  replace T := T.below b3
  replace b3 := b2.trans (b3.mono hBC)
  generalize x2.heap.size = C at T hm hb hBC
  clear b2
  go_wp2
  go_loopw [9] (fun i wr => ∃ (k now : Nat) (v : Nat → Nat), k ≤ 200 ∧ k ≤ len ∧ i = .int .i64 k ∧ TabIs wr w.heap.size C t n now v k ∧ RefAt wr m b n now v ∧ Below w.heap.size w wr)
    (fun i _ => len - (intOf i).toNat)
  case atStart => exact ⟨0, 1, _, by omega, Nat.zero_le _, rfl, T, R, b3⟩
  case round =>
    clear T R b3
    obtain ⟨k, now, v, hk1, hk2, rfl, T, R, hbe⟩ := hrel
    by_cases hlt : k < len ∧ k < 200
    · obtain ⟨hl1, hl2⟩ := hlt
      obtain ⟨g, off, rfl, hc0, hc1⟩ := HS.out.below hbe k hl1
      generalize kd k = kk at *
      generalize sv k = ss at *
      have T0 := tab_again T (.cells #[.int .i64 kk, .int .i64 ss] 32)
      have A0 : Below wr.heap.size wr (wr.alloc (.cells #[.int .i64 kk, .int .i64 ss] 32)) := (Below.refl _ _).alloc (Nat.le_refl _) _
      have R0 := R.below A0
      have hb0 := hbe.trans (A0.mono hbe.size)
      have hx0 : (wr.alloc (.cells #[.int .i64 kk, .int .i64 ss] 32)).cell? ⟨wr.heap.size, 0, none⟩ = some (.int .i64 kk) := by simp
      have hx1 : (wr.alloc (.cells #[.int .i64 kk, .int .i64 ss] 32)).cell? ⟨wr.heap.size, 1, none⟩ = some (.int .i64 ss) := by simp
      have hmx : m < wr.heap.size := World.block_lt_of_cell? wr _ R.c0
      have hbx : b < wr.heap.size := World.block_lt_of_cell? wr _ (R.cs 0 (by omega))
      have hn0 : 1 ≤ now ∧ now ≤ k + 1 := by
        obtain ⟨_, _, _, _, _, _, _, _, _, _, _, h4⟩ := T
        exact h4
      clear A0
      by_cases h4 : kk = 4
      · subst h4
        go_wp2_with fail
        refine (bump_any T0 (by omega)).mono ?_
        rintro e y1 ⟨rfl, T1, a1⟩
        have R1 := R0.apart a1 hm hb
        have hb1 := hb0.trans (a1.below hb0.size)
        have c0 := R1.c0
        have f0 := R1.f0
        have B2 : Below C y1 (y1.setCell ⟨m, 0, none⟩ (.int .u64 ((now : Int) + 1))) := (Below.refl _ _).setCell hm _
        have R2 : RefAt (y1.setCell ⟨m, 0, none⟩ (.int .u64 ((now : Int) + 1))) m b n (now + 1) v := R1.now (now + 1)
        have T2 := T1.under B2
        have hb2 := hb1.trans (B2.mono hBC)
        have key : ∃ now1 v1, TabIs (y1.setCell ⟨m, 0, none⟩ (.int .u64 ((now : Int) + 1))) w.heap.size C t n now1 v1 (k + 1) ∧ RefAt (y1.setCell ⟨m, 0, none⟩ (.int .u64 ((now : Int) + 1))) m b n now1 v1 ∧ Below w.heap.size w (y1.setCell ⟨m, 0, none⟩ (.int .u64 ((now : Int) + 1))) := ⟨_, _, T2, R2, hb2⟩
        clear T0 R0 hb0 hx0 hx1 T1 R1 hb1 a1 B2 R2 T2 hb2 T R hbe
        go_wp2_with fail
        generalize y1.setCell ⟨m, 0, none⟩ (.int .u64 ((now : Int) + 1)) = y5 at *
        obtain ⟨now1, v1, T5, R5, hb5⟩ := key
        clear c0 f0
        refine (in_any T5).mono ?_
        rintro e y6 ⟨ai, ci, rfl, hin, b6⟩
        replace T5 := T5.below b6
        replace R5 := R5.below b6
        replace hb5 := hb5.trans (b6.mono hb5.size)
        clear b6
        have hn5 : 1 ≤ now1 ∧ now1 ≤ k + 2 := by
          obtain ⟨_, _, _, _, _, _, _, _, _, _, _, h4⟩ := T5
          exact h4
        obtain ⟨p, hp⟩ : ∃ p, p = (inL v1 n).length := ⟨_, rfl⟩
        rw [← hp] at hin ⊢
        have HP := hide hp
        have hp8 : p ≤ 8 := by rw [hp]; exact Nat.le_trans (inL_length v1 n) h2
        clear hp
        have c15 := R5.c1
        go_wp2
        go_loopw [14, 15] (fun c s wr => ∃ j q : Nat, j ≤ n ∧ s = .int .i64 j ∧ c = .int .i64 (q : Int) ∧ q = (inL v1 j).length ∧ TabIs wr w.heap.size C t n now1 v1 (k + 1) ∧ RefAt wr m b n now1 v1 ∧ Sl .i64 wr ai p (fun j => (((inL v1 n).getD j 0 : Nat) : Int)) ∧ Below w.heap.size w wr)
          (fun _ s _ => n - (intOf s).toNat)
        case atStart => exact ⟨0, 0, Nat.zero_le _, rfl, rfl, rfl, T5, R5, hin, hb5⟩
        case round =>
          clear T5 R5 hin hb5 c15
          obtain ⟨j, q, hj, rfl, rfl, hq, T5, R5, hin, hb5⟩ := hrel
          have HQ := hide hq
          have hq8 : q ≤ 8 := by rw [hq]; exact Nat.le_trans (inL_length v1 j) (by omega)
          clear hq
          have c1 := R5.c1
          have c0 := R5.c0
          by_cases hjn : j < n
          · have cs := R5.cs j hjn
            have HIN := hide hin
            have HB := hide hb5
            clear hin hb5 c0
            have hj1 : (0 : Int) ≤ (j : Int) := by omega
            have hj2 : (j : Int) < (n : Int) := by omega
            by_cases hz : v1 j = 0
            · have HE : Hid (q = (inL v1 (j + 1)).length) := by
                have e : inL v1 (j + 1) = inL v1 j := by simp [inL, hz]
                rw [e]; exact HQ.out
              rw [hz] at cs
              have hseen : ∀ d, Calls Try.prog 14 #[.pointer (some ⟨t, 0, none⟩), .int .i64 (j : Int)] (wr.drewN d) fun e w' => e = .returned (.int .u64 0) ∧ w' = wr.drewN d := fun d => by
                have := seen_any (T5.drew d) j hjn
                rw [hz] at this
                exact this
              clear hz
              go_wp2_with fail
              go_quiet ((go_at_call 14; exact Calls.quiet_of_same (hseen _)))
              go_wp2
              go_roundw
              case rel => exact ⟨j + 1, q, by omega, by go_num, rfl, HE.out, T5.drew _, R5.drew _, HIN.out.drew _, below_drewN HB.out _⟩
              case measure => simp [intOf]; omega
            · obtain ⟨hat1, hat2⟩ := inL_at v1 n j hjn hz
              rw [← HQ.out, ← HP.out] at hat1
              rw [← HQ.out] at hat2
              have HE : Hid (q + 1 = (inL v1 (j + 1)).length) := by
                have e : inL v1 (j + 1) = inL v1 j ++ [j] := by simp [inL, hz]
                show q + 1 = _
                rw [e, HQ.out, List.length_append]; rfl
              have hz1 : 0 < v1 j := by omega
              obtain ⟨gi, oi, rfl, hci⟩ := HIN.out q hat1
              replace hci : wr.cell? ⟨gi, oi + q, none⟩ = some (.int .i64 (((inL v1 n).getD q 0 : Nat) : Int)) := hci
              rw [hat2] at hci
              have hseen := fun d => seen_any (T5.drew d) j hjn
              have hq1 : (0 : Int) ≤ (q : Int) := by omega
              have hq2 : (q : Int) < (p : Int) := by omega
              clear hz hat2
              generalize v1 j = z at cs hseen hz1
              have hqp : decide ((q : Int) ≥ (p : Int)) = false := by simp; omega
              go_wp2_with fail
              go_quiet ((go_at_call 14; exact Calls.quiet_of_same (hseen _)))
              go_wp2
              go_roundw
              case rel => exact ⟨j + 1, q + 1, by omega, by go_num, by go_num, HE.out, T5.drew _, R5.drew _, HIN.out.drew _, below_drewN HB.out _⟩
              case measure => simp [intOf]; omega
          · have e : j = n := by omega
            subst e
            have hqp : q = p := by rw [HQ.out, HP.out]
            subst hqp
            have hS : ∀ d, Calls Try.prog 16 #[.pointer (some ⟨t, 0, none⟩)] (wr.drewN d) fun e w' => e = .returned (.int .u64 ((leastN now1 v1 j - 1 : Nat) : Int)) ∧ Below (wr.drewN d).heap.size (wr.drewN d) w' := fun d => safe_at (T5.drew d) (by omega)
            have hRS : ∀ W, RefAt W m b j now1 v1 → Calls Try.prog 17 #[.pointer (some ⟨m, 0, none⟩)] W fun e w' => e = .returned (.int .u64 ((leastN now1 v1 j - 1 : Nat) : Int)) ∧ w' = W := fun W h => rsafe_any h h2 (by omega)
            generalize leastN now1 v1 j - 1 = sf at hS hRS
            have HSF := hide hS
            have HRS := hide hRS
            have HB := hide hb5
            have HT := hide T5
            have HR := hide R5
            clear hS hRS hb5 T5 R5 hin
            go_wp2_with fail
            go_region_held3 (fun W => W.cell? ⟨m, 0, none⟩ = some (.int .u64 (now1 : Int))) (first | go_keep | exact RefAt.c0 (by assumption)) (first | (go_at_call 15; refine (now_any (HT.out.drew 1)).mono ?_; rintro e x ⟨rfl, rfl⟩) | (go_at_call 16; refine (HSF.out 1).mono ?_; rintro e y7 ⟨rfl, b7⟩; have R7 := (HR.out.drew 1).below b7; have T7 := (HT.out.drew 1).below b7; have B7 := (below_drewN HB.out 1).trans (b7.mono (below_drewN HB.out 1).size); clear b7) | (go_at_call 17; refine (HRS.out _ R7).mono ?_; rintro e x ⟨rfl, hx⟩; subst hx) | (go_at_call 14; refine (seen_no T7 _ (by omega)).mono ?_; rintro e x ⟨rfl, hx⟩; subst hx))
            go_wp2
            go_roundw
            case rel => exact ⟨k + 1, now1, v1, by omega, by omega, by go_num, T7, R7, B7⟩
            case measure => simp [intOf]; omega
      · have g4 : (kk == 4) = false := by simp; omega
        by_cases h3 : kk = 1 ∨ kk = 2 ∨ kk = 3
        · have g1 : kk ≥ 1 := by omega
          have g3 : kk ≤ 3 := by omega
          have hxb : Hid (wr.heap.size < (wr.alloc (.cells #[.int .i64 kk, .int .i64 ss] 32)).heap.size) := by simp [Hid]
          go_wp2_with fail
          generalize wr.alloc (.cells #[.int .i64 kk, .int .i64 ss] 32) = y0 at *
          have hCx : C ≤ wr.heap.size := by omega
          generalize wr.heap.size = xb at *
          go_region_held3 (fun W => W.cell? ⟨xb, 0, none⟩ = some (.int .i64 kk) ∧ W.cell? ⟨xb, 1, none⟩ = some (.int .i64 ss)) (first | assumption | go_keep) (first | (go_at_call 11; refine (does_three (T0.drew 1) (by omega) kk ss h3).mono ?_; rintro e y1 ⟨rfl, T1, a1⟩; have R1 := (R0.drew 1).apart a1 hm hb; have q1 : y1.cell? ⟨xb, 0, none⟩ = some (.int .i64 kk) ∧ y1.cell? ⟨xb, 1, none⟩ = some (.int .i64 ss) := ⟨(a1.cell hxb.out (.inr hCx)).trans hx0, (a1.cell hxb.out (.inr hCx)).trans hx1⟩) | (go_at_call 12; refine (rdoes_any R1 kk ss h3).mono ?_; rintro e y2 ⟨rfl, R2, a2⟩; have q2 : y2.cell? ⟨xb, 0, none⟩ = some (.int .i64 kk) ∧ y2.cell? ⟨xb, 1, none⟩ = some (.int .i64 ss) := ⟨(a2.cell (Nat.lt_of_lt_of_le hxb.out a1.size) (.inr (by show b + 1 ≤ xb; omega))).trans q1.1, (a2.cell (Nat.lt_of_lt_of_le hxb.out a1.size) (.inr (by show b + 1 ≤ xb; omega))).trans q1.2⟩))
          have hz1 := hb0.size
          have hb1 := (below_drewN hb0 1).trans (a1.below hz1)
          have hb2' := a2.below (show b ≤ y1.heap.size from Nat.le_trans (by have := hxb.out; show b ≤ y0.heap.size; omega) a1.size)
          have T2 := T1.under (hb2'.mono hb)
          have hb2 := hb1.trans (hb2'.mono (Nat.le_trans hBC hb))
          have key : ∃ now1 v1, TabIs y2 w.heap.size C t n now1 v1 (k + 1) ∧ RefAt y2 m b n now1 v1 ∧ Below w.heap.size w y2 := ⟨_, _, T2, R2, hb2⟩
          clear T0 R0 hb0 hx0 hx1 T1 R1 hb1 a1 a2 q1 q2 hb2' R2 T2 hb2 T R hbe
          go_wp2_with fail
          obtain ⟨now1, v1, T5, R5, hb5⟩ := key
          refine (in_any T5).mono ?_
          rintro e y6 ⟨ai, ci, rfl, hin, b6⟩
          replace T5 := T5.below b6
          replace R5 := R5.below b6
          replace hb5 := hb5.trans (b6.mono hb5.size)
          clear b6
          have hn5 : 1 ≤ now1 ∧ now1 ≤ k + 2 := by
            obtain ⟨_, _, _, _, _, _, _, _, _, _, _, h4⟩ := T5
            exact h4
          obtain ⟨p, hp⟩ : ∃ p, p = (inL v1 n).length := ⟨_, rfl⟩
          rw [← hp] at hin ⊢
          have HP := hide hp
          have hp8 : p ≤ 8 := by rw [hp]; exact Nat.le_trans (inL_length v1 n) h2
          clear hp
          have c15 := R5.c1
          go_wp2
          go_loopw [14, 15] (fun c s wr => ∃ j q : Nat, j ≤ n ∧ s = .int .i64 j ∧ c = .int .i64 (q : Int) ∧ q = (inL v1 j).length ∧ TabIs wr w.heap.size C t n now1 v1 (k + 1) ∧ RefAt wr m b n now1 v1 ∧ Sl .i64 wr ai p (fun j => (((inL v1 n).getD j 0 : Nat) : Int)) ∧ Below w.heap.size w wr)
            (fun _ s _ => n - (intOf s).toNat)
          case atStart => exact ⟨0, 0, Nat.zero_le _, rfl, rfl, rfl, T5, R5, hin, hb5⟩
          case round =>
            clear T5 R5 hin hb5 c15
            obtain ⟨j, q, hj, rfl, rfl, hq, T5, R5, hin, hb5⟩ := hrel
            have HQ := hide hq
            have hq8 : q ≤ 8 := by rw [hq]; exact Nat.le_trans (inL_length v1 j) (by omega)
            clear hq
            have c1 := R5.c1
            have c0 := R5.c0
            by_cases hjn : j < n
            · have cs := R5.cs j hjn
              have HIN := hide hin
              have HB := hide hb5
              clear hin hb5 c0
              have hj1 : (0 : Int) ≤ (j : Int) := by omega
              have hj2 : (j : Int) < (n : Int) := by omega
              by_cases hz : v1 j = 0
              · have HE : Hid (q = (inL v1 (j + 1)).length) := by
                  have e : inL v1 (j + 1) = inL v1 j := by simp [inL, hz]
                  rw [e]; exact HQ.out
                rw [hz] at cs
                have hseen : ∀ d, Calls Try.prog 14 #[.pointer (some ⟨t, 0, none⟩), .int .i64 (j : Int)] (wr.drewN d) fun e w' => e = .returned (.int .u64 0) ∧ w' = wr.drewN d := fun d => by
                  have := seen_any (T5.drew d) j hjn
                  rw [hz] at this
                  exact this
                clear hz
                go_wp2_with fail
                go_quiet ((go_at_call 14; exact Calls.quiet_of_same (hseen _)))
                go_wp2
                go_roundw
                case rel => exact ⟨j + 1, q, by omega, by go_num, rfl, HE.out, T5.drew _, R5.drew _, HIN.out.drew _, below_drewN HB.out _⟩
                case measure => simp [intOf]; omega
              · obtain ⟨hat1, hat2⟩ := inL_at v1 n j hjn hz
                rw [← HQ.out, ← HP.out] at hat1
                rw [← HQ.out] at hat2
                have HE : Hid (q + 1 = (inL v1 (j + 1)).length) := by
                  have e : inL v1 (j + 1) = inL v1 j ++ [j] := by simp [inL, hz]
                  show q + 1 = _
                  rw [e, HQ.out, List.length_append]; rfl
                have hz1 : 0 < v1 j := by omega
                obtain ⟨gi, oi, rfl, hci⟩ := HIN.out q hat1
                replace hci : wr.cell? ⟨gi, oi + q, none⟩ = some (.int .i64 (((inL v1 n).getD q 0 : Nat) : Int)) := hci
                rw [hat2] at hci
                have hseen := fun d => seen_any (T5.drew d) j hjn
                have hq1 : (0 : Int) ≤ (q : Int) := by omega
                have hq2 : (q : Int) < (p : Int) := by omega
                clear hz hat2
                generalize v1 j = z at cs hseen hz1
                have hqp : decide ((q : Int) ≥ (p : Int)) = false := by simp; omega
                go_wp2_with fail
                go_quiet ((go_at_call 14; exact Calls.quiet_of_same (hseen _)))
                go_wp2
                go_roundw
                case rel => exact ⟨j + 1, q + 1, by omega, by go_num, by go_num, HE.out, T5.drew _, R5.drew _, HIN.out.drew _, below_drewN HB.out _⟩
                case measure => simp [intOf]; omega
            · have e : j = n := by omega
              subst e
              have hqp : q = p := by rw [HQ.out, HP.out]
              subst hqp
              have hS : ∀ d, Calls Try.prog 16 #[.pointer (some ⟨t, 0, none⟩)] (wr.drewN d) fun e w' => e = .returned (.int .u64 ((leastN now1 v1 j - 1 : Nat) : Int)) ∧ Below (wr.drewN d).heap.size (wr.drewN d) w' := fun d => safe_at (T5.drew d) (by omega)
              have hRS : ∀ W, RefAt W m b j now1 v1 → Calls Try.prog 17 #[.pointer (some ⟨m, 0, none⟩)] W fun e w' => e = .returned (.int .u64 ((leastN now1 v1 j - 1 : Nat) : Int)) ∧ w' = W := fun W h => rsafe_any h h2 (by omega)
              generalize leastN now1 v1 j - 1 = sf at hS hRS
              have HSF := hide hS
              have HRS := hide hRS
              have HB := hide hb5
              have HT := hide T5
              have HR := hide R5
              clear hS hRS hb5 T5 R5 hin
              go_wp2_with fail
              go_region_held3 (fun W => W.cell? ⟨m, 0, none⟩ = some (.int .u64 (now1 : Int))) (first | go_keep | exact RefAt.c0 (by assumption)) (first | (go_at_call 15; refine (now_any (HT.out.drew 1)).mono ?_; rintro e x ⟨rfl, rfl⟩) | (go_at_call 16; refine (HSF.out 1).mono ?_; rintro e y7 ⟨rfl, b7⟩; have R7 := (HR.out.drew 1).below b7; have T7 := (HT.out.drew 1).below b7; have B7 := (below_drewN HB.out 1).trans (b7.mono (below_drewN HB.out 1).size); clear b7) | (go_at_call 17; refine (HRS.out _ R7).mono ?_; rintro e x ⟨rfl, hx⟩; subst hx) | (go_at_call 14; refine (seen_no T7 _ (by omega)).mono ?_; rintro e x ⟨rfl, hx⟩; subst hx))
              go_wp2
              go_roundw
              case rel => exact ⟨k + 1, now1, v1, by omega, by omega, by go_num, T7, R7, B7⟩
              case measure => simp [intOf]; omega
        · have key : ∃ now1 v1, TabIs (wr.alloc (.cells #[.int .i64 kk, .int .i64 ss] 32)) w.heap.size C t n now1 v1 (k + 1) ∧ RefAt (wr.alloc (.cells #[.int .i64 kk, .int .i64 ss] 32)) m b n now1 v1 ∧ Below w.heap.size w (wr.alloc (.cells #[.int .i64 kk, .int .i64 ss] 32)) := ⟨_, _, T0.more (by omega), R0, hb0⟩
          have h13 : (decide (1 ≤ kk) = false) ∨ (decide (1 ≤ kk) = true ∧ decide (kk ≤ 3) = false) := by
            by_cases e : 1 ≤ kk
            · exact .inr ⟨by simp [e], by simp; omega⟩
            · exact .inl (by simp; omega)
          clear T0 R0 hb0 T R hbe h3 h4
          rcases h13 with h13 | ⟨h13, h14⟩
          all_goals
            go_wp2_with fail
            generalize wr.alloc (.cells #[.int .i64 kk, .int .i64 ss] 32) = y0 at *
            generalize wr.heap.size = xb at *
            go_quiet ((fail))
            obtain ⟨now1, v1, T5, R5, hb5⟩ := key
            go_wp2_with fail
            refine (in_any (T5.drew _)).mono ?_
            rintro e y6 ⟨ai, ci, rfl, hin, b6⟩
            replace T5 := (T5.drew _).below b6
            replace R5 := (R5.drew _).below b6
            replace hb5 := (below_drewN hb5 _).trans (b6.mono (below_drewN hb5 _).size)
            clear b6
            have hn5 : 1 ≤ now1 ∧ now1 ≤ k + 2 := by
              obtain ⟨_, _, _, _, _, _, _, _, _, _, _, h4⟩ := T5
              exact h4
            obtain ⟨p, hp⟩ : ∃ p, p = (inL v1 n).length := ⟨_, rfl⟩
            rw [← hp] at hin ⊢
            have HP := hide hp
            have hp8 : p ≤ 8 := by rw [hp]; exact Nat.le_trans (inL_length v1 n) h2
            clear hp
            have c15 := R5.c1
            go_wp2
            go_loopw [14, 15] (fun c s wr => ∃ j q : Nat, j ≤ n ∧ s = .int .i64 j ∧ c = .int .i64 (q : Int) ∧ q = (inL v1 j).length ∧ TabIs wr w.heap.size C t n now1 v1 (k + 1) ∧ RefAt wr m b n now1 v1 ∧ Sl .i64 wr ai p (fun j => (((inL v1 n).getD j 0 : Nat) : Int)) ∧ Below w.heap.size w wr)
              (fun _ s _ => n - (intOf s).toNat)
            case atStart => exact ⟨0, 0, Nat.zero_le _, rfl, rfl, rfl, T5, R5, hin, hb5⟩
            case round =>
              clear T5 R5 hin hb5 c15
              obtain ⟨j, q, hj, rfl, rfl, hq, T5, R5, hin, hb5⟩ := hrel
              have HQ := hide hq
              have hq8 : q ≤ 8 := by rw [hq]; exact Nat.le_trans (inL_length v1 j) (by omega)
              clear hq
              have c1 := R5.c1
              have c0 := R5.c0
              by_cases hjn : j < n
              · have cs := R5.cs j hjn
                have HIN := hide hin
                have HB := hide hb5
                clear hin hb5 c0
                have hj1 : (0 : Int) ≤ (j : Int) := by omega
                have hj2 : (j : Int) < (n : Int) := by omega
                by_cases hz : v1 j = 0
                · have HE : Hid (q = (inL v1 (j + 1)).length) := by
                    have e : inL v1 (j + 1) = inL v1 j := by simp [inL, hz]
                    rw [e]; exact HQ.out
                  rw [hz] at cs
                  have hseen : ∀ d, Calls Try.prog 14 #[.pointer (some ⟨t, 0, none⟩), .int .i64 (j : Int)] (wr.drewN d) fun e w' => e = .returned (.int .u64 0) ∧ w' = wr.drewN d := fun d => by
                    have := seen_any (T5.drew d) j hjn
                    rw [hz] at this
                    exact this
                  clear hz
                  go_wp2_with fail
                  go_quiet ((go_at_call 14; exact Calls.quiet_of_same (hseen _)))
                  go_wp2
                  go_roundw
                  case rel => exact ⟨j + 1, q, by omega, by go_num, rfl, HE.out, T5.drew _, R5.drew _, HIN.out.drew _, below_drewN HB.out _⟩
                  case measure => simp [intOf]; omega
                · obtain ⟨hat1, hat2⟩ := inL_at v1 n j hjn hz
                  rw [← HQ.out, ← HP.out] at hat1
                  rw [← HQ.out] at hat2
                  have HE : Hid (q + 1 = (inL v1 (j + 1)).length) := by
                    have e : inL v1 (j + 1) = inL v1 j ++ [j] := by simp [inL, hz]
                    show q + 1 = _
                    rw [e, HQ.out, List.length_append]; rfl
                  have hz1 : 0 < v1 j := by omega
                  obtain ⟨gi, oi, rfl, hci⟩ := HIN.out q hat1
                  replace hci : wr.cell? ⟨gi, oi + q, none⟩ = some (.int .i64 (((inL v1 n).getD q 0 : Nat) : Int)) := hci
                  rw [hat2] at hci
                  have hseen := fun d => seen_any (T5.drew d) j hjn
                  have hq1 : (0 : Int) ≤ (q : Int) := by omega
                  have hq2 : (q : Int) < (p : Int) := by omega
                  clear hz hat2
                  generalize v1 j = z at cs hseen hz1
                  have hqp : decide ((q : Int) ≥ (p : Int)) = false := by simp; omega
                  go_wp2_with fail
                  go_quiet ((go_at_call 14; exact Calls.quiet_of_same (hseen _)))
                  go_wp2
                  go_roundw
                  case rel => exact ⟨j + 1, q + 1, by omega, by go_num, by go_num, HE.out, T5.drew _, R5.drew _, HIN.out.drew _, below_drewN HB.out _⟩
                  case measure => simp [intOf]; omega
              · have e : j = n := by omega
                subst e
                have hqp : q = p := by rw [HQ.out, HP.out]
                subst hqp
                have hS : ∀ d, Calls Try.prog 16 #[.pointer (some ⟨t, 0, none⟩)] (wr.drewN d) fun e w' => e = .returned (.int .u64 ((leastN now1 v1 j - 1 : Nat) : Int)) ∧ Below (wr.drewN d).heap.size (wr.drewN d) w' := fun d => safe_at (T5.drew d) (by omega)
                have hRS : ∀ W, RefAt W m b j now1 v1 → Calls Try.prog 17 #[.pointer (some ⟨m, 0, none⟩)] W fun e w' => e = .returned (.int .u64 ((leastN now1 v1 j - 1 : Nat) : Int)) ∧ w' = W := fun W h => rsafe_any h h2 (by omega)
                generalize leastN now1 v1 j - 1 = sf at hS hRS
                have HSF := hide hS
                have HRS := hide hRS
                have HB := hide hb5
                have HT := hide T5
                have HR := hide R5
                clear hS hRS hb5 T5 R5 hin
                go_wp2_with fail
                go_region_held3 (fun W => W.cell? ⟨m, 0, none⟩ = some (.int .u64 (now1 : Int))) (first | go_keep | exact RefAt.c0 (by assumption)) (first | (go_at_call 15; refine (now_any (HT.out.drew 1)).mono ?_; rintro e x ⟨rfl, rfl⟩) | (go_at_call 16; refine (HSF.out 1).mono ?_; rintro e y7 ⟨rfl, b7⟩; have R7 := (HR.out.drew 1).below b7; have T7 := (HT.out.drew 1).below b7; have B7 := (below_drewN HB.out 1).trans (b7.mono (below_drewN HB.out 1).size); clear b7) | (go_at_call 17; refine (HRS.out _ R7).mono ?_; rintro e x ⟨rfl, hx⟩; subst hx) | (go_at_call 14; refine (seen_no T7 _ (by omega)).mono ?_; rintro e x ⟨rfl, hx⟩; subst hx))
                go_wp2
                go_roundw
                case rel => exact ⟨k + 1, now1, v1, by omega, by omega, by go_num, T7, R7, B7⟩
                case measure => simp [intOf]; omega
    · go_wp2
      all_goals
        go_ret
        exact ⟨rfl, hbe⟩
theorem walk (w : World) (a0 : Int) (w0 : (Lit.int .i64 a0).wf = true) (v1 : Value) (o1 : IsActs w v1) :
    Calls Try.prog 3 #[.int .i64 a0, v1] w fun e w' => e = .returned (.bool true) ∧ Below w.heap.size w w' := by
  obtain ⟨ao, len, cap, kd, sv, rfl, hl, hs⟩ := o1
  by_cases h : a0 < 1 ∨ 8 < a0
  · exact walk_no a0 ao len cap w h
  · obtain ⟨n, rfl⟩ := Int.eq_ofNat_of_zero_le (show 0 ≤ a0 by omega)
    exact walk_yes n (by omega) (by omega) ao len cap kd sv w hl hs

set_option maxRecDepth 100000 in
theorem lifted (os : Os) (started : os.Started) (H : Type) (enc : TypeId × Value → H) :
    ReturnsInHanded {} Try.checked os 3 .any (Rows.epochPlaysSpec.pre6 enc Try.prog Try.f3 Rows.epochPlaysRow.domain false) (Rows.epochPlaysSpec.post enc Try.prog Try.f3 false true false false) := by
  refine returnsInHanded_of_change (C := Try.checked) own started (by kernel_rfl) Try.func3
    (ChangeSpec.witness6 (enc := enc) (C := Try.checked) false ⟨#[], #[.int .i64 0, .slice none 0 0], []⟩ 8 (by kernel_rfl) (by kernel_rfl) (by kernel_rfl) (by kernel_rfl)) ?_
  intro W base args ds gs before hval0 hW hcnd _
  have hval : ∀ (j : Nat) t v, Try.f3.params[j]? = some t → args[j]? = some v → Value.okWide Try.prog W .any base t v := hval0
  have hW' := hW
  obtain ⟨p, q, hA0, hV, rfl, hfz, hnd⟩ := hW
  have hA : DataW.TrodAll enc Try.prog W 0 (fun _ => true) true Try.f3.params.toList args.toList ds p := hA0
  rw [Try.params3] at hA hval
  obtain ⟨v0, vs0, d0, ds0, p0, q0, hargs, rfl, rfl, h0, r0⟩ := trodAll_cons hA
  obtain ⟨v1, vs1, d1, ds1, p1, q1, rfl, rfl, rfl, h1, r1⟩ := trodAll_cons r0
  obtain ⟨rfl, rfl, rfl⟩ := trodAll_nil r1
  obtain rfl : args = #[v0, v1] := by cases args; simp_all
  obtain ⟨rfl, rfl⟩ := trodVars_none hV
  obtain ⟨a0, rfl, rfl, rfl, w0⟩ := open_int Try.underlying3 (hval 0 3 v0 rfl rfl) h0
  have k1 := h1
  have lt1 : ∀ x ∈ p1, x.block < W.heap.size := by obtain ⟨m, hm⟩ := k1; exact DataW.trod_lt m _ _ _ hm
  have o1 := open_acts (hval 1 22 v1 rfl rfl) h1
  clear hA0 hval0
  refine (walk W a0 w0 v1 o1).mono fun e W' ⟨he, bel⟩ => ?_
  subst he
  exact ⟨_, rfl, _, _, _, [], _, [], hW', trodAll_mk1 (shut_bool Try.underlying4 _), (trodAll_cons_mk (shut_int Try.underlying3 w0) (trodAll_cons_mk (Below.trod laidOut (by kernel_rfl) (of_decide_eq_true (by kernel_rfl)) k1 bel lt1) trodAll_mk0)), rfl, bel.frame _, fun h => by cases h⟩

theorem over : Rows.epochPlaysRow.holds Try.pinned (OpenSpec.ofChange Rows.epochPlaysSpec) :=
  OpenClaim.holds_of_wide 3 Try.f3 rfl rfl rfl rfl rfl rfl rfl ⟨rfl, rfl, rfl, rfl, rfl⟩ rfl rfl rfl rfl rfl (by kernel_rfl) Try.func3 (by kernel_rfl)
    (of_decide_eq_true (by kernel_rfl)) (by unfold Func.isWrapper; first | (rw [if_pos (by decide +kernel)]; kernel_rfl) | (rw [if_neg (by decide +kernel)]; exact ⟨rfl, rfl⟩))
    (fun os started H enc _ => lifted os started H enc)

theorem proved : Rows.EpochPlaysSaid := over
#print axioms proved

end Go.Proofs.Ytlmkknlcdcajoaa.epochPlays
