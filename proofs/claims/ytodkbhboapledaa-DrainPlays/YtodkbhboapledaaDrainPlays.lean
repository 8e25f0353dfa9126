/- Whatever the input, haycroftlaw07.DrainPlays returns true and changes no argument. Conditions: none. -/
import Derived.Test.YtodkbhboapledaaZl
import Derived.Test.YtodkbhboapledaaRows
import Derived.WalkKit
import Derived.ProofKit
import Derived.OpenShut
import Derived.ShutString
import Derived.ChangeOld
import Derived.Below
import Derived.ChangeSame
namespace Go.Proofs.Ytodkbhboapledaa.drainPlays
open Go.ChangeShapes Go.WideShapes Go.ChangeAt Go.RowKit
open Go.ChangeMaps (open_string shut_string)
set_option linter.unusedVariables false
theorem own : ownKnob Try.prog.godebug = none := by kernel_rfl
theorem laidOut : laidOutB Try.prog = true := by kernel_rfl

set_option maxHeartbeats 4000000 in
set_option maxRecDepth 10000 in
theorem walk (w : World) (v : Value) (o : IsCs w v) :
    Calls Try.prog 3 #[v] w fun e w' => e = .returned (.bool true) ∧ Below w.heap.size w w' := by
  obtain ⟨ao, len, cap, z, rfl, hlen, hs⟩ := o
  have HS := hide hs
  clear hs
  go_enter Try.func3, Try.ntmps3
  go_wp2_with fail
  refine (awake7_any _).mono ?_
  rintro e x1 ⟨rfl, b1⟩
  go_wp2_with fail
  refine (drain_new _).mono ?_
  rintro e x2 ⟨rfl, hsz2, h2, b2⟩
  have hb2 := b1.trans (b2.mono b1.size)
  have hB : w.heap.size ≤ x1.heap.size := b1.size
  have h3 := both_start hsz2 hB h2
  have hb3 := hb2.alloc hb2.size (.cells #[.slice none 0 0, .slice none 0 0] 30)
  have hxx : Hid (x2.heap.size = x1.heap.size + 1) := hsz2
  clear b1 b2 h2 hb2
  generalize x1.heap.size = t at *
  go_wp2
  generalize x2.alloc (.cells #[.slice none 0 0, .slice none 0 0] 30) = x3 at *
  clear hsz2 hxx
  generalize t + 1 = m at *
  go_loopw [5] (fun i wr => ∃ (k : Nat) (l : List A3), k ≤ 200 ∧ i = .int .i64 k ∧ Both w.heap.size t m l l k wr ∧ Below w.heap.size w wr)
    (fun i _ => 200 - (intOf i).toNat)
  case atStart => exact ⟨0, [], by decide, rfl, h3, hb3⟩
  case round =>
    clear h3 hb3
    obtain ⟨k, l, hk, rfl, hbo, hbel⟩ := hrel
    have hs := HS.out.below hbel
    by_cases hlt : k < len ∧ k < 200
    · obtain ⟨h16, h16'⟩ := hlt
      obtain ⟨b, off, rfl, c0, c1, c2, c3, c4⟩ := hs k h16
      have lb : b < w.heap.size := by
        obtain ⟨b', off', e, q, -⟩ := HS.out k h16
        cases e
        exact World.block_lt_of_cell? w _ q
      clear hs
      generalize z k = cc at *
      obtain ⟨put, ⟨ae, ak, ap⟩, s⟩ := cc
      simp only at c0 c1 c2 c3 c4
      have hl1 := hbo.low
      have i0 : (0 : Int) ≤ (k : Int) := by omega
      have i1 : (k : Int) < (len : Int) := by omega
      have hfew := hbo.few
      have hrl := readyL_length s l
      have HB := hide hbo
      have HL := hide hbel
      clear hbo hbel
      have key : ∀ y, (∃ l1, Both w.heap.size t m l1 l1 (k + 1) y ∧ Below w.heap.size w y) → Hid (∃ l1, Both w.heap.size t m l1 l1 (k + 1) y ∧ Below w.heap.size w y) := fun _ h => h
      cases put with
      | true =>
        go_wp2
        go_region_held3 (fun W => W.cell? ⟨b, off + k * 5 + 1, none⟩ = some (.int .u64 ae) ∧ W.cell? ⟨b, off + k * 5 + 2, none⟩ = some (.int .i64 ak) ∧ W.cell? ⟨b, off + k * 5 + 3, none⟩ = some (.int .i64 ap)) (first | assumption | go_keep) (first | (go_at_call 8; refine (both_dput (HB.out.drew 1) ⟨ae, ak, ap⟩).mono ?_; rintro e y1 ⟨rfl, B1, a1⟩; have q1 : y1.cell? ⟨b, off + k * 5 + 1, none⟩ = some (.int .u64 ae) ∧ y1.cell? ⟨b, off + k * 5 + 2, none⟩ = some (.int .i64 ak) ∧ y1.cell? ⟨b, off + k * 5 + 3, none⟩ = some (.int .i64 ap) := ⟨(a1.cell lb).trans c1, (a1.cell lb).trans c2, (a1.cell lb).trans c3⟩) | (go_at_call 9; refine (both_mput B1 (by omega) ⟨ae, ak, ap⟩).mono ?_; rintro e y2 ⟨rfl, B2, a2⟩; have q2 : y2.cell? ⟨b, off + k * 5 + 1, none⟩ = some (.int .u64 ae) ∧ y2.cell? ⟨b, off + k * 5 + 2, none⟩ = some (.int .i64 ak) ∧ y2.cell? ⟨b, off + k * 5 + 3, none⟩ = some (.int .i64 ap) := ⟨(a2.cell lb).trans q1.1, (a2.cell lb).trans q1.2.1, (a2.cell lb).trans q1.2.2⟩))
        replace key := key y2 ⟨_, B2, ((below_drewN HL.out 1).trans a1).trans a2⟩
        clear B1 B2 a1 a2 q1 q2 HB HL c0 c1 c2 c3 c4
        obtain ⟨l1, B5, hb5⟩ := key.out
        clear key
        have hn16 := B5.few
        go_wp2_with fail
        refine (both_mwaiting B5 (by omega)).mono ?_
        rintro e y6 ⟨wo, wcap, rfl, hw, b6⟩
        have B6 := B5.below b6
        have hb6 := hb5.trans (b6.mono hb5.size)
        clear B5 hb5 b6
        have hdw := both_dwaiting B6
        have HDL := hide (fun y (h : Both w.heap.size t m l1 l1 (k + 1) y) => both_dlen h)
        have HDE := hide (fun y (h : Both w.heap.size t m l1 l1 (k + 1) y) => both_dleast h)
        have HLL := hide (lawK_all l1)
        have HLS : Hid (∀ j, lawK l1 (j + 1) = if j = 0 ∨ (getL l1 j).e < lawK l1 j then (getL l1 j).e else lawK l1 j) := fun j => rfl
        have hL0 : lawK l1 0 = 0 := rfl
        generalize hn : l1.length = n at *
        clear hn
        go_wp2
        go_loop [7, 8] (fun a i => ∃ j : Nat, j ≤ n ∧ i = .int .i64 j ∧ a = .int .u64 (lawK l1 j))
          (fun _ i => n - (intOf i).toNat)
        case atStart => exact ⟨0, Nat.zero_le _, rfl, by rw [hL0]⟩
        case round =>
          obtain ⟨j, hj, rfl, rfl⟩ := hrel
          by_cases hjn : j < n
          · obtain ⟨b9, off9, rfl, d1, -, -⟩ := hw j hjn
            have hq := HLS.out j
            have HQ := hide hq
            clear hq HLL HLS hdw HDL HDE hL0
            generalize getL l1 j = aj at *
            obtain ⟨be, bk, bp⟩ := aj
            simp only at d1
            by_cases h0 : j = 0
            · subst h0
              rw [Nat.zero_mul, Nat.add_zero] at d1
              generalize hy : lawK l1 0 = y0 at *
              clear hy
              go_wp2
              go_round
              case rel => exact ⟨0 + 1, by omega, by go_num, by rw [HQ.out]; simp⟩
              case measure => simp [intOf]; omega
            · have hj0 : ((j : Int) == 0) = false := by simp; omega
              by_cases hlt9 : be < lawK l1 j
              · have hq : lawK l1 (j + 1) = be := by rw [HQ.out, if_pos (.inr hlt9)]
                have HQ2 := hide hq
                clear hq HQ
                generalize lawK l1 j = y0 at *
                go_wp2
                go_round
                case rel => exact ⟨j + 1, by omega, by go_num, by rw [HQ2.out]⟩
                case measure => simp [intOf]; omega
              · have hq : lawK l1 (j + 1) = lawK l1 j := by rw [HQ.out, if_neg (by simp only; omega)]
                have HQ2 := hide hq
                clear hq HQ
                go_wp2
                go_round
                case rel => exact ⟨j + 1, by omega, by go_num, by rw [HQ2.out]⟩
                case measure => simp [intOf]; omega
          · have e : j = n := by omega
            subst e
            rw [HLL.out]
            clear HLL HLS hL0
            generalize leastL l1 = le at *
            go_wp2_with fail
            refine hdw.mono ?_
            rintro e y7 ⟨xo, xcap, rfl, hx, b7⟩
            have B7 := B6.below b7
            have hb7 := hb6.trans (b7.mono hb6.size)
            have hw7 := hw.below b7
            clear hdw B6 hb6 hw b7
            go_wp2_with fail
            refine (ref_same hx hw7 (by omega)).mono ?_
            rintro e y8 ⟨rfl, b8⟩
            have B8 := B7.below b8
            have hb8 := hb7.trans (b8.mono hb7.size)
            clear B7 hb7 hw7 hx b8
            go_wp2_with fail
            refine (HDL.out _ B8).mono ?_
            rintro e y9 ⟨rfl, rfl⟩
            go_wp2_with fail
            refine (HDE.out _ B8).mono ?_
            rintro e y9 ⟨rfl, b9⟩
            have B9 := B8.below b9
            have hb9 := hb8.trans (b9.mono hb8.size)
            clear HDL HDE B8 hb8 b9
            go_wp2
            go_roundw
            case rel => exact ⟨k + 1, l1, by omega, by go_num, B9, hb9⟩
            case measure => simp [intOf]; omega
      | false =>
        go_wp2
        go_region_held3 (fun W => W.cell? ⟨b, off + k * 5 + 4, none⟩ = some (.int .u64 s)) (first | assumption | go_keep) (first | (go_at_call 11; refine (both_dready (HB.out.drew 1) s).mono ?_; rintro e y1 ⟨ro, rcap, rfl, B1, a1⟩; have q1 : y1.cell? ⟨b, off + k * 5 + 4, none⟩ = some (.int .u64 s) := (a1.cell lb).trans c4) | (go_at_call 12; refine (both_mready B1 (by omega) s).mono ?_; rintro e y2 ⟨so, scap, rfl, A1, A2, B2, a2⟩; have q2 : y2.cell? ⟨b, off + k * 5 + 4, none⟩ = some (.int .u64 s) := (a2.cell lb).trans q1) | (go_at_call 10; refine (ref_same A1 A2 (by omega)).mono ?_; rintro e y3 ⟨rfl, a3⟩; have q3 : y3.cell? ⟨b, off + k * 5 + 4, none⟩ = some (.int .u64 s) := ((a3.mono (Nat.le_trans B2.low (Nat.le_refl _))).cell lb).trans q2))
        replace key := key y3 ⟨_, (B2.below a3).more (by omega), ((below_drewN HL.out 1).trans a1).trans (a2.trans (a3.mono B2.low))⟩
        clear B1 B2 a1 a2 a3 q1 q2 q3 A1 A2 HB HL c0 c1 c2 c3 c4
        obtain ⟨l1, B5, hb5⟩ := key.out
        clear key
        have hn16 := B5.few
        go_wp2_with fail
        refine (both_mwaiting B5 (by omega)).mono ?_
        rintro e y6 ⟨wo, wcap, rfl, hw, b6⟩
        have B6 := B5.below b6
        have hb6 := hb5.trans (b6.mono hb5.size)
        clear B5 hb5 b6
        have hdw := both_dwaiting B6
        have HDL := hide (fun y (h : Both w.heap.size t m l1 l1 (k + 1) y) => both_dlen h)
        have HDE := hide (fun y (h : Both w.heap.size t m l1 l1 (k + 1) y) => both_dleast h)
        have HLL := hide (lawK_all l1)
        have HLS : Hid (∀ j, lawK l1 (j + 1) = if j = 0 ∨ (getL l1 j).e < lawK l1 j then (getL l1 j).e else lawK l1 j) := fun j => rfl
        have hL0 : lawK l1 0 = 0 := rfl
        generalize hn : l1.length = n at *
        clear hn
        go_wp2
        go_loop [7, 8] (fun a i => ∃ j : Nat, j ≤ n ∧ i = .int .i64 j ∧ a = .int .u64 (lawK l1 j))
          (fun _ i => n - (intOf i).toNat)
        case atStart => exact ⟨0, Nat.zero_le _, rfl, by rw [hL0]⟩
        case round =>
          obtain ⟨j, hj, rfl, rfl⟩ := hrel
          by_cases hjn : j < n
          · obtain ⟨b9, off9, rfl, d1, -, -⟩ := hw j hjn
            have hq := HLS.out j
            have HQ := hide hq
            clear hq HLL HLS hdw HDL HDE hL0
            generalize getL l1 j = aj at *
            obtain ⟨be, bk, bp⟩ := aj
            simp only at d1
            by_cases h0 : j = 0
            · subst h0
              rw [Nat.zero_mul, Nat.add_zero] at d1
              generalize hy : lawK l1 0 = y0 at *
              clear hy
              go_wp2
              go_round
              case rel => exact ⟨0 + 1, by omega, by go_num, by rw [HQ.out]; simp⟩
              case measure => simp [intOf]; omega
            · have hj0 : ((j : Int) == 0) = false := by simp; omega
              by_cases hlt9 : be < lawK l1 j
              · have hq : lawK l1 (j + 1) = be := by rw [HQ.out, if_pos (.inr hlt9)]
                have HQ2 := hide hq
                clear hq HQ
                generalize lawK l1 j = y0 at *
                go_wp2
                go_round
                case rel => exact ⟨j + 1, by omega, by go_num, by rw [HQ2.out]⟩
                case measure => simp [intOf]; omega
              · have hq : lawK l1 (j + 1) = lawK l1 j := by rw [HQ.out, if_neg (by simp only; omega)]
                have HQ2 := hide hq
                clear hq HQ
                go_wp2
                go_round
                case rel => exact ⟨j + 1, by omega, by go_num, by rw [HQ2.out]⟩
                case measure => simp [intOf]; omega
          · have e : j = n := by omega
            subst e
            rw [HLL.out]
            clear HLL HLS hL0
            generalize leastL l1 = le at *
            go_wp2_with fail
            refine hdw.mono ?_
            rintro e y7 ⟨xo, xcap, rfl, hx, b7⟩
            have B7 := B6.below b7
            have hb7 := hb6.trans (b7.mono hb6.size)
            have hw7 := hw.below b7
            clear hdw B6 hb6 hw b7
            go_wp2_with fail
            refine (ref_same hx hw7 (by omega)).mono ?_
            rintro e y8 ⟨rfl, b8⟩
            have B8 := B7.below b8
            have hb8 := hb7.trans (b8.mono hb7.size)
            clear B7 hb7 hw7 hx b8
            go_wp2_with fail
            refine (HDL.out _ B8).mono ?_
            rintro e y9 ⟨rfl, rfl⟩
            go_wp2_with fail
            refine (HDE.out _ B8).mono ?_
            rintro e y9 ⟨rfl, b9⟩
            have B9 := B8.below b9
            have hb9 := hb8.trans (b9.mono hb8.size)
            clear HDL HDE B8 hb8 b9
            go_wp2
            go_roundw
            case rel => exact ⟨k + 1, l1, by omega, by go_num, B9, hb9⟩
            case measure => simp [intOf]; omega
    · have hx : ¬ k < len ∨ (k < len ∧ ¬ k < 200) := by omega
      clear hlt hs hbo
      rcases hx with h3 | ⟨h3, h4⟩
      all_goals
        go_wp2
        go_ret
        exact ⟨rfl, hbel⟩

set_option maxRecDepth 100000 in
theorem lifted (os : Os) (started : os.Started) (H : Type) (enc : TypeId × Value → H) :
    ReturnsInHanded {} Try.checked os 3 .any (Rows.drainPlaysSpec.pre6 enc Try.prog Try.f3 Rows.drainPlaysRow.domain false) (Rows.drainPlaysSpec.post enc Try.prog Try.f3 false true false false) := by
  refine returnsInHanded_of_change (C := Try.checked) own started (by kernel_rfl) Try.func3
    (ChangeSpec.witness6 (enc := enc) (C := Try.checked) false ⟨#[], #[.slice none 0 0], []⟩ 8 (by kernel_rfl) (by kernel_rfl) (by kernel_rfl) (by kernel_rfl)) ?_
  intro W base args ds gs before hval0 hW hcnd _
  have hval : ∀ (j : Nat) t v, Try.f3.params[j]? = some t → args[j]? = some v → Value.okWide Try.prog W .any base t v := hval0
  have hW' := hW
  obtain ⟨p, q, hA0, hV, rfl, hfz, hnd⟩ := hW
  have hA : DataW.TrodAll enc Try.prog W 0 (fun _ => true) true Try.f3.params.toList args.toList ds p := hA0
  rw [Try.params3] at hA hval
  obtain ⟨v0, vs0, d0, ds0, p0, q0, hargs, rfl, rfl, h0, r0⟩ := trodAll_cons hA
  obtain ⟨rfl, rfl, rfl⟩ := trodAll_nil r0
  obtain rfl : args = #[v0] := by cases args; simp_all
  obtain ⟨rfl, rfl⟩ := trodVars_none hV
  have k0 := h0
  have lt0 : ∀ x ∈ p0, x.block < W.heap.size := by obtain ⟨m, hm⟩ := k0; exact DataW.trod_lt m _ _ _ hm
  have o0 := open_calls (hval 0 22 v0 rfl rfl) h0
  clear hA0 hval0
  refine (walk W v0 o0).mono fun e W' ⟨he, bel⟩ => ?_
  subst he
  exact ⟨_, rfl, _, _, _, [], _, [], hW', trodAll_mk1 (shut_bool Try.underlying4 _), (trodAll_cons_mk (Below.trod laidOut (by kernel_rfl) (of_decide_eq_true (by kernel_rfl)) k0 bel lt0) trodAll_mk0), rfl, bel.frame _, fun h => by cases h⟩

theorem over : Rows.drainPlaysRow.holds Try.pinned (OpenSpec.ofChange Rows.drainPlaysSpec) :=
  OpenClaim.holds_of_wide 3 Try.f3 rfl rfl rfl rfl rfl rfl rfl ⟨rfl, rfl, rfl, rfl, rfl⟩ rfl rfl rfl rfl rfl (by kernel_rfl) Try.func3 (by kernel_rfl)
    (of_decide_eq_true (by kernel_rfl)) (by unfold Func.isWrapper; first | (rw [if_pos (by decide +kernel)]; kernel_rfl) | (rw [if_neg (by decide +kernel)]; exact ⟨rfl, rfl⟩))
    (fun os started H enc _ => lifted os started H enc)

theorem proved : Rows.DrainPlaysSaid := over
#print axioms proved

end Go.Proofs.Ytodkbhboapledaa.drainPlays
