/- Whatever the input, haycroftlaw06.EpochComes returns true and changes no argument. Conditions: none. -/
import Derived.Test.YtlmkknlcdcajoaaMi
import Derived.Deep.Grids
import Derived.Test.YtlmkknlcdcajoaaRows
import Derived.WalkKit
import Derived.ProofKit
import Derived.OpenShut
import Derived.ShutString
import Derived.ChangeOld
import Derived.Below
import Derived.ChangeSame
namespace Go.Proofs.Ytlmkknlcdcajoaa.epochComes
open Go.ChangeShapes Go.WideShapes Go.ChangeAt Go.RowKit
open Go.ChangeMaps (open_string shut_string)
set_option linter.unusedVariables false
theorem own : ownKnob Try.prog.godebug = none := by kernel_rfl
theorem laidOut : laidOutB Try.prog = true := by kernel_rfl

/-- A slice of bools that is read. -/
def Bs (w : World) (ao : Option Addr) (n : Nat) (z : Nat → Bool) : Prop := ∀ j, j < n → ∃ b off, ao = some ⟨b, off, none⟩ ∧ w.cell? ⟨b, off + j, none⟩ = some (.bool (z j))
theorem Bs.below {w w' : World} {ao : Option Addr} {n : Nat} {z : Nat → Bool} (h : Bs w ao n z) (hb : Below w.heap.size w w') : Bs w' ao n z := by
  intro j hj
  obtain ⟨b, off, h1, h2⟩ := h j hj
  exact ⟨b, off, h1, by rw [hb.cell (p := ⟨b, off + j, none⟩) (World.block_lt_of_cell? w _ h2)]; exact h2⟩
def IsBs (w : World) (v : Value) : Prop := ∃ ao len cap z, v = .slice ao len cap ∧ len ≤ 9223372036854775807 ∧ Bs w ao len z
theorem open_bs {H : Type} {enc : TypeId × Value → H} {W : World} {base : Nat} {v : Value} {d : DataW H} {p : List MemPlace} (hv : Value.okWide Try.prog W .any base 46 v)
    (h : DataW.Trod enc Try.prog W 0 (fun _ => true) true 46 v d p) : IsBs W v := by
  obtain ⟨ao, len, cap, rfl⟩ := okWide_slice Try.underlying46 hv
  obtain ⟨fuel, hf⟩ := h
  rcases Go.Deep.open_bools Try.underlying46 Try.underlying4 (by kernel_rfl) hf with ⟨hcs, _⟩ | ⟨a, l, c, Z, hcs, _, hl, hm, _, hc⟩
  · simp [Value.cells] at hcs
    obtain ⟨rfl, rfl, rfl⟩ := hcs
    exact ⟨_, _, _, fun _ => false, rfl, by decide, fun j hj => by omega⟩
  · simp [Value.cells] at hcs
    obtain ⟨rfl, rfl, rfl⟩ := hcs
    obtain ⟨b, off, spot⟩ := a
    refine ⟨_, _, _, Z, rfl, by unfold maxLen at hm; omega, fun j hj => ?_⟩
    have hspot : spot = none := by simpa [Addr.add] using World.cell?_spot (hc 0 (by omega))
    subst hspot
    have c0 := hc j (by omega)
    rw [Go.WideShapes.add_plain] at c0
    exact ⟨b, off, rfl, c0⟩
set_option maxHeartbeats 1000000 in
theorem walk_no (a0 : Int) (ao : Option Addr) (len cap : Nat) (lo : Option Addr) (ll lc : Nat) (w : World) (h : a0 < 1 ∨ 8 < a0) :
    Calls Try.prog 5 #[.int .i64 a0, .slice ao len cap, .slice lo ll lc] w fun e w' => e = .returned (.bool true) ∧ Below w.heap.size w w' := by
  go_enter Try.func5, Try.ntmps5
  go_wp2_with fail
  refine (awake6_any _).mono ?_
  rintro e x1 ⟨rfl, b1⟩
  go_wp2_with fail
  refine (new_no a0 h _).mono ?_
  rintro e x2 ⟨rfl, rfl⟩
  go_wp2
  go_ret
  exact ⟨rfl, b1⟩
set_option maxHeartbeats 1000000 in
set_option maxRecDepth 10000 in
theorem walk_yes (n : Nat) (h1 : 1 ≤ n) (h2 : n ≤ 8) (ao : Option Addr) (len cap : Nat) (kd sv : Nat → Int) (lo : Option Addr) (ll lc : Nat) (z : Nat → Bool) (w : World) (hl : len ≤ 9223372036854775807) (hs : Acts w ao len kd sv) (hll : ll ≤ 9223372036854775807) (hz : Bs w lo ll z) :
    Calls Try.prog 5 #[.int .i64 (n : Int), .slice ao len cap, .slice lo ll lc] w fun e w' => e = .returned (.bool true) ∧ Below w.heap.size w w' := by
  have HS := hide hs
  have HZ := hide hz
  clear hs hz
  go_enter Try.func5, Try.ntmps5
  go_wp2_with fail
  refine (awake6_any _).mono ?_
  rintro e x1 ⟨rfl, b1⟩
  go_wp2_with fail
  refine (table_yes n h1 h2 _).mono ?_
  rintro e x2 ⟨t, rfl, T, b2⟩
  replace T := T.mono b1.size (Nat.le_refl _)
  replace b2 := b1.trans (b2.mono b1.size)
  have hC : x2.heap.size ≤ x2.heap.size := Nat.le_refl _
  generalize hCe : x2.heap.size = C at T
  rw [hCe] at hC
  have hC2 : C ≤ x2.heap.size := by omega
  clear b1 hCe hC
  have hI : Inv n 1 (fun _ => 0) := fun i _ => by simp
  go_wp2
  go_loopw [9] (fun i wr => ∃ (k now : Nat) (v : Nat → Nat), k ≤ 200 ∧ k ≤ len ∧ i = .int .i64 k ∧ TabIs wr w.heap.size C t n now v k ∧ Inv n now v ∧ C ≤ wr.heap.size ∧ Below w.heap.size w wr)
    (fun i _ => len - (intOf i).toNat)
  case atStart => exact ⟨0, 1, _, by omega, Nat.zero_le _, rfl, T, hI, hC2, b2⟩
  case round =>
    clear T hI b2 hC2
    obtain ⟨k, now, v, hk1, hk2, rfl, T, hI, hC, hb⟩ := hrel
    by_cases hlt : k < len ∧ k < 200
    · obtain ⟨hl1, hl2⟩ := hlt
      obtain ⟨g, off, rfl, hc0, hc1⟩ := HS.out.below hb k hl1
      have HI := hide (hI.step (kd k) (sv k))
      clear hI
      go_wp2_with fail
      refine (does_any T (by omega) (kd k) (sv k)).mono ?_
      rintro e y1 ⟨⟨c, rfl⟩, T1, a1⟩
      have hC1 := Nat.le_trans hC a1.size
      replace hb := hb.trans (a1.below hb.size)
      clear T a1 hc0 hc1 hC
      go_wp2
      go_roundw
      case rel => exact ⟨k + 1, _, _, by omega, by omega, by go_num, T1, HI.out, hC1, hb⟩
      case measure => simp [intOf]; omega
    · clear hk2
      go_wp2_with fail
      all_goals
        refine (bump_any T (by omega)).mono ?_
        rintro e y1 ⟨rfl, T1, a1⟩
        have hC1 := Nat.le_trans hC a1.size
        have hb1 := hb.trans (a1.below hb.size)
        have hp : 1 ≤ now ∧ now ≤ k + 1 := by
          obtain ⟨_, _, _, _, _, _, _, _, _, _, _, h4⟩ := T
          exact h4
        have HI := hide hI
        clear T a1 hC hb hI
        go_wp2_with fail
        refine (in_far T1).mono ?_
        rintro e y2 ⟨ai, ci, rfl, hin, hfar, b2⟩
        replace T1 := T1.below b2
        have hC2 := Nat.le_trans hC1 b2.size
        have hb2 := hb1.trans (b2.mono hb1.size)
        have hm8 : (inL v n).length ≤ 8 := Nat.le_trans (inL_length v n) h2
        have HF : Hid (0 < (inL v n).length → ∃ g off, ai = some ⟨g, off, none⟩ ∧ (g < w.heap.size ∨ C ≤ g)) := fun h0 => by
          obtain ⟨g, off, e1, e2⟩ := hfar h0
          exact ⟨g, off, e1, by omega⟩
        clear hfar hC1 hb1 b2
        obtain ⟨m, hm⟩ : ∃ m, m = (inL v n).length := ⟨_, rfl⟩
        rw [← hm] at hin hm8 HF ⊢
        have HM := hide hm
        clear hm
        go_wp2
        go_loopw [13] (fun i wr => ∃ (j : Nat) (u : Nat → Nat), j ≤ m ∧ i = .int .i64 j ∧ TabIs wr w.heap.size C t n (now + 1) u (k + 1 + j) ∧ Done (inL v n) n now v u j ∧ Sl .i64 wr ai m (fun j => (((inL v n).getD j 0 : Nat) : Int)) ∧ C ≤ wr.heap.size ∧ Below w.heap.size w wr)
          (fun i _ => m - (intOf i).toNat)
        case atStart => exact ⟨0, v, Nat.zero_le _, rfl, T1, Done.zero _ _ _ _, hin, hC2, hb2⟩
        case round =>
          clear T1 hin hC2 hb2
          obtain ⟨j, u, hj, rfl, T, hD, hin, hC, hb⟩ := hrel
          by_cases hjm : j < m
          · have hjl : j < (inL v n).length := by rw [← HM.out]; exact hjm
            have hq := hD.least_lt HI.out hjl
            have hq1 := leastN_pos (now + 1) u n (by omega)
            have hin1 := inL_get v n j hjl
            have hcur := hD.cur hjl
            have hsn : (inL v n).getD j 0 < n := hin1.1
            have hus : u ((inL v n).getD j 0) ≠ 0 := by rw [hcur]; exact hin1.2
            have D3 := hide (hD.next 0 (.inl rfl))
            have D2 := hide (hD.next (now + 1) (.inr rfl))
            have V3 := hide (doesV_turn (now := now + 1) hsn hus 3 (by decide))
            have V2 := hide (doesV_turn (now := now + 1) hsn hus 2 (by decide))
            simp only [if_true] at V3
            clear hin1 hcur hD hjl hus
            have hsafe := safe_at T (by omega)
            generalize leastN (now + 1) u n = q at *
            have d1 : decide (((q - 1 : Nat) : Int) ≥ (now : Int)) = false := by simp; omega
            go_wp2_with fail
            refine hsafe.mono ?_
            rintro e y3 ⟨rfl, b3⟩
            have T3 := T.below b3
            have hin3 := hin.below b3
            have hC3 := Nat.le_trans hC b3.size
            have hb3 := hb.trans (b3.mono hb.size)
            clear hsafe T hin hC hb b3
            obtain ⟨gi, oi, rfl, hci⟩ := hin3 j hjm
            replace hci : y3.cell? ⟨gi, oi + j, none⟩ = some (.int .i64 (((inL v n).getD j 0 : Nat) : Int)) := hci
            have hlv : Calls Try.prog 18 #[.pointer (some ⟨t, 0, none⟩), .int .i64 (((inL v n).getD j 0 : Nat) : Int)] y3 fun e w' => (∃ c, e = .returned (.int .i64 c)) ∧ TabIs w' w.heap.size C t n (now + 1) (updN u ((inL v n).getD j 0) 0) (k + 1 + j + 1) ∧ Apart w.heap.size C y3 w' := by
              refine (leave_any T3 _).mono ?_
              rintro e w' ⟨rfl, a, b⟩
              rw [V3.out] at a
              exact ⟨⟨_, rfl⟩, a, b⟩
            have hrf : Calls Try.prog 19 #[.pointer (some ⟨t, 0, none⟩), .int .i64 (((inL v n).getD j 0 : Nat) : Int)] y3 fun e w' => (∃ c, e = .returned (.int .i64 c)) ∧ TabIs w' w.heap.size C t n (now + 1) (updN u ((inL v n).getD j 0) (now + 1)) (k + 1 + j + 1) ∧ Apart w.heap.size C y3 w' := by
              refine (refresh_any T3 _).mono ?_
              rintro e w' ⟨rfl, a, b⟩
              rw [V2.out] at a
              exact ⟨⟨_, rfl⟩, a, b⟩
            have HIN := hide hin3
            clear hin3 V2 V3 T3 d1
            generalize (inL v n).getD j 0 = p at hci hlv hrf D2 D3 hsn
            by_cases hbl : j < ll
            · obtain ⟨bg, bo, rfl, hbc⟩ := (HZ.out.below hb3) j hbl
              cases hzj : z j with
              | false =>
                rw [hzj] at hbc
                clear hzj
                go_wp2_with fail
                refine hrf.mono ?_
                rintro e y4 ⟨⟨c, rfl⟩, T4, a4⟩
                have hb4 := hb3.trans (a4.below hb3.size)
                have hC4 := Nat.le_trans hC3 a4.size
                have hin4 := HIN.out.apart a4 HF.out
                clear hci a4
                go_wp2
                go_roundw
                case rel => exact ⟨j + 1, _, by omega, by go_num, T4, D2.out, hin4, hC4, hb4⟩
                case measure => simp [intOf]; omega
              | true =>
                rw [hzj] at hbc
                clear hzj
                go_wp2_with fail
                refine hlv.mono ?_
                rintro e y4 ⟨⟨c, rfl⟩, T4, a4⟩
                have hb4 := hb3.trans (a4.below hb3.size)
                have hC4 := Nat.le_trans hC3 a4.size
                have hin4 := HIN.out.apart a4 HF.out
                clear hci a4
                go_wp2
                go_roundw
                case rel => exact ⟨j + 1, _, by omega, by go_num, T4, D3.out, hin4, hC4, hb4⟩
                case measure => simp [intOf]; omega
            · go_wp2_with fail
              refine hrf.mono ?_
              rintro e y4 ⟨⟨c, rfl⟩, T4, a4⟩
              have hb4 := hb3.trans (a4.below hb3.size)
              have hC4 := Nat.le_trans hC3 a4.size
              have hin4 := HIN.out.apart a4 HF.out
              clear hci a4
              go_wp2
              go_roundw
              case rel => exact ⟨j + 1, _, by omega, by go_num, T4, D2.out, hin4, hC4, hb4⟩
              case measure => simp [intOf]; omega
          · have e : j = m := by omega
            subst e
            have hall := Done.all (by rw [HM.out] at hD; exact hD)
            have hsafe := safe_at T (by omega)
            rw [hall] at hsafe
            clear hall hD
            go_wp2_with fail
            refine hsafe.mono ?_
            rintro e y3 ⟨rfl, b3⟩
            have hb3 := hb.trans (b3.mono hb.size)
            have d2 : (((now + 1 - 1 : Nat) : Int) == (now : Int)) = true := by simp
            go_wp2
            go_ret
            exact ⟨rfl, hb3⟩
theorem walk (w : World) (a0 : Int) (w0 : (Lit.int .i64 a0).wf = true) (v1 : Value) (o1 : IsActs w v1) (v2 : Value) (o2 : IsBs w v2) :
    Calls Try.prog 5 #[.int .i64 a0, v1, v2] w fun e w' => e = .returned (.bool true) ∧ Below w.heap.size w w' := by
  obtain ⟨ao, len, cap, kd, sv, rfl, hl, hs⟩ := o1
  obtain ⟨lo, ll, lc, z, rfl, hll, hz⟩ := o2
  by_cases h : a0 < 1 ∨ 8 < a0
  · exact walk_no a0 ao len cap lo ll lc w h
  · obtain ⟨n, rfl⟩ := Int.eq_ofNat_of_zero_le (show 0 ≤ a0 by omega)
    exact walk_yes n (by omega) (by omega) ao len cap kd sv lo ll lc z w hl hs hll hz

set_option maxRecDepth 100000 in
theorem lifted (os : Os) (started : os.Started) (H : Type) (enc : TypeId × Value → H) :
    ReturnsInHanded {} Try.checked os 5 .any (Rows.epochComesSpec.pre6 enc Try.prog Try.f5 Rows.epochComesRow.domain false) (Rows.epochComesSpec.post enc Try.prog Try.f5 false true false false) := by
  refine returnsInHanded_of_change (C := Try.checked) own started (by kernel_rfl) Try.func5
    (ChangeSpec.witness6 (enc := enc) (C := Try.checked) false ⟨#[], #[.int .i64 0, .slice none 0 0, .slice none 0 0], []⟩ 8 (by kernel_rfl) (by kernel_rfl) (by kernel_rfl) (by kernel_rfl)) ?_
  intro W base args ds gs before hval0 hW hcnd _
  have hval : ∀ (j : Nat) t v, Try.f5.params[j]? = some t → args[j]? = some v → Value.okWide Try.prog W .any base t v := hval0
  have hW' := hW
  obtain ⟨p, q, hA0, hV, rfl, hfz, hnd⟩ := hW
  have hA : DataW.TrodAll enc Try.prog W 0 (fun _ => true) true Try.f5.params.toList args.toList ds p := hA0
  rw [Try.params5] at hA hval
  obtain ⟨v0, vs0, d0, ds0, p0, q0, hargs, rfl, rfl, h0, r0⟩ := trodAll_cons hA
  obtain ⟨v1, vs1, d1, ds1, p1, q1, rfl, rfl, rfl, h1, r1⟩ := trodAll_cons r0
  obtain ⟨v2, vs2, d2, ds2, p2, q2, rfl, rfl, rfl, h2, r2⟩ := trodAll_cons r1
  obtain ⟨rfl, rfl, rfl⟩ := trodAll_nil r2
  obtain rfl : args = #[v0, v1, v2] := by cases args; simp_all
  obtain ⟨rfl, rfl⟩ := trodVars_none hV
  obtain ⟨a0, rfl, rfl, rfl, w0⟩ := open_int Try.underlying3 (hval 0 3 v0 rfl rfl) h0
  have k1 := h1
  have lt1 : ∀ x ∈ p1, x.block < W.heap.size := by obtain ⟨m, hm⟩ := k1; exact DataW.trod_lt m _ _ _ hm
  have o1 := open_acts (hval 1 22 v1 rfl rfl) h1
  have k2 := h2
  have lt2 : ∀ x ∈ p2, x.block < W.heap.size := by obtain ⟨m, hm⟩ := k2; exact DataW.trod_lt m _ _ _ hm
  have o2 := open_bs (hval 2 46 v2 rfl rfl) h2
  clear hA0 hval0
  refine (walk W a0 w0 v1 o1 v2 o2).mono fun e W' ⟨he, bel⟩ => ?_
  subst he
  exact ⟨_, rfl, _, _, _, [], _, [], hW', trodAll_mk1 (shut_bool Try.underlying4 _), (trodAll_cons_mk (shut_int Try.underlying3 w0) (trodAll_cons_mk (Below.trod laidOut (by kernel_rfl) (of_decide_eq_true (by kernel_rfl)) k1 bel lt1) (trodAll_cons_mk (Below.trod laidOut (by kernel_rfl) (of_decide_eq_true (by kernel_rfl)) k2 bel lt2) trodAll_mk0))), rfl, bel.frame _, fun h => by cases h⟩

theorem over : Rows.epochComesRow.holds Try.pinned (OpenSpec.ofChange Rows.epochComesSpec) :=
  OpenClaim.holds_of_wide 5 Try.f5 rfl rfl rfl rfl rfl rfl rfl ⟨rfl, rfl, rfl, rfl, rfl⟩ rfl rfl rfl rfl rfl (by kernel_rfl) Try.func5 (by kernel_rfl)
    (of_decide_eq_true (by kernel_rfl)) (by unfold Func.isWrapper; first | (rw [if_pos (by decide +kernel)]; kernel_rfl) | (rw [if_neg (by decide +kernel)]; exact ⟨rfl, rfl⟩))
    (fun os started H enc _ => lifted os started H enc)

theorem proved : Rows.EpochComesSaid := over
#print axioms proved

end Go.Proofs.Ytlmkknlcdcajoaa.epochComes
