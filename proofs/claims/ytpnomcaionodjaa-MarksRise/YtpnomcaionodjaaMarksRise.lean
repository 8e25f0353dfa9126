/- Whatever the input, haycroftlaw13.MarksRise returns true and changes no argument. Conditions: none. -/
import Derived.Test.YtpnomcaionodjaaKd
import Derived.Test.YtpnomcaionodjaaRows
import Derived.WalkKit
import Derived.ProofKit
import Derived.OpenShut
import Derived.ShutString
import Derived.ChangeOld
import Derived.Below
import Derived.ChangeSame
namespace Go.Proofs.Ytpnomcaionodjaa.marksRise
open Go.ChangeShapes Go.WideShapes Go.ChangeAt Go.RowKit
open Go.ChangeMaps (open_string shut_string)
set_option linter.unusedVariables false
theorem own : ownKnob Try.prog.godebug = none := by kernel_rfl
theorem laidOut : laidOutB Try.prog = true := by kernel_rfl

/-- What the law keeps. -/
structure Ris (v : Nat → Nat) (T : Nat) : Prop where
  o : OrdM v
  t : v 0 ≤ T
theorem Ris.step {v : Nat → Nat} {T : Nat} (h : Ris v T) (i to : Int) (d : Nat) : Ris (raiseV v i to ((T + d : Nat) : Int)) (T + d) ∧ ∀ k, v k ≤ raiseV v i to ((T + d : Nat) : Int) k := by
  rcases raise_as v i to ((T + d : Nat) : Int) with e | ⟨j, y, hj, rfl, rfl, hlt, hle, e⟩
  · rw [e]; exact ⟨⟨h.o, by have := h.t; omega⟩, fun k => Nat.le_refl _⟩
  · refine ⟨⟨ord_raise h.o _ _ _, ?_⟩, fun k => ?_⟩
    · rw [e]
      unfold upM
      by_cases e0 : 0 = j
      · subst e0
        rw [if_pos rfl]
        simp [mostN] at hle
        omega
      · rw [if_neg e0]; have := h.t; omega
    · rw [e]
      unfold upM
      split
      · rename_i e0; subst e0; omega
      · exact Nat.le_refl _
theorem region_on {v u : Nat → Nat} {T U : Nat} (hv : ∀ k, v k ≤ u k) (hT : T ≤ U) (p : Nat) : regionN v p T ≤ regionN u p U := by
  have h0 := hv 0
  have h1 := hv 1
  have h3 := hv 3
  unfold regionN
  generalize v 0 = a0 at *; generalize v 1 = a1 at *; generalize v 3 = a3 at *
  generalize u 0 = b0 at *; generalize u 1 = b1 at *; generalize u 3 = b3 at *
  repeat' split
  all_goals omega
set_option maxHeartbeats 4000000 in
set_option maxRecDepth 10000 in
theorem walk (w : World) (v : Value) (o : IsAms w v) (p : Int) (hp : (Lit.int .u8 p).wf = true) :
    Calls Try.prog 4 #[v, .int .u8 p] w fun e w' => e = .returned (.bool true) ∧ Below w.heap.size w w' := by
  obtain ⟨ao, len, cap, z, rfl, hlen, hs⟩ := o
  obtain ⟨p, rfl⟩ := Int.eq_ofNat_of_zero_le (bounds_u8 hp).1
  have hp8 : (p : Int) ≤ 255 := (bounds_u8 hp).2
  have HS := hide hs
  clear hs hp
  go_enter Try.func4, Try.ntmps4
  go_wp2_with fail
  refine (awake13 _).mono ?_
  rintro e x1 ⟨rfl, b1⟩
  go_wp2_with fail
  refine (mnew _).mono ?_
  rintro e x2 ⟨t, r, b, rfl, h, ht, hr, hb, hlt, b2⟩
  replace b2 := b1.trans (b2.mono b1.size)
  have HG : Hid (w.heap.size ≤ t ∧ w.heap.size ≤ r ∧ w.heap.size ≤ b) := by have := b1.size; exact ⟨by omega, by omega, by omega⟩
  have hb2 := hide (h.row.cs 0 (by decide))
  clear b1 ht hr hb hlt
  go_wp2_with fail
  refine (mall h).mono ?_
  rintro e x3 ⟨g0, rfl, hc0, hg0, b3⟩
  replace h := h.below b3
  have hg0w : g0 ≠ b := by have := World.block_lt_of_cell? x2 _ (hb2.out); simp only at this; omega
  have hb3 := b2.trans (b3.mono b2.size)
  have hreg := mregion h (p : Int) 0
  have hris : Ris (fun _ => 0) 0 := ⟨ord_zero, Nat.le_refl _⟩
  have HB := hide hb3
  have HC := hide hc0
  clear b2 b3 hb3 hc0
  go_wp2_with fail
  refine hreg.mono ?_
  rintro e y ⟨rfl, rfl⟩
  have HH := hide h
  clear h
  go_wp2
  go_loopw [6, 7, 8, 9] (fun tl was rg i wr => ∃ (k T g : Nat) (v : Nat → Nat), k ≤ 150 ∧ k ≤ len ∧ i = .int .i64 k ∧ tl = .int .i64 T ∧ T ≤ 255 * k ∧ was = .slice (some ⟨g, 0, none⟩) 5 5 ∧ rg = .int .i64 (regionN v p T) ∧ MkAt wr t r b v ∧ Ris v T ∧ (∀ j, j < 5 → wr.cell? ⟨g, j, none⟩ = some (.int .i64 (v j : Int))) ∧ g ≠ b ∧ Below w.heap.size w wr) (fun _ _ _ i _ => len - (intOf i).toNat)
  case atStart => exact ⟨0, 0, g0, _, by omega, Nat.zero_le _, rfl, rfl, by omega, rfl, rfl, HH.out, hris, HC.out, hg0w, HB.out⟩
  case round =>
    clear HH HC HB hris hg0w hg0 hreg
    obtain ⟨k, T, g, v, hk1, hk2, rfl, rfl, hT, rfl, rfl, h, hris, hc, hgb, hbw⟩ := hrel
    by_cases hlt : k < len ∧ k < 150
    · obtain ⟨hl1, hl2⟩ := hlt
      obtain ⟨hok, bb, off, rfl, hA⟩ := HS.out.below hbw k hl1
      generalize z k = cc at *
      obtain ⟨bg, mk, to, tl⟩ := cc
      obtain ⟨-, hto, htl⟩ := hok
      simp only at hto htl
      obtain ⟨d, rfl⟩ := Int.eq_ofNat_of_zero_le htl.1
      have hd : d ≤ 255 := by omega
      obtain ⟨e0, e1, e2, e3⟩ := hA
      simp only at e0 e1 e2 e3
      obtain ⟨hstep, hup⟩ := hris.step mk to d
      obtain ⟨U, hU⟩ : ∃ U, U = T + d := ⟨_, rfl⟩
      rw [← hU] at hstep hup
      have hTU : (T : Int) + (d : Int) = (U : Int) := by omega
      have hUb : U ≤ 255 * (k + 1) := by omega
      have hon := region_on hup (show T ≤ U by omega) p
      have hr : ∀ kk, Calls Try.prog 10 #[.pointer (some ⟨t, 0, none⟩), .int .i64 mk, .int .i64 to, .int .i64 (U : Int)] (wr.drewN kk) fun e w' => e = .returned (.int .i64 (raiseE v mk to (U : Int))) ∧ MkAt w' t r b (raiseV v mk to (U : Int)) ∧ Keeps (fun k => k = b) (wr.drewN kk) w' := fun kk => mraise (h.drew kk) mk to (U : Int) hto.2
      have hbb : bb ≠ b := by
        obtain ⟨-, b', off', e', hA'⟩ := HS.out k hl1
        cases e'
        have := hA'.lt
        have := HG.out
        omega
      have HU := hide hU
      have HC := hide hc
      have HW := hide hbw
      have HUP := hide hup
      generalize raiseV v mk to (U : Int) = u at *
      generalize raiseE v mk to (U : Int) = re at *
      generalize hR0 : regionN v p T = R0 at *
      clear hU hc hbw hup hris h hR0
      have i0 : (0 : Int) ≤ (k : Int) := by omega
      have hl4 : bb < wr.heap.size := World.block_lt_of_cell? wr _ e0
      go_wp2
      go_region_held3 (fun W => W.cell? ⟨bb, off + k * 4 + 1, none⟩ = some (.int .i64 mk) ∧ W.cell? ⟨bb, off + k * 4 + 2, none⟩ = some (.int .i64 to)) (first | assumption | go_keep) (first | (go_at_call 10; refine (hr _).mono ?_; rintro e y1 ⟨rfl, h1, k1⟩; have q1 : y1.cell? ⟨bb, off + k * 4 + 1, none⟩ = some (.int .i64 mk) ∧ y1.cell? ⟨bb, off + k * 4 + 2, none⟩ = some (.int .i64 to) := ⟨(k1.cell hl4 hbb).trans e1, (k1.cell hl4 hbb).trans e2⟩))
      have hw1 : Below w.heap.size w y1 := (below_drewN HW.out 1).trans (k1.below (below_drewN HW.out 1).size (fun k hk => by have := HG.out; omega))
      have hc1 : ∀ j, j < 5 → y1.cell? ⟨g, j, none⟩ = some (.int .i64 (v j : Int)) := fun j hj => (k1.cell (World.block_lt_of_cell? wr _ (HC.out j hj)) hgb).trans (HC.out j hj)
      clear hr e0 e1 e2 e3 q1 k1 HW HC
      go_wp2_with fail
      refine (mall h1).mono ?_
      rintro e y2 ⟨g1, rfl, hc2, hg1, b2⟩
      have hw2 : Below w.heap.size w y2 := hw1.trans (b2.mono hw1.size)
      have h2 := h1.below b2
      have hgg : g1 ≠ b := by have := World.block_lt_of_cell? y1 _ (h1.row.cs 0 (by decide)); simp only at this; omega
      have hc3 : ∀ j, j < 5 → y2.cell? ⟨g, j, none⟩ = some (.int .i64 (v j : Int)) := fun j hj => (b2.cell (World.block_lt_of_cell? y1 _ (hc1 j hj))).trans (hc1 j hj)
      have hc0 := hc2 0 (by decide)
      have hu0 : ((u 0 : Nat) : Int) ≤ (U : Int) := by have := hstep.t; omega
      have HO : Hid (∀ j, 0 < j → j < 5 → u j ≤ u (j - 1)) := fun j h0 h5 => by
        obtain ⟨o1, o2, o3, o4⟩ := hstep.o
        have hj : j = 1 ∨ j = 2 ∨ j = 3 ∨ j = 4 := by omega
        rcases hj with rfl | rfl | rfl | rfl <;> simpa
      have hreg : ∀ q, Calls Try.prog 15 #[.pointer (some ⟨t, 0, none⟩), .int .i64 (p : Int), .int .i64 (U : Int)] (y2.drewN q) fun e w' => e = .returned (.int .i64 (regionN u p U)) ∧ w' = y2.drewN q := fun q => mregion (h2.drew q) (p : Int) (U : Int)
      have HST := hide hstep
      have H2 := hide h2
      have HC2 := hide hc2
      have HC3 := hide hc3
      have HW2 := hide hw2
      obtain ⟨q0, hq0⟩ : ∃ q0, q0 = u 0 := ⟨_, rfl⟩
      rw [← hq0] at hu0 hc0
      obtain ⟨R1, hR1⟩ : ∃ R1, R1 = regionN u p U := ⟨_, rfl⟩
      rw [← hR1] at hreg hon
      have HR1 := hide hR1
      clear hc1 h1 hw1 hg1 b2 hstep h2 hc2 hc3 hw2 hq0 hR1
      go_wp2
      go_loopw [11] (fun i wr => ∃ j q : Nat, j ≤ 5 ∧ i = .int .i64 j ∧ wr = y2.drewN q) (fun i _ => 5 - (intOf i).toNat)
      case atStart => exact ⟨0, 0, Nat.zero_le _, rfl, rfl⟩
      case round =>
        obtain ⟨j, q, hj, rfl, rfl⟩ := hrel
        clear hc0 hu0
        by_cases hj5 : j < 5
        · have n0 := HC2.out j hj5
          have w0 := HC3.out j hj5
          have hvu : v j ≤ u j := HUP.out j
          have d0 : decide (u j < v j) = false := by simp; omega
          by_cases hj0 : 0 < j
          · have n1 := HC2.out (j - 1) (by omega)
            have hle := HO.out j hj0 hj5
            have d1 : decide (u (j - 1) < u j) = false := by simp; omega
            have d2 : decide (0 < j) = true := by simp; omega
            have hx : (j : Int) - 1 = ((j - 1 : Nat) : Int) := by omega
            have hq : j - 1 < 5 := by omega
            generalize u (j - 1) = un at *
            generalize j - 1 = q at *
            generalize u j = uj at *
            generalize v j = vj at *
            clear hvu hle
            go_wp2
            go_quiet (fail)
            go_wp2
            go_roundw
            case rel => exact ⟨j + 1, _, by omega, by go_num, rfl⟩
            case measure => simp [intOf]; omega
          · have hjz : j = 0 := by omega
            subst hjz
            generalize u 0 = uj at *
            generalize v 0 = vj at *
            clear hvu
            go_wp2
            go_quiet (fail)
            go_wp2
            go_roundw
            case rel => exact ⟨1, _, by omega, by go_num, rfl⟩
            case measure => simp [intOf]
        · go_wp2_with fail
          refine (hreg q).mono ?_
          rintro e y3 ⟨rfl, rfl⟩
          go_wp2
          go_roundw
          case rel => exact ⟨k + 1, U, g1, u, by omega, by omega, by go_num, rfl, hUb, rfl, by rw [HR1.out], H2.out.drew _, HST.out, HC2.out, hgg, below_drewN HW2.out _⟩
          case measure => simp [intOf]; omega
    · go_wp2
      all_goals
        go_ret
        exact ⟨rfl, hbw⟩

set_option maxRecDepth 100000 in
theorem lifted (os : Os) (started : os.Started) (H : Type) (enc : TypeId × Value → H) :
    ReturnsInHanded {} Try.checked os 4 .any (Rows.marksRiseSpec.pre6 enc Try.prog Try.f4 Rows.marksRiseRow.domain false) (Rows.marksRiseSpec.post enc Try.prog Try.f4 false true false false) := by
  refine returnsInHanded_of_change (C := Try.checked) own started (by kernel_rfl) Try.func4
    (ChangeSpec.witness6 (enc := enc) (C := Try.checked) false ⟨#[], #[.slice none 0 0, .int .u8 0], []⟩ 8 (by kernel_rfl) (by kernel_rfl) (by kernel_rfl) (by kernel_rfl)) ?_
  intro W base args ds gs before hval0 hW hcnd _
  have hval : ∀ (j : Nat) t v, Try.f4.params[j]? = some t → args[j]? = some v → Value.okWide Try.prog W .any base t v := hval0
  have hW' := hW
  obtain ⟨p, q, hA0, hV, rfl, hfz, hnd⟩ := hW
  have hA : DataW.TrodAll enc Try.prog W 0 (fun _ => true) true Try.f4.params.toList args.toList ds p := hA0
  rw [Try.params4] at hA hval
  obtain ⟨v0, vs0, d0, ds0, p0, q0, hargs, rfl, rfl, h0, r0⟩ := trodAll_cons hA
  obtain ⟨v1, vs1, d1, ds1, p1, q1, rfl, rfl, rfl, h1, r1⟩ := trodAll_cons r0
  obtain ⟨rfl, rfl, rfl⟩ := trodAll_nil r1
  obtain rfl : args = #[v0, v1] := by cases args; simp_all
  obtain ⟨rfl, rfl⟩ := trodVars_none hV
  have k0 := h0
  have lt0 : ∀ x ∈ p0, x.block < W.heap.size := by obtain ⟨m, hm⟩ := k0; exact DataW.trod_lt m _ _ _ hm
  have o0 := open_Ams (hval 0 22 v0 rfl rfl) h0
  obtain ⟨a1, rfl, rfl, rfl, w1⟩ := open_int Try.underlying5 (hval 1 5 v1 rfl rfl) h1
  clear hA0 hval0
  refine (walk W v0 o0 a1 w1).mono fun e W' ⟨he, bel⟩ => ?_
  subst he
  exact ⟨_, rfl, _, _, _, [], _, [], hW', trodAll_mk1 (shut_bool Try.underlying4 _), (trodAll_cons_mk (Below.trod laidOut (by kernel_rfl) (of_decide_eq_true (by kernel_rfl)) k0 bel lt0) (trodAll_cons_mk (shut_int Try.underlying5 w1) trodAll_mk0)), rfl, bel.frame _, fun h => by cases h⟩

theorem over : Rows.marksRiseRow.holds Try.pinned (OpenSpec.ofChange Rows.marksRiseSpec) :=
  OpenClaim.holds_of_wide 4 Try.f4 rfl rfl rfl rfl rfl rfl rfl ⟨rfl, rfl, rfl, rfl, rfl⟩ rfl rfl rfl rfl rfl (by kernel_rfl) Try.func4 (by kernel_rfl)
    (of_decide_eq_true (by kernel_rfl)) (by unfold Func.isWrapper; first | (rw [if_pos (by decide +kernel)]; kernel_rfl) | (rw [if_neg (by decide +kernel)]; exact ⟨rfl, rfl⟩))
    (fun os started H enc _ => lifted os started H enc)

theorem proved : Rows.MarksRiseSaid := over
#print axioms proved

end Go.Proofs.Ytpnomcaionodjaa.marksRise
