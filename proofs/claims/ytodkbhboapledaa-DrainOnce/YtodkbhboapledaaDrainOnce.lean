/- Whatever the input, haycroftlaw07.DrainOnce returns true and changes no argument. Conditions: none. -/
import Derived.Test.YtodkbhboapledaaZg
import Derived.Test.YtodkbhboapledaaRows
import Derived.WalkKit
import Derived.ProofKit
import Derived.OpenShut
import Derived.ShutString
import Derived.ChangeOld
import Derived.Below
import Derived.ChangeSame
namespace Go.Proofs.Ytodkbhboapledaa.drainOnce
open Go.ChangeShapes Go.WideShapes Go.ChangeAt Go.RowKit
open Go.ChangeMaps (open_string shut_string)
set_option linter.unusedVariables false
theorem own : ownKnob Try.prog.godebug = none := by kernel_rfl
theorem laidOut : laidOutB Try.prog = true := by kernel_rfl

set_option maxHeartbeats 2000000 in
theorem walk (w : World) (v : Value) (o : IsAs w v) (u : Value) (q : IsU8s w u) :
    Calls Try.prog 4 #[v, u] w fun e w' => e = .returned (.bool true) ∧ Below w.heap.size w w' := by
  obtain ⟨ao, len, cap, z, rfl, hlen, hs⟩ := o
  obtain ⟨so, slen, scap, y, rfl, hslen, hy, hyb⟩ := q
  have HS := hide hs
  have HY := hide hy
  have HYB := hide hyb
  clear hs hy hyb
  go_enter Try.func4, Try.ntmps4
  go_wp2_with fail
  refine (awake7_any _).mono ?_
  rintro e x1 ⟨rfl, b1⟩
  go_wp2_with fail
  refine (low_new _).mono ?_
  rintro e x2 ⟨t, rfl, h2, b2⟩
  have hb2 := b1.trans (b2.mono b1.size)
  have hB : w.heap.size ≤ x1.heap.size := b1.size
  generalize x1.heap.size = B at *
  clear b1 b2
  go_wp2
  go_loopw [6, 7] (fun c i wr => ∃ k : Nat, k ≤ 16 ∧ i = .int .i64 k ∧ c = .int .i64 k ∧ DrLow wr B t (takeZ z k) ∧ Below w.heap.size w wr)
    (fun _ i _ => 16 - (intOf i).toNat)
  case atStart => exact ⟨0, by decide, rfl, rfl, h2, hb2⟩
  case round =>
    clear h2 hb2
    obtain ⟨k, hk, rfl, rfl, hd, hbel⟩ := hrel
    have hs := HS.out.below hbel
    by_cases hlt : k < len ∧ k < 16
    · obtain ⟨h16, h16'⟩ := hlt
      obtain ⟨b, off, rfl, c1, c2, c3⟩ := hs k h16
      have e1 : putE (takeZ z k) = 0 := by simp [putE, takeZ_length, h16']
      have e2 : putL (takeZ z k) (z k) = takeZ z (k + 1) := by simp [putL, takeZ_length, takeZ_succ, h16']
      have hp := low_put hd (z k)
      rw [e1, e2] at hp
      unfold A3.val at hp
      clear hs hd
      generalize hz : z k = a at *
      obtain ⟨ae, ak, ap⟩ := a
      clear e1 e2
      simp only at c1 c2 c3 hp
      go_wp2_with fail
      refine hp.mono ?_
      rintro e x3 ⟨rfl, h3, b3⟩
      have hb3 := hbel.trans (b3.mono hB)
      clear b3 hp c1 c2 c3 hz
      go_wp2
      go_roundw
      case rel => exact ⟨k + 1, by omega, by go_num, by go_num, h3, hb3⟩
      case measure => simp [intOf]; omega
    · have hlk : (takeZ z k).length = k := takeZ_length z k
      generalize takeZ z k = L at *
      clear hs HS
      have hx : ¬ k < len ∨ (k < len ∧ ¬ k < 16) := by omega
      clear hlt
      rcases hx with h1 | ⟨h1, h2⟩
      all_goals
        go_wp2
        go_loopw [8, 9, 10] (fun sf td i wr2 => ∃ (q : Nat) (l : List A3) (s r : Int), q ≤ 100 ∧ i = .int .i64 q ∧ sf = .int .u64 s ∧ td = .int .i64 r ∧ r + (l.length : Int) = k ∧ 0 ≤ r ∧ 0 ≤ s ∧ s ≤ 255 * q ∧ (0 < q → ∀ a ∈ l, s < a.e) ∧ DrLow wr2 B t l ∧ Below w.heap.size w wr2)
          (fun _ _ i _ => 100 - (intOf i).toNat)
        case atStart => exact ⟨0, L, 0, 0, by decide, rfl, rfl, rfl, by omega, by decide, by decide, by decide, fun h => absurd h (by decide), hd, hbel⟩
        case round =>
          clear hd hbel hlk
          obtain ⟨q, l, s, r, hq, rfl, rfl, rfl, hr, hr0, hs0, hs1, habove, hd, hbel⟩ := hrel
          by_cases hlt : q < slen ∧ q < 100
          · obtain ⟨hq1, hq2⟩ := hlt
            have hyb := HYB.out q hq1
            obtain ⟨b, off, rfl, c1⟩ := HY.out.below hbel q hq1
            replace c1 : wr.cell? ⟨b, off + q, none⟩ = some (.int .u8 (y q)) := c1
            generalize y q = yq at *
            have hp := low_ready hd (by omega) (s + yq)
            have hrr := ready_rest_length (s + yq) l
            have HG := hide (fun i (h : i < (readyL (s + yq) l).length) => readyL_get (s + yq) l i h)
            have HA := hide (restL_above (s + yq) l)
            have HB := hide habove
            clear habove hd
            generalize hR : readyL (s + yq) l = R at *
            generalize hT : restL (s + yq) l = T at *
            go_wp2_with fail
            refine hp.mono ?_
            rintro e x3 ⟨ro, rcap, rfl, ha, h3, b3⟩
            have hb3 := hbel.trans (b3.mono hB)
            clear b3 hp c1
            generalize hm : R.length = m at *
            go_wp2
            go_loop [13] (fun i => ∃ j : Nat, j ≤ m ∧ i = .int .i64 j)
              (fun i => m - (intOf i).toNat)
            case atStart => exact ⟨0, Nat.zero_le _, rfl⟩
            case round =>
              obtain ⟨j, hj, rfl⟩ := hrel
              by_cases hjm : j < m
              · obtain ⟨b2, off2, rfl, d1, -, -⟩ := ha j hjm
                obtain ⟨g1, g2⟩ := HG.out j hjm
                have g3 : q = 0 ∨ (0 < q ∧ s < (getL R j).e) := by
                  rcases Nat.eq_zero_or_pos q with h | h
                  · exact .inl h
                  · exact .inr ⟨h, HB.out h _ g2⟩
                clear g2
                generalize getL R j = aj at *
                obtain ⟨ae, ak, ap⟩ := aj
                simp only at g1 g3 d1
                rcases g3 with g3 | ⟨g3, g4⟩
                · subst g3
                  go_wp2
                  go_round
                  case rel => exact ⟨j + 1, by omega, by go_num⟩
                  case measure => simp [intOf]; omega
                · go_wp2
                  go_round
                  case rel => exact ⟨j + 1, by omega, by go_num⟩
                  case measure => simp [intOf]; omega
              · have e : j = m := by omega
                subst e
                clear ha HG hR hT hm
                go_wp2
                go_roundw
                case rel => exact ⟨q + 1, T, s + yq, r + j, by omega, by go_num, by go_num, by go_num, by omega, by omega, by omega, by omega, fun _ => HA.out, h3, hb3⟩
                case measure => simp [intOf]; omega
          · have hlen' := low_len hd
            have hx : ¬ q < slen ∨ (q < slen ∧ ¬ q < 100) := by omega
            clear hlt habove
            rcases hx with h3 | ⟨h3, h4⟩
            all_goals
              go_wp2_with fail
              refine hlen'.mono ?_
              rintro e x4 ⟨rfl, rfl⟩
              generalize l.length = ll at *
              clear hlen' hd
              have hsum : (r + (ll : Int) == (k : Int)) = true := by simp; omega
              go_wp2
              go_ret
              exact ⟨rfl, hbel⟩

set_option maxRecDepth 100000 in
theorem lifted (os : Os) (started : os.Started) (H : Type) (enc : TypeId × Value → H) :
    ReturnsInHanded {} Try.checked os 4 .any (Rows.drainOnceSpec.pre6 enc Try.prog Try.f4 Rows.drainOnceRow.domain false) (Rows.drainOnceSpec.post enc Try.prog Try.f4 false true false false) := by
  refine returnsInHanded_of_change (C := Try.checked) own started (by kernel_rfl) Try.func4
    (ChangeSpec.witness6 (enc := enc) (C := Try.checked) false ⟨#[], #[.slice none 0 0, .slice none 0 0], []⟩ 8 (by kernel_rfl) (by kernel_rfl) (by kernel_rfl) (by kernel_rfl)) ?_
  intro W base args ds gs before hval0 hW hcnd _
  have hval : ∀ (j : Nat) t v, Try.f4.params[j]? = some t → args[j]? = some v → Value.okWide Try.prog W .any base t v := hval0
  have hW' := hW
  obtain ⟨p, q, hA0, hV, rfl, hfz, hnd⟩ := hW
  have hA : DataW.TrodAll enc Try.prog W 0 (fun _ => true) true Try.f4.params.toList args.toList ds p := hA0
  rw [Try.params4] at hA hval
  obtain ⟨v0, vs0, d0, ds0, p0, q0, hargs, rfl, rfl, h0, r0⟩ := trodAll_cons hA
  obtain ⟨v1, vs1, d1, ds1, p1, q1, rfl, rfl, rfl, h1, r1⟩ := trodAll_cons r0
  obtain ⟨rfl, rfl, rfl⟩ := trodAll_nil r1
  obtain rfl : args = #[v0, v1] := by cases args; simp_all
  obtain ⟨rfl, rfl⟩ := trodVars_none hV
  have k0 := h0
  have lt0 : ∀ x ∈ p0, x.block < W.heap.size := by obtain ⟨m, hm⟩ := k0; exact DataW.trod_lt m _ _ _ hm
  have o0 := open_actions (hval 0 27 v0 rfl rfl) h0
  have k1 := h1
  have lt1 : ∀ x ∈ p1, x.block < W.heap.size := by obtain ⟨m, hm⟩ := k1; exact DataW.trod_lt m _ _ _ hm
  have o1 := open_u8s (hval 1 44 v1 rfl rfl) h1
  clear hA0 hval0
  refine (walk W v0 o0 v1 o1).mono fun e W' ⟨he, bel⟩ => ?_
  subst he
  exact ⟨_, rfl, _, _, _, [], _, [], hW', trodAll_mk1 (shut_bool Try.underlying4 _), (trodAll_cons_mk (Below.trod laidOut (by kernel_rfl) (of_decide_eq_true (by kernel_rfl)) k0 bel lt0) (trodAll_cons_mk (Below.trod laidOut (by kernel_rfl) (of_decide_eq_true (by kernel_rfl)) k1 bel lt1) trodAll_mk0)), rfl, bel.frame _, fun h => by cases h⟩

theorem over : Rows.drainOnceRow.holds Try.pinned (OpenSpec.ofChange Rows.drainOnceSpec) :=
  OpenClaim.holds_of_wide 4 Try.f4 rfl rfl rfl rfl rfl rfl rfl ⟨rfl, rfl, rfl, rfl, rfl⟩ rfl rfl rfl rfl rfl (by kernel_rfl) Try.func4 (by kernel_rfl)
    (of_decide_eq_true (by kernel_rfl)) (by unfold Func.isWrapper; first | (rw [if_pos (by decide +kernel)]; kernel_rfl) | (rw [if_neg (by decide +kernel)]; exact ⟨rfl, rfl⟩))
    (fun os started H enc _ => lifted os started H enc)

theorem proved : Rows.DrainOnceSaid := over
#print axioms proved

end Go.Proofs.Ytodkbhboapledaa.drainOnce
