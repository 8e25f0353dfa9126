/- Whatever the input, haycroftlaw12.PagesFew returns true and changes no argument. Conditions: none. -/
import Derived.Test.YtkikfbndcaojjaaQm
import Derived.Test.YtkikfbndcaojjaaRows
import Derived.WalkKit
import Derived.ProofKit
import Derived.OpenShut
import Derived.ShutString
import Derived.ChangeOld
import Derived.Below
import Derived.ChangeSame
namespace Go.Proofs.Ytkikfbndcaojjaa.pagesFew
open Go.ChangeShapes Go.WideShapes Go.ChangeAt Go.RowKit
open Go.ChangeMaps (open_string shut_string)
set_option linter.unusedVariables false
theorem own : ownKnob Try.prog.godebug = none := by kernel_rfl
theorem laidOut : laidOutB Try.prog = true := by kernel_rfl

theorem walk_no (bits frames : Int) (ao : Option Addr) (len cap : Nat) (page : Int) (w : World) (h : mayB bits = false ∨ frames < 2 ∨ 8 < frames) :
    Calls Try.prog 4 #[.int .i64 bits, .int .i64 frames, .slice ao len cap, .int .i64 page] w fun e w' => e = .returned (.bool true) ∧ Below w.heap.size w w' := by
  have h' : ¬ (5 ≤ bits ∧ bits ≤ 9) ∨ frames < 2 ∨ 8 < frames := by
    rcases h with h | h
    · left; simpa [mayB] using h
    · exact .inr h
  go_enter Try.func4, Try.ntmps4
  go_wp2_with fail
  refine (awake12 _).mono ?_
  rintro e x1 ⟨rfl, b1⟩
  go_wp2_with fail
  refine (pb_new_no bits frames h _).mono ?_
  rintro e x2 ⟨rfl, rfl⟩
  go_wp2_with fail
  refine (rb_new_no bits frames h' _).mono ?_
  rintro e x3 ⟨rfl, rfl⟩
  clear h h'
  go_wp2
  go_ret
  exact ⟨rfl, b1⟩
set_option maxHeartbeats 8000000 in
set_option maxRecDepth 10000 in
theorem walk_yes (bits : Int) (n : Nat) (hb : 5 ≤ bits ∧ bits ≤ 9) (hn : 2 ≤ n ∧ n ≤ 8) (ao : Option Addr) (len cap : Nat) (z : Nat → AcP) (page : Int) (hpm : page ≤ 9223372036854775807) (w : World) (hlen : len ≤ 9223372036854775807) (hs : ActsP w ao len z) :
    Calls Try.prog 4 #[.int .i64 bits, .int .i64 (n : Int), .slice ao len cap, .int .i64 page] w fun e w' => e = .returned (.bool true) ∧ Below w.heap.size w w' := by
  obtain ⟨ii, hii, hy0, hy1, hy2⟩ := info_parts Try.infoW64
  have HS := hide hs
  have hz : ((n : Int) == 0) = false := by simp; omega
  clear hs
  go_enter Try.func4, Try.ntmps4
  go_wp2_with fail
  refine (awake12s _).mono ?_
  rintro e x1 ⟨rfl, b1, l1⟩
  go_wp2_with fail
  refine (pb_new_yes bits n hb hn _).mono ?_
  rintro e x2 ⟨t, rfl, hp, b2⟩
  go_wp2_with fail
  refine (rb_new_yes bits n hb hn (fun _ _ => 0) _).mono ?_
  rintro e x3 ⟨rfl, hr, hs3, b3⟩
  have HR0 := hide (bo_made b1.size l1 hp hr b3 hs3 b2.size)
  have HB0 := hide ((b1.trans (b2.mono b1.size)).trans (b3.mono (Nat.le_trans b1.size b2.size)))
  clear hp hr hs3 b1 b2 b3 l1
  generalize x2.heap.size = m at *
  go_wp2
  go_loopw [13] (fun vi wr => ∃ (k D : Nat) (F : Nat → Option Pg) (K : List (Nat × Nat)) (V : Nat → Nat → Int), k ≤ 100 ∧ vi = .int .i64 k ∧ Bo w.heap.size D t m n bits k F K V wr ∧ Below w.heap.size w wr) (fun vi _ => 100 - (intOf vi).toNat)
  case atStart => exact ⟨0, _, _, _, _, by decide, rfl, HR0.out, HB0.out⟩
  case round =>
    clear HR0 HB0
    obtain ⟨k, D, F, K, V, hk, rfl, hR, hbw⟩ := hrel
    by_cases hlt : k < len ∧ k < 100
    · obtain ⟨h16, h17⟩ := hlt
      obtain ⟨hx0, b, off, rfl, hA0⟩ := HS.out k h16
      have lb := hA0.lt
      have hA := hA0.keep (Below.keeps (S := fun j => w.heap.size ≤ j) hbw) (by omega)
      have hx : AcPOk wr (z k) := hx0.below hbw
      have hlow : 0 < (z k).ll → ∀ g off, (z k).lo = some ⟨g, off, none⟩ → g < w.heap.size := fun h0 g off e => by
        obtain ⟨g', off', e', q⟩ := hx0.sl 0 h0
        rw [e] at e'
        cases e'
        exact World.block_lt_of_cell? w _ q
      have hdo := law_does12 hR (z k) hx (by omega) hlow
      unfold DoesE at hdo
      have HBW := hide hbw
      generalize z k = cc at *
      obtain ⟨kd, pg, a, nn, old, wd, lo, ll, lc, zz⟩ := cc
      obtain ⟨e0, e1, e2, e3, e4, e5, e6⟩ := hA
      simp only at e0 e1 e2 e3 e4 e5 e6 hdo
      have i0 : (0 : Int) ≤ (k : Int) := by omega
      have i1 : (k : Int) < (len : Int) := by omega
      clear hR hbw hx hx0 hA0 hlow
      go_wp2_with fail
      refine hdo.mono ?_
      rintro e y1 ⟨rfl, ⟨D1, F1, K1, V1, hB1⟩, bl1⟩
      clear e0 e1 e2 e3 e4 e5 e6 hdo
      go_wp2_with fail
      refine (in_is hB1).mono ?_
      rintro e y2 ⟨ai, ci, rfl, sl, bl2⟩
      have hB2 := hB1.below bl2
      have hw2 : Below w.heap.size w y2 := (HBW.out.trans bl1).trans (bl2.mono hB1.size)
      have HW : Hid (∀ q, Below w.heap.size w (y2.drewN q)) := fun q => below_drewN hw2 q
      have HF : Hid (∀ q, Bo w.heap.size D1 t m n bits (k + 1) F1 K1 V1 (y2.drewN q)) := fun q => hB2.below (below_drewN (Below.refl _ _) q)
      obtain ⟨S, M, vl, hh, l⟩ := hB2
      have hfew : ¬ n < K1.length := by have := l.few; omega
      have HP : Hid (∀ i j, i < j → j < K1.length → (getK K1 i).1 % n ≠ (getK K1 j).1 % n) := fun i j h1 h2 => l.apart h1 h2
      have HC := hide sl
      clear hB1 hh sl l bl1 bl2 HBW hw2
      generalize hL : K1.length = L at *
      have hL8 : L ≤ 8 := by omega
      clear hL
      go_wp2
      go_loopw [15] (fun vi wr => ∃ (i q : Nat), i ≤ L ∧ vi = .int .i64 i ∧ wr = y2.drewN q) (fun vi _ => L - (intOf vi).toNat)
      case atStart => exact ⟨0, 0, Nat.zero_le _, rfl, rfl⟩
      case round =>
        obtain ⟨i, q, hi, rfl, rfl⟩ := hrel
        by_cases hil : i < L
        · go_wp2
          go_loopw [16] (fun vi wr => ∃ (j q : Nat), j ≤ i ∧ vi = .int .i64 j ∧ wr = y2.drewN q) (fun vi _ => L - (intOf vi).toNat)
          case atStart => exact ⟨0, _, Nat.zero_le _, rfl, rfl⟩
          case round =>
            obtain ⟨j, q, hj, rfl, rfl⟩ := hrel
            by_cases hji : j < i
            · obtain ⟨bi, oi, rfl, q1⟩ := HC.out i hil
              obtain ⟨bj, oj, e', q2⟩ := HC.out j (by omega)
              cases e'
              replace q1 : y2.cell? ⟨bi, oi + i, none⟩ = some (.int .i64 ((getK K1 i).1 : Int)) := q1
              replace q2 : y2.cell? ⟨bi, oi + j, none⟩ = some (.int .i64 ((getK K1 j).1 : Int)) := q2
              have hne := HP.out j i hji hil
              obtain ⟨ri, hri⟩ : ∃ r, r = (getK K1 i).1 % n := ⟨_, rfl⟩
              obtain ⟨rj, hrj⟩ : ∃ r, r = (getK K1 j).1 % n := ⟨_, rfl⟩
              have hmi : ((getK K1 i).1 : Int) % (n : Int) = (ri : Int) := by rw [hri]; simp
              have hmj : ((getK K1 j).1 : Int) % (n : Int) = (rj : Int) := by rw [hrj]; simp
              have hX : ((rj : Int) == (ri : Int)) = false := by simp; omega
              clear hri hrj hne
              generalize (getK K1 i).1 = pi at *
              generalize (getK K1 j).1 = pj at *
              have u0 : (0 : Int) ≤ (i : Int) := by omega
              have u1 : (i : Int) < (L : Int) := by omega
              have u2 : (0 : Int) ≤ (j : Int) := by omega
              have u3 : (j : Int) < (L : Int) := by omega
              go_wp2
              go_quiet (fail)
              go_wp2
              go_roundw
              case rel => exact ⟨j + 1, _, by omega, by go_num, rfl⟩
              case measure => simp [intOf]; omega
            · go_wp2
              go_roundw
              case rel => exact ⟨i + 1, _, by omega, by go_num, rfl⟩
              case measure => simp [intOf]; omega
        · go_wp2
          go_roundw
          case rel => exact ⟨k + 1, _, _, _, _, by omega, by go_num, HF.out _, HW.out _⟩
          case measure => simp [intOf]; omega
    · have hx : ¬ k < len ∨ (k < len ∧ ¬ k < 100) := by omega
      clear hlt HS
      by_cases hneg : page < 0
      · have ho := pb_open_neg t page hneg wr
        have HB := hide hbw
        clear hR hbw
        rcases hx with h3 | ⟨h3, h4⟩
        all_goals
          go_wp2_with fail
          refine ho.mono ?_
          rintro e y ⟨rfl, rfl⟩
          go_wp2
          go_ret
          exact ⟨rfl, HB.out⟩
      obtain ⟨P, rfl⟩ := Int.eq_ofNat_of_zero_le (show 0 ≤ page by omega)
      obtain ⟨S, M, vl, hh, l⟩ := hR
      have HIN := hide (in_at hh l)
      have hfew := l.few
      obtain ⟨pq, hpq⟩ : ∃ pq, pq = P % n := ⟨_, rfl⟩
      have hmp : (P : Int) % (n : Int) = (pq : Int) := by rw [hpq]; simp
      have HPQ := hide hpq
      have HL := hide l
      have HH := hide hh
      have HBW := hide hbw
      have hP0 : ¬ (P : Int) < 0 := by omega
      clear hpq l hh hbw hneg
      generalize hL : K.length = L at *
      have HLL := hide hL
      have hL8 : L ≤ 8 := by omega
      clear hL hfew
      rcases hx with h3 | ⟨h3, h4⟩
      all_goals
        go_wp2_with fail
        refine HIN.out.mono ?_
        rintro e y ⟨ai, ci, rfl, bl2, hsl⟩
        have HC : Hid (∀ W, Keeps S y W → ∀ j, j < L → ∃ b off, ai = some ⟨b, off, none⟩ ∧ W.cell? ⟨b, off + j, none⟩ = some (.int .i64 ((getK K j).1 : Int)) ∧ ¬ S b) := fun W hW j hj => by
          obtain ⟨b, off, e, h1, h2⟩ := hsl j hj
          have hnS : ¬ S b := fun hs => by have := (HH.out.sb b hs).2.1; omega
          exact ⟨b, off, e, by rw [hW.cell (World.block_lt_of_cell? _ _ h2) hnS]; exact h2, hnS⟩
        have HP0 := hide (HH.out.below bl2).pb
        have HB2 : Hid (∀ W, Keeps S y W → Below w.heap.size w W) := fun W hW => (HBW.out.trans (bl2.mono HH.out.size)).trans (hW.below (Nat.le_trans HH.out.size bl2.size) (fun k hk => (HH.out.sb k hk).1))
        have HSY : Hid (∀ k, S k → k < y.heap.size) := fun k hk => Nat.lt_of_lt_of_le (HH.out.sb k hk).2.1 bl2.size
        clear hsl bl2 HIN HBW
        go_wp2
        go_loopw [18] (fun vi W => ∃ (j : Nat) (F' : Nat → Option Pg), j ≤ L ∧ vi = .int .i64 j ∧ PB W S t n bits k F' ∧ Keeps S y W ∧ Cl n P F F' K j) (fun vi _ => L - (intOf vi).toNat)
        case atStart => exact ⟨0, F, Nat.zero_le _, rfl, HP0.out, Keeps.refl _ _, Cl.start _ _ _ _⟩
        case round =>
          clear HP0
          obtain ⟨j, F', hj, rfl, hpb, hkp, hcl⟩ := hrel
          by_cases hjl : j < L
          · obtain ⟨bi, oi, rfl, q1, hnS⟩ := HC.out wr hkp j hjl
            obtain ⟨r, hr⟩ : ∃ r, r = (getK K j).1 % n := ⟨_, rfl⟩
            have hmk : ((getK K j).1 : Int) % (n : Int) = (r : Int) := by rw [hr]; simp
            have u0 : (0 : Int) ≤ (j : Int) := by omega
            have u1 : (j : Int) < (L : Int) := by omega
            by_cases e : r = pq
            · have he : (getK K j).1 % n = P % n := by rw [← hr, e, HPQ.out]
              obtain ⟨v, hv⟩ := hcl.there HL.out (by rw [HLL.out]; exact hjl) he
              have bd := below_drewN (Below.refl wr.heap.size wr) 1
              obtain ⟨fb, g, o, hp⟩ := hpb.below bd
              have hclose := pb_close_yes hp (getK K j).1 v hv
              have HN : Hid (∀ W, PB W S t n bits k (updF F' ((getK K j).1 % n) none) → Keeps S (wr.drewN 1) W → Keeps S y W ∧ Cl n P F (updF F' ((getK K j).1 % n) none) K (j + 1)) := fun W h1 h2 => ⟨(hkp.drewN 1).trans h2 (fun _ _ t => t), Cl.shut he⟩
              have q1' : (wr.drewN 1).cell? ⟨bi, oi + j, none⟩ = some (.int .i64 ((getK K j).1 : Int)) := q1
              subst e
              have hX : ((r : Int) == (r : Int)) = true := by simp
              have z1 : ¬ n = 0 := by omega
              have z2 : ¬ (n : Int) = 0 := by omega
              have z3 : ((getK K j).1 : Int).tmod (n : Int) = (r : Int) := by rw [Int.tmod_eq_emod_of_nonneg (by omega)]; exact hmk
              have z4 : (P : Int).tmod (n : Int) = (r : Int) := by rw [Int.tmod_eq_emod_of_nonneg (by omega)]; exact hmp
              have z0 : r < n := by rw [hr]; exact Nat.mod_lt _ (by omega)
              have z5 : IntKind.i64.wrap (r : Int) = (r : Int) := IntWalk.i64_in _ (by clear z3 z4; omega)
              have HQ1 : Hid (∀ W, Keeps S (wr.drewN 1) W → W.cell? ⟨bi, oi + j, none⟩ = some (.int .i64 ((getK K j).1 : Int))) := fun W hW => by rw [hW.cell (World.block_lt_of_cell? _ _ q1') hnS]; exact q1'
              clear hr he hv hp bd hcl hkp hpb hnS
              generalize (getK K j).1 = p at *
              go_wp2
              go_region_held3 (fun W => W.cell? ⟨bi, oi + j, none⟩ = some (.int .i64 (p : Int))) (first | assumption | go_keep) (first | (go_at_call 16; refine hclose.mono ?_; rintro e y3 ⟨rfl, hpb3, hk3⟩; have q3 := HQ1.out _ hk3))
              all_goals
                have HE := hide (HN.out _ hpb3 hk3)
                have HPB := hide hpb3
                clear hpb3 hk3 HN HQ1 hclose
                go_wp2
                go_roundw
                case rel => exact ⟨j + 1, _, by omega, by go_num, HPB.out, HE.out.1, HE.out.2⟩
                case measure => simp [intOf]; omega
            · have hX : ((r : Int) == (pq : Int)) = false := by simp; omega
              have HE : Hid (∀ q, PB (wr.drewN q) S t n bits k F' ∧ Keeps S y (wr.drewN q) ∧ Cl n P F F' K (j + 1)) := fun q => ⟨hpb.below (below_drewN (Below.refl _ _) q), hkp.drewN q, hcl.pass (by rw [← hr, ← HPQ.out]; exact e)⟩
              clear hr e hcl hkp hpb hnS
              generalize (getK K j).1 = p at *
              go_wp2
              go_quiet (fail)
              go_wp2
              go_roundw
              case rel => exact ⟨j + 1, _, by omega, by go_num, (HE.out _).1, (HE.out _).2.1, (HE.out 0).2.2⟩
              case measure => simp [intOf]; omega
          · obtain rfl : L = j := by omega
            have hdone : F' (P % n) = none := by
              have h := hcl
              rw [← HLL.out] at h
              exact h.done HL.out
            obtain ⟨fb, g, o, hp⟩ := hpb
            have hopen := pb_open_yes hp P (by omega) hdone (fun k hk => Nat.lt_of_lt_of_le (HSY.out k hk) hkp.size)
            have hsz := sizeN_bounds bits
            have HKP := hide hkp
            clear hdone hp hcl hkp HC
            go_wp2_with fail
            refine hopen.mono ?_
            rintro e y3 ⟨rfl, ⟨fb3, g3, o3, hp3⟩, hk3⟩
            have hpage := pb_page_yes hp3 P (fun _ => 0) (by simp [updF])
            have HB3 := hide (HB2.out y3 (HKP.out.trans hk3 (fun _ _ t => t)))
            clear hopen hp3 hk3
            go_wp2_with fail
            refine hpage.mono ?_
            rintro e y4 ⟨gb, rfl, sl4, b4⟩
            have HB4 := hide (HB3.out.trans (b4.mono HB3.out.size))
            clear hpage b4
            go_wp2_with fail
            refine (rsize_any bits _).mono ?_
            rintro e x ⟨rfl, rfl⟩
            generalize sizeN bits = s at *
            obtain ⟨w5, hrun, hown, hgrow⟩ := run_make_full (P := Try.prog) (w := x) x.heap.size 33 32 ii (.int .u64 0) 1 Try.underlying33 hii hy0 hy1 .i64 .i64 s (by rw [hy2]; omega) (by unfold maxLen; omega) (Nat.le_refl _)
            have hown5 : w5.ownsRow x.heap.size 32 1 (.slice (some ⟨x.heap.size, 0, none⟩) s s) s (List.replicate s (.int .u64 0)) := by
              simpa [Value.cells, toList_madeCells_one] using hown
            have b5 : Below x.heap.size x w5 := (Below.refl _ _).grown hgrow (Nat.le_refl _) (by simp)
            have sl5 : Sl .u64 w5 (some ⟨x.heap.size, 0, none⟩) s (fun _ => 0) := fun j hj => ⟨_, _, rfl, by rw [Nat.zero_add, hown5.cellAt j (by omega)]; simp [hj]⟩
            have hsame := fun c1 c2 => same_ints (some ⟨gb, 0, none⟩) (some ⟨x.heap.size, 0, none⟩) s s c1 c2 _ _ rfl w5 (by omega) (sl4.below b5) sl5 (fun _ _ => rfl)
            have HB5 : Hid (∀ q, Below w.heap.size w (w5.drewN q)) := fun q => below_drewN (HB4.out.trans (b5.mono HB4.out.size)) q
            clear hown hgrow hown5 b5 sl5 sl4
            generalize x.heap.size = g5 at *
            go_wp2_with fail
            refine (hsame _ _).mono ?_
            rintro e x6 ⟨rfl, mm, rfl⟩
            go_wp2
            go_ret
            exact ⟨rfl, HB5.out _⟩
theorem walk (w : World) (bits : Int) (_ : (Lit.int .i64 bits).wf = true) (frames : Int) (_ : (Lit.int .i64 frames).wf = true) (v : Value) (o : IsActsP w v) (page : Int) (wp : (Lit.int .i64 page).wf = true) :
    Calls Try.prog 4 #[.int .i64 bits, .int .i64 frames, v, .int .i64 page] w fun e w' => e = .returned (.bool true) ∧ Below w.heap.size w w' := by
  obtain ⟨ao, len, cap, z, rfl, hlen, hs⟩ := o
  have hpg := bounds_i64 wp
  cases hm : mayB bits
  · exact walk_no bits frames ao len cap page w (.inl hm)
  by_cases h2 : 2 ≤ frames ∧ frames ≤ 8
  · obtain ⟨n, rfl⟩ := Int.eq_ofNat_of_zero_le (show 0 ≤ frames by omega)
    exact walk_yes bits n (by simpa [mayB] using hm) (by omega) ao len cap z page (by omega) w hlen hs
  · exact walk_no bits frames ao len cap page w (.inr (by omega))

set_option maxRecDepth 100000 in
theorem lifted (os : Os) (started : os.Started) (H : Type) (enc : TypeId × Value → H) :
    ReturnsInHanded {} Try.checked os 4 .any (Rows.pagesFewSpec.pre6 enc Try.prog Try.f4 Rows.pagesFewRow.domain false) (Rows.pagesFewSpec.post enc Try.prog Try.f4 false true false false) := by
  refine returnsInHanded_of_change (C := Try.checked) own started (by kernel_rfl) Try.func4
    (ChangeSpec.witness6 (enc := enc) (C := Try.checked) false ⟨#[], #[.int .i64 0, .int .i64 0, .slice none 0 0, .int .i64 0], []⟩ 8 (by kernel_rfl) (by kernel_rfl) (by kernel_rfl) (by kernel_rfl)) ?_
  intro W base args ds gs before hval0 hW hcnd _
  have hval : ∀ (j : Nat) t v, Try.f4.params[j]? = some t → args[j]? = some v → Value.okWide Try.prog W .any base t v := hval0
  have hW' := hW
  obtain ⟨p, q, hA0, hV, rfl, hfz, hnd⟩ := hW
  have hA : DataW.TrodAll enc Try.prog W 0 (fun _ => true) true Try.f4.params.toList args.toList ds p := hA0
  rw [Try.params4] at hA hval
  obtain ⟨v0, vs0, d0, ds0, p0, q0, hargs, rfl, rfl, h0, r0⟩ := trodAll_cons hA
  obtain ⟨v1, vs1, d1, ds1, p1, q1, rfl, rfl, rfl, h1, r1⟩ := trodAll_cons r0
  obtain ⟨v2, vs2, d2, ds2, p2, q2, rfl, rfl, rfl, h2, r2⟩ := trodAll_cons r1
  obtain ⟨v3, vs3, d3, ds3, p3, q3, rfl, rfl, rfl, h3, r3⟩ := trodAll_cons r2
  obtain ⟨rfl, rfl, rfl⟩ := trodAll_nil r3
  obtain rfl : args = #[v0, v1, v2, v3] := by cases args; simp_all
  obtain ⟨rfl, rfl⟩ := trodVars_none hV
  obtain ⟨a0, rfl, rfl, rfl, w0⟩ := open_int Try.underlying3 (hval 0 3 v0 rfl rfl) h0
  obtain ⟨a1, rfl, rfl, rfl, w1⟩ := open_int Try.underlying3 (hval 1 3 v1 rfl rfl) h1
  have k2 := h2
  have lt2 : ∀ x ∈ p2, x.block < W.heap.size := by obtain ⟨m, hm⟩ := k2; exact DataW.trod_lt m _ _ _ hm
  have o2 := open_acts12 (hval 2 22 v2 rfl rfl) h2
  obtain ⟨a3, rfl, rfl, rfl, w3⟩ := open_int Try.underlying3 (hval 3 3 v3 rfl rfl) h3
  clear hA0 hval0
  refine (walk W a0 w0 a1 w1 v2 o2 a3 w3).mono fun e W' ⟨he, bel⟩ => ?_
  subst he
  exact ⟨_, rfl, _, _, _, [], _, [], hW', trodAll_mk1 (shut_bool Try.underlying4 _), (trodAll_cons_mk (shut_int Try.underlying3 w0) (trodAll_cons_mk (shut_int Try.underlying3 w1) (trodAll_cons_mk (Below.trod laidOut (by kernel_rfl) (of_decide_eq_true (by kernel_rfl)) k2 bel lt2) (trodAll_cons_mk (shut_int Try.underlying3 w3) trodAll_mk0)))), rfl, bel.frame _, fun h => by cases h⟩

theorem over : Rows.pagesFewRow.holds Try.pinned (OpenSpec.ofChange Rows.pagesFewSpec) :=
  OpenClaim.holds_of_wide 4 Try.f4 rfl rfl rfl rfl rfl rfl rfl ⟨rfl, rfl, rfl, rfl, rfl⟩ rfl rfl rfl rfl rfl (by kernel_rfl) Try.func4 (by kernel_rfl)
    (of_decide_eq_true (by kernel_rfl)) (by unfold Func.isWrapper; first | (rw [if_pos (by decide +kernel)]; kernel_rfl) | (rw [if_neg (by decide +kernel)]; exact ⟨rfl, rfl⟩))
    (fun os started H enc _ => lifted os started H enc)

theorem proved : Rows.PagesFewSaid := over
#print axioms proved

end Go.Proofs.Ytkikfbndcaojjaa.pagesFew
