/- Whatever the input, haycroftlaw13.MarksPlay returns true and changes no argument. Conditions: none. -/
import Derived.Test.YtpnomcaionodjaaKd
import Derived.Test.YtpnomcaionodjaaRows
import Derived.WalkKit
import Derived.ProofKit
import Derived.OpenShut
import Derived.ShutString
import Derived.ChangeOld
import Derived.Below
import Derived.ChangeSame
namespace Go.Proofs.Ytpnomcaionodjaa.marksPlay
open Go.ChangeShapes Go.WideShapes Go.ChangeAt Go.RowKit
open Go.ChangeMaps (open_string shut_string)
set_option linter.unusedVariables false
theorem own : ownKnob Try.prog.godebug = none := by kernel_rfl
theorem laidOut : laidOutB Try.prog = true := by kernel_rfl

/-- Both sides, apart from each other and from what was there. -/
structure Two (B t r b m : Nat) (v : Nat → Nat) (w : World) : Prop where
  p : MkAt w t r b v
  f : RfIs w m v
  o : OrdM v
  mb : m ≠ b
  mt : m ≠ t
  mr : m ≠ r
  lb : B ≤ b
  lm : B ≤ m
theorem Two.below {B t r b m : Nat} {v : Nat → Nat} {w w' : World} (h : Two B t r b m v w) (hb : Below w.heap.size w w') : Two B t r b m v w' :=
  ⟨h.p.below hb, h.f.below hb, h.o, h.mb, h.mt, h.mr, h.lb, h.lm⟩
theorem Two.drew {B t r b m : Nat} {v : Nat → Nat} {w : World} (h : Two B t r b m v w) (k : Nat) : Two B t r b m v (w.drewN k) := h.below (below_drewN (Below.refl _ _) k)
/-- Only the one's marks have turned. -/
structure Half (B t r b m : Nat) (v u : Nat → Nat) (w : World) : Prop where
  p : MkAt w t r b u
  f : RfIs w m v
  mb : m ≠ b
  mt : m ≠ t
  mr : m ≠ r
  lb : B ≤ b
  lm : B ≤ m
section
variable {B t r b m : Nat} {v : Nat → Nat} {w : World}
theorem two_raise (h : Two B t r b m v w) (i to T : Int) (ht : to ≤ 9223372036854775807) :
    Calls Try.prog 10 #[.pointer (some ⟨t, 0, none⟩), .int .i64 i, .int .i64 to, .int .i64 T] w fun e w' => e = .returned (.int .i64 (raiseE v i to T)) ∧ Half B t r b m v (raiseV v i to T) w' ∧ Keeps (fun k => k = b) w w' :=
  (mraise h.p i to T ht).mono fun e w' ⟨h1, h2, h3⟩ => ⟨h1, ⟨h2, h.f.keep h3 h.mb, h.mb, h.mt, h.mr, h.lb, h.lm⟩, h3⟩
theorem half_raise {i to T : Int} (h : Half B t r b m v (raiseV v i to T) w) (ho : OrdM v) :
    Calls Try.prog 11 #[.pointer (some ⟨m, 0, none⟩), .int .i64 i, .int .i64 to, .int .i64 T] w fun e w' => e = .returned (.int .i64 (raiseE v i to T)) ∧ Two B t r b m (raiseV v i to T) w' ∧ Keeps (fun k => k = m) w w' :=
  (rraise h.f i to T).mono fun e w' ⟨h1, h2, h3⟩ => ⟨h1, ⟨h.p.keep h3 (fun e => h.mt e.symm) (fun e => h.mr e.symm) (fun e => h.mb e.symm), h2, ord_raise ho _ _ _, h.mb, h.mt, h.mr, h.lb, h.lm⟩, h3⟩
theorem two_begin (h : Two B t r b m v w) (p : Int) (hp : p ≤ 9223372036854775807) :
    Calls Try.prog 8 #[.pointer (some ⟨t, 0, none⟩), .int .i64 p] w fun e w' => e = .returned (.int .i64 (beginE v p)) ∧ Half B t r b m v (beginV v p) w' ∧ Keeps (fun k => k = b) w w' :=
  (mbegin h.p p hp).mono fun e w' ⟨h1, h2, h3⟩ => ⟨h1, ⟨h2, h.f.keep h3 h.mb, h.mb, h.mt, h.mr, h.lb, h.lm⟩, h3⟩
theorem half_begin {p : Int} (h : Half B t r b m v (beginV v p) w) (ho : OrdM v) :
    Calls Try.prog 9 #[.pointer (some ⟨m, 0, none⟩), .int .i64 p] w fun e w' => e = .returned (.int .i64 (beginE v p)) ∧ Two B t r b m (beginV v p) w' ∧ Keeps (fun k => k = m) w w' :=
  (rbegin h.f ho p).mono fun e w' ⟨h1, h2, h3⟩ => ⟨h1, ⟨h.p.keep h3 (fun e => h.mt e.symm) (fun e => h.mr e.symm) (fun e => h.mb e.symm), h2, ord_begin ho _, h.mb, h.mt, h.mr, h.lb, h.lm⟩, h3⟩
end
set_option maxHeartbeats 16000000 in
set_option maxRecDepth 10000 in
theorem walk (w : World) (v : Value) (o : IsAms w v) (p : Int) (hp : (Lit.int .i64 p).wf = true) :
    Calls Try.prog 3 #[v, .int .i64 p] w fun e w' => e = .returned (.bool true) ∧ Below w.heap.size w w' := by
  obtain ⟨ao, len, cap, z, rfl, hlen, hs⟩ := o
  have hp64 := bounds_i64 hp
  have HS := hide hs
  clear hs hp
  go_enter Try.func3, Try.ntmps3
  go_wp2_with fail
  refine (awake13 _).mono ?_
  rintro e x1 ⟨rfl, b1⟩
  go_wp2_with fail
  refine (mnew _).mono ?_
  rintro e x2 ⟨t, r, b, rfl, h, ht, hr, hb, hlt, b2⟩
  replace b2 := b1.trans (b2.mono b1.size)
  have hs1 := b1.size
  have hrl : r < x2.heap.size := World.block_lt_of_cell? x2 _ h.row.c0
  have hbl : b < x2.heap.size := World.block_lt_of_cell? x2 _ (h.row.cs 0 (by decide))
  have HG : Hid (w.heap.size ≤ t ∧ w.heap.size ≤ r ∧ w.heap.size ≤ b ∧ w.heap.size ≤ x2.heap.size ∧ t < x2.heap.size ∧ r < x2.heap.size ∧ b < x2.heap.size) := ⟨by omega, by omega, by omega, by omega, by omega, by omega, by omega⟩
  have HH := hide h
  have HB := hide b2
  clear b1 ht hr hb hlt h b2 hrl hbl hs1
  go_wp2
  have H0 : Two w.heap.size t r b x2.heap.size (fun _ => 0) (x2.alloc (.cells #[.int .i64 0, .int .i64 0, .int .i64 0, .int .i64 0, .int .i64 0] 29)) := by
    have := HG.out
    refine ⟨HH.out.below ((Below.refl _ _).alloc (Nat.le_refl _) _), ⟨fun i hi => ?_, fun i hi => by simp⟩, ord_zero, by omega, by omega, by omega, by omega, by omega⟩
    have hi' : i = 0 ∨ i = 1 ∨ i = 2 ∨ i = 3 ∨ i = 4 := by omega
    rcases hi' with rfl | rfl | rfl | rfl | rfl <;> simp
  have hB0 : Below w.heap.size w (x2.alloc (.cells #[.int .i64 0, .int .i64 0, .int .i64 0, .int .i64 0, .int .i64 0] 29)) := HB.out.alloc HB.out.size _
  generalize x2.heap.size = m at *
  go_loopw [7, 8] (fun tl i wr => ∃ (k T : Nat) (v : Nat → Nat), k ≤ 150 ∧ k ≤ len ∧ i = .int .i64 k ∧ tl = .int .i64 T ∧ T ≤ 255 * k ∧ Two w.heap.size t r b m v wr ∧ Below w.heap.size w wr) (fun _ i _ => len - (intOf i).toNat)
  case atStart => exact ⟨0, 0, _, by omega, Nat.zero_le _, rfl, rfl, by omega, H0, hB0⟩
  case round =>
    clear H0 hB0 HB HH HG
    obtain ⟨k, T, v, hk1, hk2, rfl, rfl, hT, h, hbw⟩ := hrel
    by_cases hlt : k < len ∧ k < 150
    · obtain ⟨hl1, hl2⟩ := hlt
      obtain ⟨hok, bb, off, rfl, hA⟩ := HS.out.below hbw k hl1
      generalize z k = cc at *
      obtain ⟨bg, mk, to, tl⟩ := cc
      obtain ⟨-, hto, htl⟩ := hok
      simp only at hto htl
      obtain ⟨d, rfl⟩ := Int.eq_ofNat_of_zero_le htl.1
      have hd : d ≤ 255 := by omega
      obtain ⟨e0, e1, e2, e3⟩ := hA
      simp only at e0 e1 e2 e3
      obtain ⟨U, hU⟩ : ∃ U, U = T + d := ⟨_, rfl⟩
      have hTU : (T : Int) + (d : Int) = (U : Int) := by omega
      have hUb : U ≤ 255 * (k + 1) := by omega
      clear hU
      have i0 : (0 : Int) ≤ (k : Int) := by omega
      have HT := hide (h.below ((Below.refl wr.heap.size wr).alloc (Nat.le_refl _) (.cells #[.bool bg, .int .i64 mk, .int .i64 to, .int .u8 (d : Int)] 31)))
      have HBW := hide (hbw.alloc hbw.size (.cells #[.bool bg, .int .i64 mk, .int .i64 to, .int .u8 (d : Int)] 31))
      have hbx : wr.heap.size ≠ b := by have := World.block_lt_of_cell? wr _ (h.p.row.cs 0 (by decide)); simp only at this; omega
      have hmx : wr.heap.size ≠ m := by have := World.block_lt_of_cell? wr _ (h.f.c 0 (by decide)); simp only at this; omega
      clear h hbw
      cases bg
      · skip
        have hR := fun kk => two_raise (HT.out.drew kk) mk to (U : Int) hto.2
        have hS := fun (y : World) (hy : Half w.heap.size t r b m v (raiseV v mk to (U : Int)) y) => half_raise hy HT.out.o
        generalize raiseE v mk to (U : Int) = re at hR hS
        generalize raiseV v mk to (U : Int) = u at hR hS
        have hne : (re != re) = false := by simp
        have c1 : (wr.alloc (.cells #[.bool false, .int .i64 mk, .int .i64 to, .int .u8 (d : Int)] 31)).cell? ⟨wr.heap.size, 1, none⟩ = some (.int .i64 mk) := by simp
        have c2 : (wr.alloc (.cells #[.bool false, .int .i64 mk, .int .i64 to, .int .u8 (d : Int)] 31)).cell? ⟨wr.heap.size, 2, none⟩ = some (.int .i64 to) := by simp
        have hlx : wr.heap.size < (wr.alloc (.cells #[.bool false, .int .i64 mk, .int .i64 to, .int .u8 (d : Int)] 31)).heap.size := by simp
        go_wp2
        go_region_held3 (fun W => W.cell? ⟨wr.heap.size, 1, none⟩ = some (.int .i64 mk) ∧ W.cell? ⟨wr.heap.size, 2, none⟩ = some (.int .i64 to)) (first | assumption | go_keep | (simp; done)) (first | (go_at_call 10; refine (hR 1).mono ?_; rintro e y1 ⟨rfl, hh1, k1⟩; have q1 : y1.cell? ⟨wr.heap.size, 1, none⟩ = some (.int .i64 mk) ∧ y1.cell? ⟨wr.heap.size, 2, none⟩ = some (.int .i64 to) := ⟨(k1.cell hlx hbx).trans c1, (k1.cell hlx hbx).trans c2⟩; have hl1 := k1.size) | (go_at_call 11; refine (hS y1 hh1).mono ?_; rintro e y2 ⟨rfl, hy2, k2⟩; have q2 : y2.cell? ⟨wr.heap.size, 1, none⟩ = some (.int .i64 mk) ∧ y2.cell? ⟨wr.heap.size, 2, none⟩ = some (.int .i64 to) := ⟨(k2.cell (Nat.lt_of_lt_of_le hlx hl1) hmx).trans q1.1, (k2.cell (Nat.lt_of_lt_of_le hlx hl1) hmx).trans q1.2⟩))
        have hw1 : Below w.heap.size w y1 := (below_drewN HBW.out 1).trans (k1.below (below_drewN HBW.out 1).size (fun k hk => by have := HT.out.lb; omega))
        have hw2 : Below w.heap.size w y2 := hw1.trans (k2.below hw1.size (fun k hk => by have := HT.out.lm; omega))
        clear hR hS hh1 k1 k2 q1 q2 hw1 hl1 hlx c1 c2
        have HY := hide hy2
        have HWY := hide hw2
        clear HT HBW hw2
        clear e0 e1 e2 e3
        go_wp2_with fail
        refine (mall hy2.p).mono ?_
        rintro e y3 ⟨g, rfl, hcg, hg, b3⟩
        have h3 := hy2.below b3
        have HW3 := hide (HWY.out.trans (b3.mono HWY.out.size))
        have H3 := hide h3
        have HC := hide hcg
        clear hy2 hcg HY HWY hg b3
        have HM : Hid (∀ j : Nat, j < 5 → y3.cell? ⟨m, j, none⟩ = some (.int .i64 (u j : Int))) := fun j hj => h3.f.c j hj
        have HAT : Hid (∀ (q n j : Nat), j < 5 → Calls Try.prog 13 #[.pointer (some ⟨t, 0, none⟩), .int .i64 (j : Int)] ((y3.drewN q).drewN n) fun e w' => e = .returned (.int .i64 ((u j : Nat) : Int)) ∧ w' = (y3.drewN q).drewN n) := fun q n j hj => mat_yes ((h3.p.drew q).drew n) j hj _ rfl
        have HMO : Hid (∀ (q n j : Nat), j < 5 → Calls Try.prog 14 #[.pointer (some ⟨t, 0, none⟩), .int .i64 (j : Int), .int .i64 (U : Int)] ((y3.drewN q).drewN n) fun e w' => e = .returned (.int .i64 (mostN u j (U : Int))) ∧ w' = (y3.drewN q).drewN n) := fun q n j hj => mmost_yes ((h3.p.drew q).drew n) j hj (U : Int)
        clear h3
        go_wp2
        go_loopw [11] (fun i wr => ∃ j q : Nat, j ≤ 5 ∧ i = .int .i64 j ∧ wr = y3.drewN q) (fun i _ => 5 - (intOf i).toNat)
        case atStart => exact ⟨0, 0, Nat.zero_le _, rfl, rfl⟩
        case round =>
          obtain ⟨j, q, hj, rfl, hwr⟩ := hrel
          have HWR := hide hwr
          clear hwr
          by_cases hj5 : j < 5
          · have n0 : wr.cell? ⟨g, j, none⟩ = some (.int .i64 (u j : Int)) := by rw [HWR.out]; exact HC.out j hj5
            have m0 : wr.cell? ⟨m, j, none⟩ = some (.int .i64 (u j : Int)) := by rw [HWR.out]; exact HM.out j hj5
            have hat := fun n => HAT.out q n j hj5
            rw [← HWR.out] at hat
            have hmo := fun n => HMO.out q n j hj5
            rw [← HWR.out] at hmo
            by_cases hj0 : 0 < j
            · have m1 : wr.cell? ⟨m, j - 1, none⟩ = some (.int .i64 (u (j - 1) : Int)) := by rw [HWR.out]; exact HM.out (j - 1) (by omega)
              have hx : (j : Int) - 1 = ((j - 1 : Nat) : Int) := by omega
              have hq : j - 1 < 5 := by omega
              have hjj : (j : Int) > 0 := by omega
              have hm1 : mostN u j (U : Int) = ((u (j - 1) : Nat) : Int) := by rw [mostN, if_neg (by omega)]
              rw [hm1] at hmo
              clear hm1
              generalize u (j - 1) = un at *
              generalize j - 1 = jq at *
              generalize u j = uj at *
              have d0 : ((uj : Int) != (uj : Int)) = false := by simp
              have d1 : ((un : Int) != (un : Int)) = false := by simp
              go_wp2
              go_quiet ((first | (go_at_call 13; exact Calls.quiet_of_same (hat _)) | (go_at_call 14; exact Calls.quiet_of_same (hmo _))))
              go_wp2
              go_roundw
              case rel => exact ⟨j + 1, _, by omega, by go_num, by rw [HWR.out, drewN_drewN]⟩
              case measure => simp [intOf]; omega
            · have hjz : j = 0 := by omega
              subst hjz
              have hm1 : mostN u 0 (U : Int) = (U : Int) := by rw [mostN, if_pos rfl]
              rw [hm1] at hmo
              clear hm1
              generalize u 0 = uj at *
              have d0 : ((uj : Int) != (uj : Int)) = false := by simp
              have d1 : ((U : Int) != (U : Int)) = false := by simp
              go_wp2
              go_quiet ((first | (go_at_call 13; exact Calls.quiet_of_same (hat _)) | (go_at_call 14; exact Calls.quiet_of_same (hmo _))))
              go_wp2
              go_roundw
              case rel => exact ⟨1, _, by omega, by go_num, by rw [HWR.out, drewN_drewN]⟩
              case measure => simp [intOf]
          · have r1 : Calls Try.prog 15 #[.pointer (some ⟨t, 0, none⟩), .int .i64 p, .int .i64 (U : Int)] (y3.drewN q) fun e w' => e = .returned (.int .i64 (regionN u p (U : Int))) ∧ w' = y3.drewN q := mregion (H3.out.p.drew q) p (U : Int)
            have r2 : Calls Try.prog 16 #[.pointer (some ⟨m, 0, none⟩), .int .i64 p, .int .i64 (U : Int)] (y3.drewN q) fun e w' => e = .returned (.int .i64 (regionN u p (U : Int))) ∧ w' = y3.drewN q := rregion (H3.out.drew q).f p (U : Int)
            have a5 : Calls Try.prog 13 #[.pointer (some ⟨t, 0, none⟩), .int .i64 5] (y3.drewN q) fun e w' => e = .returned (.int .i64 0) ∧ w' = y3.drewN q := mat_no (H3.out.p.drew q) 5 (by decide)
            have a6 : Calls Try.prog 13 #[.pointer (some ⟨t, 0, none⟩), .int .i64 (-1)] (y3.drewN q) fun e w' => e = .returned (.int .i64 0) ∧ w' = y3.drewN q := mat_no (H3.out.p.drew q) (-1) (by decide)
            have a7 : Calls Try.prog 14 #[.pointer (some ⟨t, 0, none⟩), .int .i64 5, .int .i64 (U : Int)] (y3.drewN q) fun e w' => e = .returned (.int .i64 0) ∧ w' = y3.drewN q := mmost_no t 5 (U : Int) (by decide) _
            rw [← HWR.out] at r1 r2 a5 a6 a7
            generalize regionN u p (U : Int) = rg at *
            have d0 : (rg != rg) = false := by simp
            go_wp2_with fail
            refine r1.mono ?_
            rintro e yy ⟨rfl, rfl⟩
            go_wp2_with fail
            refine r2.mono ?_
            rintro e yy ⟨rfl, rfl⟩
            go_wp2_with fail
            refine a5.mono ?_
            rintro e yy ⟨rfl, rfl⟩
            go_wp2_with fail
            refine a6.mono ?_
            rintro e yy ⟨rfl, rfl⟩
            go_wp2_with fail
            refine a7.mono ?_
            rintro e yy ⟨rfl, rfl⟩
            go_wp2
            go_roundw
            case rel => exact ⟨k + 1, U, u, by omega, by omega, by go_num, rfl, hUb, by rw [HWR.out]; exact H3.out.drew q, by rw [HWR.out]; exact below_drewN HW3.out q⟩
            case measure => simp [intOf]; omega
      · skip
        have hR := fun kk => two_begin (HT.out.drew kk) to hto.2
        have hS := fun (y : World) (hy : Half w.heap.size t r b m v (beginV v to) y) => half_begin hy HT.out.o
        generalize beginE v to = re at hR hS
        generalize beginV v to = u at hR hS
        have hne : (re != re) = false := by simp
        have c2 : (wr.alloc (.cells #[.bool true, .int .i64 mk, .int .i64 to, .int .u8 (d : Int)] 31)).cell? ⟨wr.heap.size, 2, none⟩ = some (.int .i64 to) := by simp
        have hlx : wr.heap.size < (wr.alloc (.cells #[.bool true, .int .i64 mk, .int .i64 to, .int .u8 (d : Int)] 31)).heap.size := by simp
        go_wp2
        go_region_held3 (fun W => W.cell? ⟨wr.heap.size, 2, none⟩ = some (.int .i64 to)) (first | assumption | go_keep | (simp; done)) (first | (go_at_call 8; refine (hR 1).mono ?_; rintro e y1 ⟨rfl, hh1, k1⟩; have q1 : y1.cell? ⟨wr.heap.size, 2, none⟩ = some (.int .i64 to) := (k1.cell hlx hbx).trans c2; have hl1 := k1.size) | (go_at_call 9; refine (hS y1 hh1).mono ?_; rintro e y2 ⟨rfl, hy2, k2⟩; have q2 : y2.cell? ⟨wr.heap.size, 2, none⟩ = some (.int .i64 to) := (k2.cell (Nat.lt_of_lt_of_le hlx hl1) hmx).trans q1))
        have hw1 : Below w.heap.size w y1 := (below_drewN HBW.out 1).trans (k1.below (below_drewN HBW.out 1).size (fun k hk => by have := HT.out.lb; omega))
        have hw2 : Below w.heap.size w y2 := hw1.trans (k2.below hw1.size (fun k hk => by have := HT.out.lm; omega))
        clear hR hS hh1 k1 k2 q1 q2 hw1 hl1 hlx c2
        have HY := hide hy2
        have HWY := hide hw2
        clear HT HBW hw2
        clear e0 e1 e2 e3
        go_wp2_with fail
        refine (mall hy2.p).mono ?_
        rintro e y3 ⟨g, rfl, hcg, hg, b3⟩
        have h3 := hy2.below b3
        have HW3 := hide (HWY.out.trans (b3.mono HWY.out.size))
        have H3 := hide h3
        have HC := hide hcg
        clear hy2 hcg HY HWY hg b3
        have HM : Hid (∀ j : Nat, j < 5 → y3.cell? ⟨m, j, none⟩ = some (.int .i64 (u j : Int))) := fun j hj => h3.f.c j hj
        have HAT : Hid (∀ (q n j : Nat), j < 5 → Calls Try.prog 13 #[.pointer (some ⟨t, 0, none⟩), .int .i64 (j : Int)] ((y3.drewN q).drewN n) fun e w' => e = .returned (.int .i64 ((u j : Nat) : Int)) ∧ w' = (y3.drewN q).drewN n) := fun q n j hj => mat_yes ((h3.p.drew q).drew n) j hj _ rfl
        have HMO : Hid (∀ (q n j : Nat), j < 5 → Calls Try.prog 14 #[.pointer (some ⟨t, 0, none⟩), .int .i64 (j : Int), .int .i64 (U : Int)] ((y3.drewN q).drewN n) fun e w' => e = .returned (.int .i64 (mostN u j (U : Int))) ∧ w' = (y3.drewN q).drewN n) := fun q n j hj => mmost_yes ((h3.p.drew q).drew n) j hj (U : Int)
        clear h3
        go_wp2
        go_loopw [11] (fun i wr => ∃ j q : Nat, j ≤ 5 ∧ i = .int .i64 j ∧ wr = y3.drewN q) (fun i _ => 5 - (intOf i).toNat)
        case atStart => exact ⟨0, 0, Nat.zero_le _, rfl, rfl⟩
        case round =>
          obtain ⟨j, q, hj, rfl, hwr⟩ := hrel
          have HWR := hide hwr
          clear hwr
          by_cases hj5 : j < 5
          · have n0 : wr.cell? ⟨g, j, none⟩ = some (.int .i64 (u j : Int)) := by rw [HWR.out]; exact HC.out j hj5
            have m0 : wr.cell? ⟨m, j, none⟩ = some (.int .i64 (u j : Int)) := by rw [HWR.out]; exact HM.out j hj5
            have hat := fun n => HAT.out q n j hj5
            rw [← HWR.out] at hat
            have hmo := fun n => HMO.out q n j hj5
            rw [← HWR.out] at hmo
            by_cases hj0 : 0 < j
            · have m1 : wr.cell? ⟨m, j - 1, none⟩ = some (.int .i64 (u (j - 1) : Int)) := by rw [HWR.out]; exact HM.out (j - 1) (by omega)
              have hx : (j : Int) - 1 = ((j - 1 : Nat) : Int) := by omega
              have hq : j - 1 < 5 := by omega
              have hjj : (j : Int) > 0 := by omega
              have hm1 : mostN u j (U : Int) = ((u (j - 1) : Nat) : Int) := by rw [mostN, if_neg (by omega)]
              rw [hm1] at hmo
              clear hm1
              generalize u (j - 1) = un at *
              generalize j - 1 = jq at *
              generalize u j = uj at *
              have d0 : ((uj : Int) != (uj : Int)) = false := by simp
              have d1 : ((un : Int) != (un : Int)) = false := by simp
              go_wp2
              go_quiet ((first | (go_at_call 13; exact Calls.quiet_of_same (hat _)) | (go_at_call 14; exact Calls.quiet_of_same (hmo _))))
              go_wp2
              go_roundw
              case rel => exact ⟨j + 1, _, by omega, by go_num, by rw [HWR.out, drewN_drewN]⟩
              case measure => simp [intOf]; omega
            · have hjz : j = 0 := by omega
              subst hjz
              have hm1 : mostN u 0 (U : Int) = (U : Int) := by rw [mostN, if_pos rfl]
              rw [hm1] at hmo
              clear hm1
              generalize u 0 = uj at *
              have d0 : ((uj : Int) != (uj : Int)) = false := by simp
              have d1 : ((U : Int) != (U : Int)) = false := by simp
              go_wp2
              go_quiet ((first | (go_at_call 13; exact Calls.quiet_of_same (hat _)) | (go_at_call 14; exact Calls.quiet_of_same (hmo _))))
              go_wp2
              go_roundw
              case rel => exact ⟨1, _, by omega, by go_num, by rw [HWR.out, drewN_drewN]⟩
              case measure => simp [intOf]
          · have r1 : Calls Try.prog 15 #[.pointer (some ⟨t, 0, none⟩), .int .i64 p, .int .i64 (U : Int)] (y3.drewN q) fun e w' => e = .returned (.int .i64 (regionN u p (U : Int))) ∧ w' = y3.drewN q := mregion (H3.out.p.drew q) p (U : Int)
            have r2 : Calls Try.prog 16 #[.pointer (some ⟨m, 0, none⟩), .int .i64 p, .int .i64 (U : Int)] (y3.drewN q) fun e w' => e = .returned (.int .i64 (regionN u p (U : Int))) ∧ w' = y3.drewN q := rregion (H3.out.drew q).f p (U : Int)
            have a5 : Calls Try.prog 13 #[.pointer (some ⟨t, 0, none⟩), .int .i64 5] (y3.drewN q) fun e w' => e = .returned (.int .i64 0) ∧ w' = y3.drewN q := mat_no (H3.out.p.drew q) 5 (by decide)
            have a6 : Calls Try.prog 13 #[.pointer (some ⟨t, 0, none⟩), .int .i64 (-1)] (y3.drewN q) fun e w' => e = .returned (.int .i64 0) ∧ w' = y3.drewN q := mat_no (H3.out.p.drew q) (-1) (by decide)
            have a7 : Calls Try.prog 14 #[.pointer (some ⟨t, 0, none⟩), .int .i64 5, .int .i64 (U : Int)] (y3.drewN q) fun e w' => e = .returned (.int .i64 0) ∧ w' = y3.drewN q := mmost_no t 5 (U : Int) (by decide) _
            rw [← HWR.out] at r1 r2 a5 a6 a7
            generalize regionN u p (U : Int) = rg at *
            have d0 : (rg != rg) = false := by simp
            go_wp2_with fail
            refine r1.mono ?_
            rintro e yy ⟨rfl, rfl⟩
            go_wp2_with fail
            refine r2.mono ?_
            rintro e yy ⟨rfl, rfl⟩
            go_wp2_with fail
            refine a5.mono ?_
            rintro e yy ⟨rfl, rfl⟩
            go_wp2_with fail
            refine a6.mono ?_
            rintro e yy ⟨rfl, rfl⟩
            go_wp2_with fail
            refine a7.mono ?_
            rintro e yy ⟨rfl, rfl⟩
            go_wp2
            go_roundw
            case rel => exact ⟨k + 1, U, u, by omega, by omega, by go_num, rfl, hUb, by rw [HWR.out]; exact H3.out.drew q, by rw [HWR.out]; exact below_drewN HW3.out q⟩
            case measure => simp [intOf]; omega
    · go_wp2
      all_goals
        go_ret
        exact ⟨rfl, hbw⟩

set_option maxRecDepth 100000 in
theorem lifted (os : Os) (started : os.Started) (H : Type) (enc : TypeId × Value → H) :
    ReturnsInHanded {} Try.checked os 3 .any (Rows.marksPlaySpec.pre6 enc Try.prog Try.f3 Rows.marksPlayRow.domain false) (Rows.marksPlaySpec.post enc Try.prog Try.f3 false true false false) := by
  refine returnsInHanded_of_change (C := Try.checked) own started (by kernel_rfl) Try.func3
    (ChangeSpec.witness6 (enc := enc) (C := Try.checked) false ⟨#[], #[.slice none 0 0, .int .i64 0], []⟩ 8 (by kernel_rfl) (by kernel_rfl) (by kernel_rfl) (by kernel_rfl)) ?_
  intro W base args ds gs before hval0 hW hcnd _
  have hval : ∀ (j : Nat) t v, Try.f3.params[j]? = some t → args[j]? = some v → Value.okWide Try.prog W .any base t v := hval0
  have hW' := hW
  obtain ⟨p, q, hA0, hV, rfl, hfz, hnd⟩ := hW
  have hA : DataW.TrodAll enc Try.prog W 0 (fun _ => true) true Try.f3.params.toList args.toList ds p := hA0
  rw [Try.params3] at hA hval
  obtain ⟨v0, vs0, d0, ds0, p0, q0, hargs, rfl, rfl, h0, r0⟩ := trodAll_cons hA
  obtain ⟨v1, vs1, d1, ds1, p1, q1, rfl, rfl, rfl, h1, r1⟩ := trodAll_cons r0
  obtain ⟨rfl, rfl, rfl⟩ := trodAll_nil r1
  obtain rfl : args = #[v0, v1] := by cases args; simp_all
  obtain ⟨rfl, rfl⟩ := trodVars_none hV
  have k0 := h0
  have lt0 : ∀ x ∈ p0, x.block < W.heap.size := by obtain ⟨m, hm⟩ := k0; exact DataW.trod_lt m _ _ _ hm
  have o0 := open_Ams (hval 0 22 v0 rfl rfl) h0
  obtain ⟨a1, rfl, rfl, rfl, w1⟩ := open_int Try.underlying3 (hval 1 3 v1 rfl rfl) h1
  clear hA0 hval0
  refine (walk W v0 o0 a1 w1).mono fun e W' ⟨he, bel⟩ => ?_
  subst he
  exact ⟨_, rfl, _, _, _, [], _, [], hW', trodAll_mk1 (shut_bool Try.underlying4 _), (trodAll_cons_mk (Below.trod laidOut (by kernel_rfl) (of_decide_eq_true (by kernel_rfl)) k0 bel lt0) (trodAll_cons_mk (shut_int Try.underlying3 w1) trodAll_mk0)), rfl, bel.frame _, fun h => by cases h⟩

theorem over : Rows.marksPlayRow.holds Try.pinned (OpenSpec.ofChange Rows.marksPlaySpec) :=
  OpenClaim.holds_of_wide 3 Try.f3 rfl rfl rfl rfl rfl rfl rfl ⟨rfl, rfl, rfl, rfl, rfl⟩ rfl rfl rfl rfl rfl (by kernel_rfl) Try.func3 (by kernel_rfl)
    (of_decide_eq_true (by kernel_rfl)) (by unfold Func.isWrapper; first | (rw [if_pos (by decide +kernel)]; kernel_rfl) | (rw [if_neg (by decide +kernel)]; exact ⟨rfl, rfl⟩))
    (fun os started H enc _ => lifted os started H enc)

theorem proved : Rows.MarksPlaySaid := over
#print axioms proved

end Go.Proofs.Ytpnomcaionodjaa.marksPlay
