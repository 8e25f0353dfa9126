/- Whatever the input, haycroftlaw14.TailPlays returns true and changes no argument. Conditions: none. -/
import Derived.Test.YtpkoohpobcfjcaaTh
import Derived.Deep.CutBlock
import Derived.Deep.DeepCutAuto
import Derived.Test.YtpkoohpobcfjcaaRows
import Derived.WalkKit
import Derived.ProofKit
import Derived.OpenShut
import Derived.ShutString
import Derived.ChangeOld
import Derived.Below
import Derived.ChangeSame
namespace Go.Proofs.Ytpkoohpobcfjcaa.tailPlays
open Go.ChangeShapes Go.WideShapes Go.ChangeAt Go.RowKit
open Go.ChangeMaps (open_string shut_string)
set_option linter.unusedVariables false
theorem own : ownKnob Try.prog.godebug = none := by kernel_rfl
theorem laidOut : laidOutB Try.prog = true := by kernel_rfl

/-- Both sides, apart from each other and from what was there. -/
structure Two (B t r b m : Nat) (bs : Int) (sp P O won : Nat) (w : World) : Prop where
  p : TlAt w t r b bs sp P O won
  f : RtIs w m (sizeN bs) sp P O
  mi : ¬ InRow r b m
  mt : m ≠ t
  lr : B ≤ r
  lb : B ≤ b
  lm : B ≤ m
section
variable {B t r b m : Nat} {bs : Int} {sp P O won : Nat} {w w' : World}
theorem Two.below (h : Two B t r b m bs sp P O won w) (hb : Below w.heap.size w w') : Two B t r b m bs sp P O won w' := ⟨h.p.below hb, h.f.below hb, h.mi, h.mt, h.lr, h.lb, h.lm⟩
theorem Two.drew (h : Two B t r b m bs sp P O won w) (k : Nat) : Two B t r b m bs sp P O won (w.drewN k) := h.below (below_drewN (Below.refl _ _) k)
theorem Two.into (h : Two B t r b m bs sp P O won w) : ∀ k, InRow r b k → B ≤ k := fun k hk => by
  have := h.lr; have := h.lb
  rcases hk with hk | hk <;> omega
theorem Two.three (h : Two B t r b m bs sp P O won w) : w.cell? ⟨m, 0, none⟩ = some (.int .i64 (sizeN bs : Int)) ∧ w.cell? ⟨m, 2, none⟩ = some (.int .i64 (P : Int)) ∧ w.cell? ⟨m, 3, none⟩ = some (.int .i64 (O : Int)) := ⟨h.f.c0, h.f.c2, h.f.c3⟩
/-- The program's side has gone on. -/
structure Half (B t r b m : Nat) (bs : Int) (sp P O P' O' won' : Nat) (w : World) : Prop where
  p : TlAt w t r b bs sp P' O' won'
  f : RtIs w m (sizeN bs) sp P O
  mi : ¬ InRow r b m
  mt : m ≠ t
  lr : B ≤ r
  lb : B ≤ b
  lm : B ≤ m
theorem Two.half {P' O' won' : Nat} (h : Two B t r b m bs sp P O won w) (hp : TlAt w' t r b bs sp P' O' won') (hk : Keeps (InRow r b) w w') : Half B t r b m bs sp P O P' O' won' w' := ⟨hp, h.f.keep hk h.mi, h.mi, h.mt, h.lr, h.lb, h.lm⟩
theorem Half.two {P' O' won' : Nat} (h : Half B t r b m bs sp P O P' O' won' w) (hf : RtIs w' m (sizeN bs) sp P' O') (hk : Keeps (fun k => k = m) w w') : Two B t r b m bs sp P' O' won' w' :=
  ⟨h.p.keep hk (fun e => h.mt e.symm) (fun e => h.mi (.inl e.symm)) (fun e => h.mi (.inr e.symm)), hf, h.mi, h.mt, h.lr, h.lb, h.lm⟩
end
set_option maxHeartbeats 16000000 in
set_option maxRecDepth 10000 in
theorem walk (w : World) (bs : Int) (hbs : (Lit.int .i64 bs).wf = true) (sp : Int) (hsp : (Lit.int .i64 sp).wf = true) (v : Value) (o : IsTks w v) :
    Calls Try.prog 3 #[.int .i64 bs, .int .i64 sp, v] w fun e w' => e = .returned (.bool true) ∧ Below w.heap.size w w' := by
  obtain ⟨ao, len, cap, z, rfl, hlen, hs⟩ := o
  have HS := hide hs
  clear hs
  by_cases hg : (5 ≤ bs ∧ bs ≤ 9) ∧ 1 ≤ sp ∧ sp ≤ 64
  · obtain ⟨hb, hs1, hs2⟩ := hg
    obtain ⟨sp, rfl⟩ := Int.eq_ofNat_of_zero_le (show 0 ≤ sp by omega)
    have hs' : 1 ≤ sp ∧ sp ≤ 64 := by omega
    clear hbs hsp
    go_enter Try.func3, Try.ntmps3
    go_wp2_with fail
    refine (awake14 _).mono ?_
    rintro e x1 ⟨rfl, b1⟩
    go_wp2_with fail
    refine (tNew_yes bs sp hb hs' _).mono ?_
    rintro e x2 ⟨t, r, b, rfl, h, ht, hr, hbk, b2⟩
    replace b2 := b1.trans (b2.mono b1.size)
    have hz := b1.size
    go_wp2_with fail
    refine (rNew_yes bs sp hb hs' _).mono ?_
    rintro e x3 ⟨rfl, hf, b3⟩
    have hrl : r < x2.heap.size := World.block_lt_of_cell? x2 _ h.row.c0
    have hbl : b < x2.heap.size := World.block_lt_of_cell? x2 _ (h.row.cs 0 (by decide))
    have htl : t < x2.heap.size := h.lt
    have hws := b2.size
    have h0 : Two w.heap.size t r b x2.heap.size bs sp 0 1 0 x3 := ⟨h.below b3, hf, fun e => by rcases e with e | e <;> omega, by omega, by omega, by omega, by omega⟩
    have HA := hide h0
    have hB := hide (b2.trans (b3.mono b2.size))
    clear b1 b2 b3 h ht hr hbk hz hrl hbl htl hws hf h0
    generalize x2.heap.size = m at *
    go_wp2
    go_loopw [11] (fun i wr => ∃ (k P O won : Nat), k ≤ 200 ∧ k ≤ len ∧ i = .int .i64 k ∧ Two w.heap.size t r b m bs sp P O won wr ∧ won ≤ k ∧ Below w.heap.size w wr) (fun i _ => len - (intOf i).toNat)
    case atStart => exact ⟨0, 0, 1, 0, by omega, Nat.zero_le _, rfl, HA.out, Nat.zero_le _, hB.out⟩
    case round =>
      clear HA hB
      obtain ⟨k, P, O, won, hk1, hk2, rfl, h, hwk, hbw⟩ := hrel
      by_cases hlt : k < len ∧ k < 200
      · obtain ⟨hl1, hl2⟩ := hlt
        obtain ⟨hok, bb, off, rfl, hA⟩ := HS.out.below hbw k hl1
        generalize z k = cc at *
        obtain ⟨ck, cn⟩ := cc
        obtain ⟨hck, hcn⟩ := hok
        simp only at hck hcn
        obtain ⟨e0, e1⟩ := hA
        simp only at e0 e1
        have i0 : (0 : Int) ≤ (k : Int) := by omega
        go_upto_block 2 with fail
        go_cut [12] (fun _ wx => ∃ P' O' won' : Nat, won' ≤ won + 1 ∧ Two w.heap.size t r b m bs sp P' O' won' wx ∧ Below w.heap.size w wx)
        case first =>
          have hbb : ¬ InRow r b bb := by
            obtain ⟨-, b', off', e', hA'⟩ := HS.out k hl1
            cases e'
            have := hA'.lt
            have := h.lr
            have := h.lb
            intro e
            rcases e with e | e <;> omega
          have hbm : ¬ bb = m := by
            obtain ⟨-, b', off', e', hA'⟩ := HS.out k hl1
            cases e'
            have := hA'.lt
            have := h.lm
            omega
          have hp := h.p.hp
          have hq := h.p.hs
          have ho := h.p.ho
          have hbl : bb < wr.heap.size := World.block_lt_of_cell? wr _ e0
          by_cases k1 : ck = 1
          · subst k1
            have hT := tTake h.p cn
            have hR := fun (y : World) (hy : RtIs y m (sizeN bs) sp P O) => rTake hy (sizeN_bounds bs) hp hq.2 ho cn
            have hf := fun (y : World) (k2 : Keeps (InRow r b) wr y) => h.f.keep k2 h.mi
            have h3 := fun (y z : World) (h2 : TlAt y t r b bs sp P (takeO (sizeN bs) O cn) won) (k2 : Keeps (InRow r b) wr y) (hf : RtIs z m (sizeN bs) sp P (takeO (sizeN bs) O cn)) (k3 : Keeps (fun k => k = m) y z) => (h.half h2 k2).two hf k3
            have hw3 := fun (y z : World) (k2 : Keeps (InRow r b) wr y) (k3 : Keeps (fun k => k = m) y z) => (hbw.trans (k2.below hbw.size h.into)).trans (k3.below (hbw.trans (k2.below hbw.size h.into)).size (fun k hk => by have := h.lm; omega))
            generalize takeA (sizeN bs) P O cn = A at *
            generalize takeK (sizeN bs) sp P O cn = K at *
            generalize takeE (sizeN bs) cn = E at *
            generalize takeO (sizeN bs) O cn = O' at *
            have z1 : ((A : Int) != (A : Int)) = false := by simp
            have z2 : ((K : Int) != (K : Int)) = false := by simp
            have z3 : (E != E) = false := by simp
            clear h hbw hp hq ho
            go_wp2_with fail
            refine hT.mono ?_
            rintro e y2 ⟨rfl, h2, k2⟩
            have e2 : y2.cell? ⟨bb, off + k * 2 + 1, none⟩ = some (.int .i64 cn) := (k2.cell (p := ⟨bb, off + k * 2 + 1, none⟩) hbl hbb).trans e1
            go_wp2_with fail
            refine (hR _ (hf _ k2)).mono ?_
            rintro e y3 ⟨rfl, hf3, k3⟩
            have HA := hide (h3 y2 y3 h2 k2 hf3 k3)
            have HW := hide (hw3 y2 y3 k2 k3)
            clear h3 hw3 hf hR hT h2 k2 hf3 k3 e2
            go_wp2
            go_meet
            case rel => exact ⟨P, O', won, by omega, HA.out, HW.out⟩
          by_cases k2 : ck = 2
          · subst k2
            have hT := tTurn h.p (by omega)
            have hR := fun (y : World) (hy : RtIs y m (sizeN bs) sp P O) => rTurn hy hp hq.2
            have hf := fun (y : World) (k2 : Keeps (InRow r b) wr y) => h.f.keep k2 h.mi
            have h3 := fun (y z : World) (wn : Nat) (h2 : TlAt y t r b bs sp (turnP (sizeN bs) sp P O) (turnO (sizeN bs) sp P O) wn) (k2 : Keeps (InRow r b) wr y) (hf : RtIs z m (sizeN bs) sp (turnP (sizeN bs) sp P O) (turnO (sizeN bs) sp P O)) (k3 : Keeps (fun k => k = m) y z) => (h.half h2 k2).two hf k3
            have hw3 := fun (y z : World) (k2 : Keeps (InRow r b) wr y) (k3 : Keeps (fun k => k = m) y z) => (hbw.trans (k2.below hbw.size h.into)).trans (k3.below (hbw.trans (k2.below hbw.size h.into)).size (fun k hk => by have := h.lm; omega))
            generalize turnE (sizeN bs) sp P O = E at *
            generalize turnP (sizeN bs) sp P O = P' at *
            generalize turnO (sizeN bs) sp P O = O' at *
            have z3 : (E != E) = false := by simp
            clear h hbw hp hq ho
            go_wp2_with fail
            refine hT.mono ?_
            rintro e y2 ⟨rfl, ⟨wn, hwn, h2⟩, k2⟩
            go_wp2_with fail
            refine (hR _ (hf _ k2)).mono ?_
            rintro e y3 ⟨rfl, hf3, k3⟩
            have HA := hide (h3 y2 y3 wn h2 k2 hf3 k3)
            have HW := hide (hw3 y2 y3 k2 k3)
            clear h3 hw3 hf hR hT h2 k2 hf3 k3
            go_wp2
            go_meet
            case rel => exact ⟨P', O', wn, by omega, HA.out, HW.out⟩
          by_cases k3 : ck = 3
          · subst k3
            have hT := tClose h.p (by omega)
            have hR := fun (y : World) (hy : RtIs y m (sizeN bs) sp P O) => rClose hy hp hq.2
            have hf := fun (y : World) (k2 : Keeps (InRow r b) wr y) => h.f.keep k2 h.mi
            have h3 := fun (y z : World) (wn : Nat) (h2 : TlAt y t r b bs sp (closeP sp P O) (closeO sp P O) wn) (k2 : Keeps (InRow r b) wr y) (hf : RtIs z m (sizeN bs) sp (closeP sp P O) (closeO sp P O)) (k3 : Keeps (fun k => k = m) y z) => (h.half h2 k2).two hf k3
            have hw3 := fun (y z : World) (k2 : Keeps (InRow r b) wr y) (k3 : Keeps (fun k => k = m) y z) => (hbw.trans (k2.below hbw.size h.into)).trans (k3.below (hbw.trans (k2.below hbw.size h.into)).size (fun k hk => by have := h.lm; omega))
            generalize closeE sp P O = E at *
            generalize closeP sp P O = P' at *
            generalize closeO sp P O = O' at *
            have z3 : (E != E) = false := by simp
            clear h hbw hp hq ho
            go_wp2_with fail
            refine hT.mono ?_
            rintro e y2 ⟨rfl, ⟨wn, hwn, h2⟩, k2⟩
            go_wp2_with fail
            refine (hR _ (hf _ k2)).mono ?_
            rintro e y3 ⟨rfl, hf3, k3⟩
            have HA := hide (h3 y2 y3 wn h2 k2 hf3 k3)
            have HW := hide (hw3 y2 y3 k2 k3)
            clear h3 hw3 hf hR hT h2 k2 hf3 k3
            go_wp2
            go_meet
            case rel => exact ⟨P', O', wn, by omega, HA.out, HW.out⟩
          by_cases k4 : ck = 4
          · subst k4
            have hT := tBegin (h.drew 1).p cn
            have hR := fun (y : World) (hy : RtIs y m (sizeN bs) sp P O) => rBegin hy cn
            have hf := fun (y : World) (k2 : Keeps (InRow r b) (wr.drewN 1) y) => (h.drew 1).f.keep k2 h.mi
            have h3 := fun (y z : World) (h2 : TlAt y t r b bs sp (tbegP sp P cn) (tbegO sp O cn) won) (k2 : Keeps (InRow r b) (wr.drewN 1) y) (hf : RtIs z m (sizeN bs) sp (tbegP sp P cn) (tbegO sp O cn)) (k3 : Keeps (fun k => k = m) y z) => ((h.drew 1).half h2 k2).two hf k3
            have hbw1 := below_drewN hbw 1
            have hw3 := fun (y z : World) (k2 : Keeps (InRow r b) (wr.drewN 1) y) (k3 : Keeps (fun k => k = m) y z) => (hbw1.trans (k2.below hbw1.size h.into)).trans (k3.below (hbw1.trans (k2.below hbw1.size h.into)).size (fun k hk => by have := h.lm; omega))
            generalize tbegE sp cn = E at *
            generalize tbegP sp P cn = P' at *
            generalize tbegO sp O cn = O' at *
            have z3 : (E != E) = false := by simp
            have hE : Hid (∀ y, Keeps (InRow r b) (wr.drewN 1) y → y.cell? ⟨bb, off + k * 2 + 1, none⟩ = some (.int .i64 cn)) := fun y k2 => (k2.cell (p := ⟨bb, off + k * 2 + 1, none⟩) hbl hbb).trans e1
            have hE2 : Hid (∀ y z, Keeps (InRow r b) (wr.drewN 1) y → Keeps (fun k => k = m) y z → z.cell? ⟨bb, off + k * 2 + 1, none⟩ = some (.int .i64 cn)) := fun y z k2 k3 => (k3.cell (p := ⟨bb, off + k * 2 + 1, none⟩) (Nat.lt_of_lt_of_le hbl k2.size) hbm).trans (hE.out y k2)
            clear h hbw hp hq ho
            go_wp2
            go_region_held3 (fun W => W.cell? ⟨bb, off + k * 2 + 1, none⟩ = some (.int .i64 cn)) (first | assumption | go_keep) (first | (go_at_call 15; refine hT.mono ?_; rintro e y2 ⟨rfl, h2, k2⟩; have q2 := hE.out y2 k2) | (go_at_call 16; refine (hR _ (hf _ k2)).mono ?_; rintro e y3 ⟨rfl, hf3, k3⟩; have q3 := hE2.out y2 y3 k2 k3))
            have HA := hide (h3 y2 y3 h2 k2 hf3 k3)
            have HW := hide (hw3 y2 y3 k2 k3)
            clear h3 hw3 hf hR hT h2 k2 hf3 k3 q2 q3 hE hE2 e0 e1
            go_wp2
            go_meet
            case rel => exact ⟨P', O', won, by omega, HA.out, HW.out⟩
          · clear e1
            have HA := hide h
            have HW := hide hbw
            clear h hbw
            go_wp2
            go_meet
            case rel => exact ⟨P, O, won, by omega, HA.out, HW.out⟩
        case rest =>
          clear h hbw e0 e1
          obtain ⟨P', O', won', hwn, h, hbw⟩ := hcut
          clear P O
          have hp := h.p.hp
          have hq := h.p.hs
          have ho := h.p.ho
          have hsb := sizeN_bounds bs
          have hm : P' * sizeN bs ≤ 64 * 512 := Nat.mul_le_mul (by omega) hsb
          have hPS : (P' : Int) * (sizeN bs : Int) = ((P' * sizeN bs : Nat) : Int) := by rw [Int.natCast_mul]
          have tP := fun (y : World) (hy : Two w.heap.size t r b m bs sp P' O' won' y) => tPage hy.p
          have tO := fun (y : World) (hy : Two w.heap.size t r b m bs sp P' O' won' y) => tOffset hy.p
          have tV := fun (y : World) (hy : Two w.heap.size t r b m bs sp P' O' won' y) => tOver hy.p
          have tA := fun (y : World) (hy : Two w.heap.size t r b m bs sp P' O' won' y) => tAddr hy.p
          have tL := fun (y : World) (hy : Two w.heap.size t r b m bs sp P' O' won' y) => tLast hy.p
          have rL := fun (y : World) (hy : Two w.heap.size t r b m bs sp P' O' won' y) => rLast hy.f (by omega)
          have hth := fun (y : World) (hy : Two w.heap.size t r b m bs sp P' O' won' y) => hy.three
          obtain ⟨c0, c2, c3⟩ := h.three
          have HA := hide h
          have HW := hide hbw
          clear h hbw
          obtain ⟨M, hM⟩ : ∃ M, M = min O' (sizeN bs) := ⟨_, rfl⟩
          obtain ⟨d, hd⟩ : ∃ d, d = decide (sp ≤ P' + 1) := ⟨_, rfl⟩
          obtain ⟨dv, hdv⟩ : ∃ dv, dv = decide (sizeN bs < O') := ⟨_, rfl⟩
          rw [← hM] at tO tA
          rw [← hd] at tL rL
          rw [← hdv] at tV
          have hdd : (d != d) = false := by simp
          have hvv : (dv != dv) = false := by simp
          have hQM : ((P' * sizeN bs : Nat) : Int) + (M : Int) = ((P' * sizeN bs + M : Nat) : Int) := by omega
          have hu := u64_of_nat (show P' * sizeN bs + M ≤ 9223372036854775807 by omega)
          have hAb : P' * sizeN bs + M ≤ 100000 := by omega
          have hw1 := i64_of_nat (show P' * sizeN bs + M ≤ 9223372036854775807 by omega)
          have hw2 := i64_of_nat (show P' * sizeN bs ≤ 9223372036854775807 by omega)
          generalize P' * sizeN bs + M = A at *
          generalize P' * sizeN bs = Q at *
          generalize sizeN bs = S at *
          have hdv' : decide (S < O') = dv := hdv.symm
          clear hd hdv
          go_upto_region 25 with fail
          go_cut [18] (fun s18 wx => s18 = .int .i64 (M : Int) ∧ ∃ q : Nat, wx = wc.drewN q)
          case first =>
            have HM := hide hM
            clear hM hdv' tP tO tV tA tL rL hth hdd hvv hQM hu hAb hw1 hw2 hPS
            go_quiet (fail)
            go_wp2
            all_goals
              go_meet
              exact ⟨by have := HM.out; congr 2; omega, _, rfl⟩
          case rest =>
            obtain ⟨rfl, q0, rfl⟩ := hcut
            have HA2 := hide (HA.out.drew q0)
            have HW2 := hide (below_drewN HW.out q0)
            clear HA HW hM c0 c2 c3
            generalize World.drewN _ q0 = Y at *
            obtain ⟨c0, c2, c3⟩ := hth Y HA2.out
            have h0 := HA2.out.drew 1
            have hB0 := below_drewN HW2.out 1
            clear HA2 HW2 hp hq ho
            go_wp2
            go_region_held3 (fun W => W.cell? ⟨m, 0, none⟩ = some (.int .i64 (S : Int)) ∧ W.cell? ⟨m, 2, none⟩ = some (.int .i64 (P' : Int)) ∧ W.cell? ⟨m, 3, none⟩ = some (.int .i64 (O' : Int))) (first | assumption | go_keep) (first | (go_at_call 17; refine (tP _ h0).mono ?_; rintro e y1 ⟨rfl, b1⟩; have h1 := h0.below b1; have q1 := hth y1 h1) | (go_at_call 18; refine (tO _ h1).mono ?_; rintro e y2 ⟨rfl, b2⟩; have h2 := h1.below b2; have q2 := hth y2 h2) | (go_at_call 19; refine (tV _ h2).mono ?_; rintro e y3 ⟨rfl, b3⟩; have h3 := h2.below b3; have q3 := hth y3 h3) | (go_at_call 20; refine (tA _ h3).mono ?_; rintro e y4 ⟨rfl, b4⟩; have h4 := h3.below b4; have q4 := hth y4 h4) | (go_at_call 21; refine (tL _ h4).mono ?_; rintro e y5 ⟨rfl, b5⟩; have h5 := h4.below b5; have q5 := hth y5 h5) | (go_at_call 22; refine (rL _ h5).mono ?_; rintro e y6 ⟨rfl, q, rfl⟩; have h6 := h5.drew q; have q6 := hth _ h6))
            have hB3 := (hB0.trans (b1.mono hB0.size)).trans ((b2.trans (b3.mono b2.size)).mono (hB0.trans (b1.mono hB0.size)).size)
            have hB5 := below_drewN (hB3.trans ((b4.trans (b5.mono b4.size)).mono hB3.size)) q
            have HA6 := hide h6
            have HB6 := hide hB5
            clear h0 h1 h2 h3 h4 h5 h6 q1 q2 q3 q4 q5 q6 b1 b2 b3 b4 b5 hB0 hB3 hB5 tP tO tV tA tL rL hth
            go_wp2
            go_roundw
            case rel => exact ⟨k + 1, P', O', won', by omega, by omega, by go_num, HA6.out, by omega, HB6.out⟩
            case measure => simp [intOf]; omega
      · go_wp2
        all_goals
          go_ret
          exact ⟨rfl, hbw⟩
  · have hn := fun (x : World) => tNew_no bs sp hg x
    have hn2 := fun (x : World) => rNew_no bs sp hg x
    clear hbs hsp
    go_enter Try.func3, Try.ntmps3
    go_wp2_with fail
    refine (awake14 _).mono ?_
    rintro e x1 ⟨rfl, b1⟩
    go_wp2_with fail
    refine (hn _).mono ?_
    rintro e x2 ⟨rfl, b2⟩
    replace b2 := b1.trans (b2.mono b1.size)
    go_wp2_with fail
    refine (hn2 _).mono ?_
    rintro e x3 ⟨rfl, b3⟩
    go_wp2
    go_ret
    exact ⟨rfl, b2.trans (b3.mono b2.size)⟩

set_option maxRecDepth 100000 in
theorem lifted (os : Os) (started : os.Started) (H : Type) (enc : TypeId × Value → H) :
    ReturnsInHanded {} Try.checked os 3 .any (Rows.tailPlaysSpec.pre6 enc Try.prog Try.f3 Rows.tailPlaysRow.domain false) (Rows.tailPlaysSpec.post enc Try.prog Try.f3 false true false false) := by
  refine returnsInHanded_of_change (C := Try.checked) own started (by kernel_rfl) Try.func3
    (ChangeSpec.witness6 (enc := enc) (C := Try.checked) false ⟨#[], #[.int .i64 0, .int .i64 0, .slice none 0 0], []⟩ 8 (by kernel_rfl) (by kernel_rfl) (by kernel_rfl) (by kernel_rfl)) ?_
  intro W base args ds gs before hval0 hW hcnd _
  have hval : ∀ (j : Nat) t v, Try.f3.params[j]? = some t → args[j]? = some v → Value.okWide Try.prog W .any base t v := hval0
  have hW' := hW
  obtain ⟨p, q, hA0, hV, rfl, hfz, hnd⟩ := hW
  have hA : DataW.TrodAll enc Try.prog W 0 (fun _ => true) true Try.f3.params.toList args.toList ds p := hA0
  rw [Try.params3] at hA hval
  obtain ⟨v0, vs0, d0, ds0, p0, q0, hargs, rfl, rfl, h0, r0⟩ := trodAll_cons hA
  obtain ⟨v1, vs1, d1, ds1, p1, q1, rfl, rfl, rfl, h1, r1⟩ := trodAll_cons r0
  obtain ⟨v2, vs2, d2, ds2, p2, q2, rfl, rfl, rfl, h2, r2⟩ := trodAll_cons r1
  obtain ⟨rfl, rfl, rfl⟩ := trodAll_nil r2
  obtain rfl : args = #[v0, v1, v2] := by cases args; simp_all
  obtain ⟨rfl, rfl⟩ := trodVars_none hV
  obtain ⟨a0, rfl, rfl, rfl, w0⟩ := open_int Try.underlying3 (hval 0 3 v0 rfl rfl) h0
  obtain ⟨a1, rfl, rfl, rfl, w1⟩ := open_int Try.underlying3 (hval 1 3 v1 rfl rfl) h1
  have k2 := h2
  have lt2 : ∀ x ∈ p2, x.block < W.heap.size := by obtain ⟨m, hm⟩ := k2; exact DataW.trod_lt m _ _ _ hm
  have o2 := open_Tks (hval 2 22 v2 rfl rfl) h2
  clear hA0 hval0
  refine (walk W a0 w0 a1 w1 v2 o2).mono fun e W' ⟨he, bel⟩ => ?_
  subst he
  exact ⟨_, rfl, _, _, _, [], _, [], hW', trodAll_mk1 (shut_bool Try.underlying4 _), (trodAll_cons_mk (shut_int Try.underlying3 w0) (trodAll_cons_mk (shut_int Try.underlying3 w1) (trodAll_cons_mk (Below.trod laidOut (by kernel_rfl) (of_decide_eq_true (by kernel_rfl)) k2 bel lt2) trodAll_mk0))), rfl, bel.frame _, fun h => by cases h⟩

theorem over : Rows.tailPlaysRow.holds Try.pinned (OpenSpec.ofChange Rows.tailPlaysSpec) :=
  OpenClaim.holds_of_wide 3 Try.f3 rfl rfl rfl rfl rfl rfl rfl ⟨rfl, rfl, rfl, rfl, rfl⟩ rfl rfl rfl rfl rfl (by kernel_rfl) Try.func3 (by kernel_rfl)
    (of_decide_eq_true (by kernel_rfl)) (by unfold Func.isWrapper; first | (rw [if_pos (by decide +kernel)]; kernel_rfl) | (rw [if_neg (by decide +kernel)]; exact ⟨rfl, rfl⟩))
    (fun os started H enc _ => lifted os started H enc)

theorem proved : Rows.TailPlaysSaid := over
#print axioms proved

end Go.Proofs.Ytpkoohpobcfjcaa.tailPlays
