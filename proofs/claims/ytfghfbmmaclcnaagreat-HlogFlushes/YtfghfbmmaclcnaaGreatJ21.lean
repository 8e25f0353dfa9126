/- Parts of the proof: Vk Vl Vm. -/
import Derived.Test.YtfghfbmmaclcnaaGreatJ20
namespace Go.Proofs.YtfghfbmmaclcnaaGreat
set_option maxRecDepth 20000
open Go.RowKit Go.Maps
section
variable {w : World} {o : Nat → Nat} {a : Ad} {c : Cf} {s : Hs} {k : Nat}
set_option maxHeartbeats 2000000 in
/-- Help. -/
theorem hl_help (h : Hp w o a c s k) (hw : Wf c s k) (hk : k ≤ 900) :
    Calls Tryz.prog 29 #[.pointer (some ⟨a.l, 0, none⟩)] w fun e w' => e = .returned (.bool (helpR c s).1) ∧ Hq w o a c (helpR c s).2 (k + 1) w' := by
  have hP := h.hP
  have hn := h.hn
  have c0 := h.c0
  obtain ⟨won, hwon, ht⟩ := h.tl
  have hla := tLast ht
  have H := hide h
  have HG := hide (fun x (b : Below w.heap.size w x) S' k' w'' (q : Hq x o a c S' k' w'') => Gq.after h b q)
  have H0 := hide (fun x (b : Below w.heap.size w x) => (h.here.more (Nat.le_succ k)).below b)
  obtain ⟨nd, hnd⟩ : ∃ nd, nd = needN c s := ⟨_, rfl⟩
  have HND := hide (fun x (b : Below w.heap.size w x) => hl_need (h.below b) nd hnd)
  have hnl : nd ≤ 100 := by unfold needN at hnd; omega
  obtain ⟨m3, hm3⟩ : ∃ m3, s.m 3 = m3 := ⟨_, rfl⟩
  obtain ⟨m2, hm2⟩ : ∃ m2, s.m 2 = m2 := ⟨_, rfl⟩
  obtain ⟨m1, hm1⟩ : ∃ m1, s.m 1 = m1 := ⟨_, rfl⟩
  obtain ⟨m0, hm0⟩ : ∃ m0, s.m 0 = m0 := ⟨_, rfl⟩
  have HA3 := hide (fun x (b : Below w.heap.size w x) => mk_at (h.below b).mm 3 3 rfl (by omega) m3 hm3)
  have HA2 := hide (fun x (b : Below w.heap.size w x) => mk_at (h.below b).mm 2 2 rfl (by omega) m2 hm2)
  have HA1 := hide (fun x (b : Below w.heap.size w x) => mk_at (h.below b).mm 1 1 rfl (by omega) m1 hm1)
  have HA0 := hide (fun x (b : Below w.heap.size w x) => mk_at (h.below b).mm 0 0 rfl (by omega) m0 hm0)
  have HSH := hide (fun x (b : Below w.heap.size w x) => hl_shiftHd (h.below b) hw hk (nd : Int) (by omega))
  have HSR := hide (fun x (b : Below w.heap.size w x) => hl_shiftRO (h.below b) hw hk (nd : Int) (by omega))
  have HFF := hide (fun x (b : Below w.heap.size w x) (h2 : s.m 2 ≤ nd) B S' hB hS => hl_flushFirst (h.below b) hw hk nd hnl h2 B S' hB hS)
  unfold helpR
  rw [hm3, hm2, hm1, hm0]
  rw [hm2] at HFF
  rw [← hnd]
  clear hw ht hm3 hm2 hm1 hm0 hnd h
  by_cases g0 : c.sp ≤ s.P + 1
  · rw [if_pos g0]
    have g0' : decide (c.sp ≤ s.P + 1) = true := decide_eq_true g0
    rw [g0'] at hla
    clear g0 g0' hP
    go_enter Tryz.func29, Tryz.ntmps29
    go_wp2_with fail
    refine hla.mono ?_
    rintro e x ⟨rfl, b⟩
    go_wp2
    go_ret
    exact ⟨rfl, H0.out _ b⟩
  rw [if_neg g0]
  have g0' : decide (c.sp ≤ s.P + 1) = false := decide_eq_false g0
  rw [g0'] at hla
  clear g0 g0' hP
  by_cases g1 : nd ≤ m3
  · rw [if_pos g1]
    go_enter Tryz.func29, Tryz.ntmps29
    go_wp2_with fail
    refine hla.mono ?_
    rintro e x ⟨rfl, b⟩
    have hnd := HND.out x b
    go_wp2_with fail
    refine hnd.mono ?_
    rintro e y ⟨rfl, b2⟩
    have hby := b.trans (b2.mono b.size)
    have c2 := (H.out.below hby).c2
    have ha3 := HA3.out y hby
    go_wp2_with fail
    refine ha3.mono ?_
    rintro e z ⟨rfl, rfl⟩
    go_wp2
    go_ret
    exact ⟨rfl, H0.out _ hby⟩
  rw [if_neg g1]
  by_cases g2 : nd ≤ m2
  · rw [if_pos g2]
    generalize shiftE s 3 (nd : Int) = E at *
    generalize shiftS c s 3 2 (nd : Int) = S1 at *
    go_enter Tryz.func29, Tryz.ntmps29
    go_wp2_with fail
    refine hla.mono ?_
    rintro e x ⟨rfl, b⟩
    have hnd := HND.out x b
    go_wp2_with fail
    refine hnd.mono ?_
    rintro e y ⟨rfl, b2⟩
    have hby := b.trans (b2.mono b.size)
    have c2 := (H.out.below hby).c2
    have ha3 := HA3.out y hby
    go_wp2_with fail
    refine ha3.mono ?_
    rintro e z ⟨rfl, rfl⟩
    have ha2 := HA2.out _ hby
    go_wp2_with fail
    refine ha2.mono ?_
    rintro e z2 ⟨rfl, hz2⟩
    subst hz2
    have hc := HSH.out _ hby
    go_wp2_with fail
    refine hc.mono ?_
    rintro e y2 ⟨rfl, hq⟩
    have HF := hide (HG.out _ hby _ _ _ hq)
    clear hq hc HG
    go_wp2
    go_ret
    exact ⟨ret_bool (by rfl), HF.out⟩
  rw [if_neg g2]
  by_cases g3 : nd ≤ m1
  · rw [if_pos g3]
    obtain ⟨B, hB⟩ : ∃ B, B = if firstU s.L m2 (nd - m2) < nd then decide (flushE c s (firstU s.L m2 (nd - m2) : Nat) = 0) else false := ⟨_, rfl⟩
    obtain ⟨S1, hS⟩ : ∃ S1, S1 = if firstU s.L m2 (nd - m2) < nd then flushS c s (firstU s.L m2 (nd - m2) : Nat) else s := ⟨_, rfl⟩
    have e1 : (if firstU s.L m2 (nd - m2) < nd then (decide (flushE c s (firstU s.L m2 (nd - m2) : Nat) = 0), flushS c s (firstU s.L m2 (nd - m2) : Nat)) else (false, s)) = (B, S1) := by
      rw [hB, hS]
      split <;> rfl
    rw [e1]
    have HFB := hide (fun x (b : Below w.heap.size w x) => HFF.out x b (by omega) B S1 hB hS)
    clear hB hS e1 HFF
    go_enter Tryz.func29, Tryz.ntmps29
    go_wp2_with fail
    refine hla.mono ?_
    rintro e x ⟨rfl, b⟩
    have hnd := HND.out x b
    go_wp2_with fail
    refine hnd.mono ?_
    rintro e y ⟨rfl, b2⟩
    have hby := b.trans (b2.mono b.size)
    have c2 := (H.out.below hby).c2
    have ha3 := HA3.out y hby
    go_wp2_with fail
    refine ha3.mono ?_
    rintro e z ⟨rfl, rfl⟩
    have ha2 := HA2.out _ hby
    go_wp2_with fail
    refine ha2.mono ?_
    rintro e z2 ⟨rfl, hz2⟩
    subst hz2
    have ha1 := HA1.out _ hby
    go_wp2_with fail
    refine ha1.mono ?_
    rintro e z1 ⟨rfl, hz1⟩
    subst hz1
    have hc := HFB.out _ hby
    go_wp2_with fail
    refine hc.mono ?_
    rintro e y2 ⟨rfl, hq⟩
    have HF := hide (HG.out _ hby _ _ _ hq)
    clear hq hc HG
    go_wp2
    go_ret
    exact ⟨ret_bool (by rfl), HF.out⟩
  rw [if_neg g3]
  by_cases g4 : m0 < nd
  · rw [if_pos g4]
    generalize shiftE s 0 (nd : Int) = E at *
    generalize shiftS c s 0 1 (nd : Int) = S1 at *
    go_enter Tryz.func29, Tryz.ntmps29
    go_wp2_with fail
    refine hla.mono ?_
    rintro e x ⟨rfl, b⟩
    have hnd := HND.out x b
    go_wp2_with fail
    refine hnd.mono ?_
    rintro e y ⟨rfl, b2⟩
    have hby := b.trans (b2.mono b.size)
    have c2 := (H.out.below hby).c2
    have ha3 := HA3.out y hby
    go_wp2_with fail
    refine ha3.mono ?_
    rintro e z ⟨rfl, rfl⟩
    have ha2 := HA2.out _ hby
    go_wp2_with fail
    refine ha2.mono ?_
    rintro e z2 ⟨rfl, hz2⟩
    subst hz2
    have ha1 := HA1.out _ hby
    go_wp2_with fail
    refine ha1.mono ?_
    rintro e z1 ⟨rfl, hz1⟩
    subst hz1
    have ha0 := HA0.out _ hby
    go_wp2_with fail
    refine ha0.mono ?_
    rintro e z0 ⟨rfl, hz0⟩
    subst hz0
    have hc := HSR.out _ hby
    go_wp2_with fail
    refine hc.mono ?_
    rintro e y2 ⟨rfl, hq⟩
    have HF := hide (HG.out _ hby _ _ _ hq)
    clear hq hc HG
    go_wp2
    go_ret
    exact ⟨ret_bool (by rfl), HF.out⟩
  · rw [if_neg g4]
    go_enter Tryz.func29, Tryz.ntmps29
    go_wp2_with fail
    refine hla.mono ?_
    rintro e x ⟨rfl, b⟩
    have hnd := HND.out x b
    go_wp2_with fail
    refine hnd.mono ?_
    rintro e y ⟨rfl, b2⟩
    have hby := b.trans (b2.mono b.size)
    have c2 := (H.out.below hby).c2
    have ha3 := HA3.out y hby
    go_wp2_with fail
    refine ha3.mono ?_
    rintro e z ⟨rfl, rfl⟩
    have ha2 := HA2.out _ hby
    go_wp2_with fail
    refine ha2.mono ?_
    rintro e z2 ⟨rfl, hz2⟩
    subst hz2
    have ha1 := HA1.out _ hby
    go_wp2_with fail
    refine ha1.mono ?_
    rintro e z1 ⟨rfl, hz1⟩
    subst hz1
    have ha0 := HA0.out _ hby
    go_wp2_with fail
    refine ha0.mono ?_
    rintro e z0 ⟨rfl, hz0⟩
    subst hz0
    go_wp2
    go_ret
    exact ⟨rfl, H0.out _ hby⟩
end
end Go.Proofs.YtfghfbmmaclcnaaGreat
namespace Go.Proofs.YtfghfbmmaclcnaaGreat
set_option maxRecDepth 20000
open Go.RowKit Go.Maps
theorem updF_twice (F : Nat → Option Pg) (i : Nat) (x y : Option Pg) : updF (updF F i x) i y = updF F i y := by
  funext j
  unfold updF
  split <;> rfl
section
variable {w : World} {o : Nat → Nat} {a : Ad} {c : Cf} {s : Hs} {f g : Int → Option Int} {k : Nat}
theorem close_leaving (h : Hg w o a c s f g k) (hw : Wf c s k) (z : Int) (hz : z = (s.P : Int) + 1 - (c.n : Int)) :
    Calls Tryz.prog 166 #[.pointer (some ⟨a.bt, 0, none⟩), .int .i64 z] w fun e w' => ∃ (ce : Int) (o1 : Nat → Nat) (F1 : Nat → Option Pg), e = .returned (.int .i64 ce) ∧ Hg w' o1 a c { s with F := F1 } f g k ∧ Ext o o1 w w' ∧ Keeps (Ow9 o) w w' ∧ F1 ((s.P + 1) % c.n) = none ∧ ∀ x, updF F1 ((s.P + 1) % c.n) x = updF s.F ((s.P + 1) % c.n) x := by
  obtain ⟨fb, g', o', hp⟩ := h.pb
  have hn := hp.hn
  have hP := h.hP
  by_cases hq : c.n ≤ s.P + 1
  · obtain ⟨v, hF⟩ := (hw.pg (s.P + 1 - c.n)).2 ⟨by omega, by omega⟩
    have hz' : z = ((s.P + 1 - c.n : Nat) : Int) := by omega
    have hm : (s.P + 1 - c.n) % c.n = (s.P + 1) % c.n := by
      have : s.P + 1 = (s.P + 1 - c.n) + c.n := by omega
      rw [this, Nat.add_mod_right, ← this]
    subst hz'
    refine (pb_close_yes hp _ v hF).mono ?_
    rintro e w' ⟨rfl, hp1, k1⟩
    obtain ⟨o1, g1, X1, K1⟩ := h.setBf k1 (hp1.wider (fun x e => .inl e)) (Nat.le_refl _)
    refine ⟨0, o1, _, rfl, g1, X1, K1, ?_, fun x => ?_⟩
    · rw [hm]; exact updF_same _ _ _
    · rw [hm]; exact updF_twice _ _ _ _
  · refine (pb_close_no hp z (by omega) (fun P e => by omega)).mono ?_
    rintro e w' ⟨rfl, b⟩
    refine ⟨7, o, s.F, rfl, h.below b, Ext.refl h.sz, Below.keeps b, ?_, fun x => rfl⟩
    cases e : s.F ((s.P + 1) % c.n) with
    | none => rfl
    | some x =>
      obtain ⟨p, v⟩ := x
      obtain ⟨-, -, e1, -⟩ := hp.som _ (Nat.mod_lt _ (by omega)) p v e
      have h1 := (hw.pg p).1 ⟨v, by rw [e1]; exact e⟩
      rw [Nat.mod_eq_of_lt (by omega), Nat.mod_eq_of_lt (by omega)] at e1
      omega
theorem open_next (h : Hg w o a c s f g k) (hn : s.F ((s.P + 1) % c.n) = none) (z : Int) (hz : z = (s.P : Int) + 1) :
    Calls Tryz.prog 77 #[.pointer (some ⟨a.bt, 0, none⟩), .int .i64 z] w fun e w' => e = .returned (.int .i64 0) ∧ Gq w o a c { s with F := updF s.F ((s.P + 1) % c.n) (some (s.P + 1, fun _ => 0)) } f g k w' := by
  obtain ⟨fb, g', o', hp⟩ := h.pb
  have hP := h.hP
  have hz' : z = ((s.P + 1 : Nat) : Int) := by omega
  subst hz'
  refine (pb_open_yes hp (s.P + 1) (by omega) hn (fun x e => h.sz x (by omega))).mono ?_
  rintro e w' ⟨rfl, hp1, k1⟩
  exact ⟨rfl, h.setBf k1 hp1 (Nat.le_refl _)⟩
end
section
variable {w : World} {o : Nat → Nat} {a : Ad} {c : Cf} {s : Hs} {k : Nat}
set_option maxHeartbeats 2000000 in
theorem hl_goOnT (h : Hp w o a c s k) (hw : Wf c s k) (hk : k ≤ 900) (hO : sizeN c.b < s.O) :
    Calls Tryz.prog 83 #[.pointer (some ⟨a.l, 0, none⟩), .func (.func 84) #[.pointer (some ⟨a.t, 0, none⟩)] #[]] w fun e w' => e = .returned (.int .i64 (goE c s)) ∧ Hq w o a c (goS c s) (k + 1) w' := by
  have hP := h.hP
  have hn := h.hn
  have c0 := h.c0
  obtain ⟨won, hwon, ht⟩ := h.tl
  have hla := tLast ht
  have H := hide h
  have HG := hide (fun x (b : Below w.heap.size w x) f' g' S' k' w'' (q : Gq x o a c S' f' g' k' w'') => Gq.after h b q)
  have H0 := hide (fun x (b : Below w.heap.size w x) => (h.here.more (Nat.le_succ k)).below b)
  obtain ⟨nd, hnd⟩ : ∃ nd, nd = needN c s := ⟨_, rfl⟩
  have HND := hide (fun x (b : Below w.heap.size w x) => hl_need (h.below b) nd hnd)
  have HLV := hide (fun x (b : Below w.heap.size w x) => hl_leaving (h.below b))
  obtain ⟨m4, hm4⟩ : ∃ m4, s.m 4 = m4 := ⟨_, rfl⟩
  have HA4 := hide (fun x (b : Below w.heap.size w x) => mk_at (h.below b).mm 4 4 rfl (by omega) m4 hm4)
  have HHP := hide (fun x (b : Below w.heap.size w x) => hl_help (h.below b) hw hk)
  have HCL := hide (fun x (b : Below w.heap.size w x) z hz => close_leaving (h.below b) hw z hz)
  unfold goE goS
  rw [hm4, ← hnd]
  clear hw ht hm4 hnd h
  by_cases g0 : c.sp ≤ s.P + 1
  · rw [if_pos g0, if_pos g0]
    have g0' : decide (c.sp ≤ s.P + 1) = true := decide_eq_true g0
    rw [g0'] at hla
    clear g0 g0' hP
    go_enter Tryz.func83, Tryz.ntmps83
    go_wp2_with fail
    refine hla.mono ?_
    rintro e x ⟨rfl, b⟩
    go_wp2
    go_ret
    exact ⟨rfl, H0.out _ b⟩
  rw [if_neg g0, if_neg g0]
  have g0' : decide (c.sp ≤ s.P + 1) = false := decide_eq_false g0
  rw [g0'] at hla
  have HG0 := hide g0
  clear g0 g0'
  by_cases g1 : m4 < nd
  · rw [if_pos g1, if_pos g1]
    generalize (helpR c s).1 = HB at *
    generalize (helpR c s).2 = S1 at *
    go_enter Tryz.func83, Tryz.ntmps83
    go_wp2_with fail
    refine hla.mono ?_
    rintro e x ⟨rfl, b⟩
    have HX := hide (H.out.below b)
    have c0x := HX.out.c0
    have c2x := HX.out.c2
    have ha4 := HA4.out x b
    go_wp2_with fail
    refine ha4.mono ?_
    rintro e y ⟨rfl, hy⟩
    subst hy
    have hnd := HND.out _ b
    go_wp2_with fail
    refine hnd.mono ?_
    rintro e y2 ⟨rfl, b2⟩
    have hb2 := b.trans (b2.mono b.size)
    all_goals
      have hhp := HHP.out _ hb2
      clear HHP HA4 HND HCL HLV
      go_wp2_with fail
      refine hhp.mono ?_
      rintro e y3 ⟨rfl, hq⟩
      have HF := hide (HG.out _ hb2 _ _ _ _ _ hq)
      clear hq hhp HG
      go_wp2
      go_ret
      exact ⟨rfl, HF.out⟩
  · rw [if_neg g1, if_neg g1]
    have HNX := hide (fun (F1 : Nat → Option Pg) (hF : ∀ x, updF F1 ((s.P + 1) % c.n) x = updF s.F ((s.P + 1) % c.n) x) => (by unfold nextS; rw [hF] : ({ s with F := updF F1 ((s.P + 1) % c.n) (some (s.P + 1, fun _ => 0)), P := s.P + 1, O := 0 } : Hs) = nextS c s))
    obtain ⟨lz, hlz⟩ : ∃ lz, lz = (s.P : Int) + 1 - (c.n : Int) := ⟨_, rfl⟩
    obtain ⟨nz, hnz⟩ : ∃ nz, nz = (s.P : Int) + 1 := ⟨_, rfl⟩
    rw [← hlz] at HLV
    have HCL2 := hide (fun x b => HCL.out x b lz hlz)
    have wnz : IntKind.i64.wrap ((s.P : Int) + 1) = nz := by rw [i64_small (by omega) (by omega), hnz]
    have HNZ := hide hnz
    clear hlz hnz HCL
    obtain ⟨S2, hS2⟩ : ∃ S2, S2 = nextS c s := ⟨_, rfl⟩
    rw [← hS2]
    rw [← hS2] at HNX
    have HS2 : Hid (flyF S2.L = flyF s.L ∧ lanF S2.L (S2.m 2) = lanF s.L (s.m 2)) := by rw [hS2]; exact ⟨rfl, rfl⟩
    clear hS2
    go_enter Tryz.func83, Tryz.ntmps83
    go_wp2_with fail
    refine hla.mono ?_
    rintro e x ⟨rfl, b⟩
    have HX := hide (H.out.below b)
    have c0x := HX.out.c0
    have c2x := HX.out.c2
    have ha4 := HA4.out x b
    go_wp2_with fail
    refine ha4.mono ?_
    rintro e y ⟨rfl, hy⟩
    subst hy
    have hnd := HND.out _ b
    go_wp2_with fail
    refine hnd.mono ?_
    rintro e y2 ⟨rfl, b2⟩
    have hb2 := b.trans (b2.mono b.size)
    all_goals
      have HY2 := hide (H.out.below hb2)
      have c1y := HY2.out.c1
      have hb3 := below_drewN hb2 1
      clear HHP HA4 HND c2x c0x ha4 hnd
      go_wp2
      go_region_held3 (fun W => W.cell? ⟨a.l, 1, none⟩ = some (.pointer (some ⟨a.bt, 0, none⟩))) (first | assumption | go_keep) (first | (go_at_call 167; refine (HLV.out _ hb3).mono ?_; rintro e y3 ⟨rfl, b4⟩; have hb4 := hb3.trans (b4.mono hb3.size); have q1 := (H.out.below hb4).c1) | (go_at_call 166; refine (HCL2.out _ hb4).mono ?_; rintro e y4 ⟨ce, o1, F1, rfl, g4, X4, K4, hF1, hF2⟩; have r1 := g4.c1; have HG4 := hide (fun f' g' S' k' w'' (q : Gq y4 o1 a c S' f' g' k' w'') => HG.out _ hb4 _ _ _ _ _ (Gq.trans X4 K4 q)); have HF1 := hide hF1; have HN2 := hide (HNX.out F1 hF2)))
      all_goals
        have r0 := g4.c0
        have G4 := hide g4
        have HD4 := hide (g4.drew 1)
        clear HG HCL2 HLV hF1 hF2 X4 K4 g4 q1 HY2 HX c1y HNX
        go_wp2
        go_region_held3 (fun W => W.cell? ⟨a.l, 0, none⟩ = some (.pointer (some ⟨a.t, 0, none⟩)) ∧ W.cell? ⟨a.l, 1, none⟩ = some (.pointer (some ⟨a.bt, 0, none⟩))) (first | assumption | go_keep) (first | (go_at_call 39; obtain ⟨won5, hw5, ht5⟩ := HD4.out.tl; refine (tPage ht5).mono ?_; rintro e y5 ⟨rfl, b5⟩; have HY5 := hide (HD4.out.below b5); have t0 := HY5.out.c0; have t1 := HY5.out.c1; have HB5 := hide ((below_drewN (Below.refl y4.heap.size y4) 1).trans b5)) | (go_at_call 77; refine (open_next HY5.out HF1.out nz HNZ.out).mono ?_; rintro e y6 ⟨rfl, hq6⟩; obtain ⟨o6, g6, X6, K6⟩ := hq6; have u0 := g6.c0; have u1 := g6.c1; have HG6 := hide (fun f' g' S' k' w'' (q : Gq y6 o6 a c S' f' g' k' w'') => HG4.out _ _ _ _ _ (Gq.after G4.out HB5.out (Gq.trans X6 K6 q)))))
        all_goals
          obtain ⟨won7, hw7, ht7⟩ := g6.tl
          have hst := tTurn_on ht7 hO HG0.out (by omega)
          have HFin := hide (fun y7 (k7 : Keeps (InRow a.tr a.tb) y6 y7) (t7 : TlAt y7 a.t a.tr a.tb c.b c.sp (s.P + 1) 0 (won7 + 1)) => HG6.out _ _ _ _ _ (g6.setTl k7 t7 (show won7 + 1 ≤ k + 1 by omega) (Nat.le_succ k)))
          clear HG4 HG6 X6 K6 g6 HY5 HD4 G4 HB5 ht5 ht7
          go_wp2_with fail
          refine hst.mono ?_
          rintro e y7 ⟨rfl, t7, k7⟩
          have HF : Hid (Hq w o a c S2 (k + 1) y7) := by
            have h1 := HFin.out y7 k7 t7
            unfold Hid Hq
            rw [HS2.out.1, HS2.out.2, ← HN2.out]
            exact h1
          clear HFin k7 t7 hst
          go_wp2
          go_ret
          exact ⟨rfl, HF.out⟩
set_option maxHeartbeats 2000000 in
theorem hl_goOnC (h : Hp w o a c s k) (hw : Wf c s k) (hk : k ≤ 900) (hO : 0 < s.O) :
    Calls Tryz.prog 83 #[.pointer (some ⟨a.l, 0, none⟩), .func (.func 86) #[.pointer (some ⟨a.t, 0, none⟩)] #[]] w fun e w' => e = .returned (.int .i64 (goE c s)) ∧ Hq w o a c (goS c s) (k + 1) w' := by
  have hP := h.hP
  have hn := h.hn
  have c0 := h.c0
  obtain ⟨won, hwon, ht⟩ := h.tl
  have hla := tLast ht
  have H := hide h
  have HG := hide (fun x (b : Below w.heap.size w x) f' g' S' k' w'' (q : Gq x o a c S' f' g' k' w'') => Gq.after h b q)
  have H0 := hide (fun x (b : Below w.heap.size w x) => (h.here.more (Nat.le_succ k)).below b)
  obtain ⟨nd, hnd⟩ : ∃ nd, nd = needN c s := ⟨_, rfl⟩
  have HND := hide (fun x (b : Below w.heap.size w x) => hl_need (h.below b) nd hnd)
  have HLV := hide (fun x (b : Below w.heap.size w x) => hl_leaving (h.below b))
  obtain ⟨m4, hm4⟩ : ∃ m4, s.m 4 = m4 := ⟨_, rfl⟩
  have HA4 := hide (fun x (b : Below w.heap.size w x) => mk_at (h.below b).mm 4 4 rfl (by omega) m4 hm4)
  have HHP := hide (fun x (b : Below w.heap.size w x) => hl_help (h.below b) hw hk)
  have HCL := hide (fun x (b : Below w.heap.size w x) z hz => close_leaving (h.below b) hw z hz)
  unfold goE goS
  rw [hm4, ← hnd]
  clear hw ht hm4 hnd h
  by_cases g0 : c.sp ≤ s.P + 1
  · rw [if_pos g0, if_pos g0]
    have g0' : decide (c.sp ≤ s.P + 1) = true := decide_eq_true g0
    rw [g0'] at hla
    clear g0 g0' hP
    go_enter Tryz.func83, Tryz.ntmps83
    go_wp2_with fail
    refine hla.mono ?_
    rintro e x ⟨rfl, b⟩
    go_wp2
    go_ret
    exact ⟨rfl, H0.out _ b⟩
  rw [if_neg g0, if_neg g0]
  have g0' : decide (c.sp ≤ s.P + 1) = false := decide_eq_false g0
  rw [g0'] at hla
  have HG0 := hide g0
  clear g0 g0'
  by_cases g1 : m4 < nd
  · rw [if_pos g1, if_pos g1]
    generalize (helpR c s).1 = HB at *
    generalize (helpR c s).2 = S1 at *
    go_enter Tryz.func83, Tryz.ntmps83
    go_wp2_with fail
    refine hla.mono ?_
    rintro e x ⟨rfl, b⟩
    have HX := hide (H.out.below b)
    have c0x := HX.out.c0
    have c2x := HX.out.c2
    have ha4 := HA4.out x b
    go_wp2_with fail
    refine ha4.mono ?_
    rintro e y ⟨rfl, hy⟩
    subst hy
    have hnd := HND.out _ b
    go_wp2_with fail
    refine hnd.mono ?_
    rintro e y2 ⟨rfl, b2⟩
    have hb2 := b.trans (b2.mono b.size)
    all_goals
      have hhp := HHP.out _ hb2
      clear HHP HA4 HND HCL HLV
      go_wp2_with fail
      refine hhp.mono ?_
      rintro e y3 ⟨rfl, hq⟩
      have HF := hide (HG.out _ hb2 _ _ _ _ _ hq)
      clear hq hhp HG
      go_wp2
      go_ret
      exact ⟨rfl, HF.out⟩
  · rw [if_neg g1, if_neg g1]
    have HNX := hide (fun (F1 : Nat → Option Pg) (hF : ∀ x, updF F1 ((s.P + 1) % c.n) x = updF s.F ((s.P + 1) % c.n) x) => (by unfold nextS; rw [hF] : ({ s with F := updF F1 ((s.P + 1) % c.n) (some (s.P + 1, fun _ => 0)), P := s.P + 1, O := 0 } : Hs) = nextS c s))
    obtain ⟨lz, hlz⟩ : ∃ lz, lz = (s.P : Int) + 1 - (c.n : Int) := ⟨_, rfl⟩
    obtain ⟨nz, hnz⟩ : ∃ nz, nz = (s.P : Int) + 1 := ⟨_, rfl⟩
    rw [← hlz] at HLV
    have HCL2 := hide (fun x b => HCL.out x b lz hlz)
    have wnz : IntKind.i64.wrap ((s.P : Int) + 1) = nz := by rw [i64_small (by omega) (by omega), hnz]
    have HNZ := hide hnz
    clear hlz hnz HCL
    obtain ⟨S2, hS2⟩ : ∃ S2, S2 = nextS c s := ⟨_, rfl⟩
    rw [← hS2]
    rw [← hS2] at HNX
    have HS2 : Hid (flyF S2.L = flyF s.L ∧ lanF S2.L (S2.m 2) = lanF s.L (s.m 2)) := by rw [hS2]; exact ⟨rfl, rfl⟩
    clear hS2
    go_enter Tryz.func83, Tryz.ntmps83
    go_wp2_with fail
    refine hla.mono ?_
    rintro e x ⟨rfl, b⟩
    have HX := hide (H.out.below b)
    have c0x := HX.out.c0
    have c2x := HX.out.c2
    have ha4 := HA4.out x b
    go_wp2_with fail
    refine ha4.mono ?_
    rintro e y ⟨rfl, hy⟩
    subst hy
    have hnd := HND.out _ b
    go_wp2_with fail
    refine hnd.mono ?_
    rintro e y2 ⟨rfl, b2⟩
    have hb2 := b.trans (b2.mono b.size)
    all_goals
      have HY2 := hide (H.out.below hb2)
      have c1y := HY2.out.c1
      have hb3 := below_drewN hb2 1
      clear HHP HA4 HND c2x c0x ha4 hnd
      go_wp2
      go_region_held3 (fun W => W.cell? ⟨a.l, 1, none⟩ = some (.pointer (some ⟨a.bt, 0, none⟩))) (first | assumption | go_keep) (first | (go_at_call 167; refine (HLV.out _ hb3).mono ?_; rintro e y3 ⟨rfl, b4⟩; have hb4 := hb3.trans (b4.mono hb3.size); have q1 := (H.out.below hb4).c1) | (go_at_call 166; refine (HCL2.out _ hb4).mono ?_; rintro e y4 ⟨ce, o1, F1, rfl, g4, X4, K4, hF1, hF2⟩; have r1 := g4.c1; have HG4 := hide (fun f' g' S' k' w'' (q : Gq y4 o1 a c S' f' g' k' w'') => HG.out _ hb4 _ _ _ _ _ (Gq.trans X4 K4 q)); have HF1 := hide hF1; have HN2 := hide (HNX.out F1 hF2)))
      all_goals
        have r0 := g4.c0
        have G4 := hide g4
        have HD4 := hide (g4.drew 1)
        clear HG HCL2 HLV hF1 hF2 X4 K4 g4 q1 HY2 HX c1y HNX
        go_wp2
        go_region_held3 (fun W => W.cell? ⟨a.l, 0, none⟩ = some (.pointer (some ⟨a.t, 0, none⟩)) ∧ W.cell? ⟨a.l, 1, none⟩ = some (.pointer (some ⟨a.bt, 0, none⟩))) (first | assumption | go_keep) (first | (go_at_call 39; obtain ⟨won5, hw5, ht5⟩ := HD4.out.tl; refine (tPage ht5).mono ?_; rintro e y5 ⟨rfl, b5⟩; have HY5 := hide (HD4.out.below b5); have t0 := HY5.out.c0; have t1 := HY5.out.c1; have HB5 := hide ((below_drewN (Below.refl y4.heap.size y4) 1).trans b5)) | (go_at_call 77; refine (open_next HY5.out HF1.out nz HNZ.out).mono ?_; rintro e y6 ⟨rfl, hq6⟩; obtain ⟨o6, g6, X6, K6⟩ := hq6; have u0 := g6.c0; have u1 := g6.c1; have HG6 := hide (fun f' g' S' k' w'' (q : Gq y6 o6 a c S' f' g' k' w'') => HG4.out _ _ _ _ _ (Gq.after G4.out HB5.out (Gq.trans X6 K6 q)))))
        all_goals
          obtain ⟨won7, hw7, ht7⟩ := g6.tl
          have hst := tClose_on ht7 hO HG0.out (by omega)
          have HFin := hide (fun y7 (k7 : Keeps (InRow a.tr a.tb) y6 y7) (t7 : TlAt y7 a.t a.tr a.tb c.b c.sp (s.P + 1) 0 (won7 + 1)) => HG6.out _ _ _ _ _ (g6.setTl k7 t7 (show won7 + 1 ≤ k + 1 by omega) (Nat.le_succ k)))
          clear HG4 HG6 X6 K6 g6 HY5 HD4 G4 HB5 ht5 ht7
          go_wp2_with fail
          refine hst.mono ?_
          rintro e y7 ⟨rfl, t7, k7⟩
          have HF : Hid (Hq w o a c S2 (k + 1) y7) := by
            have h1 := HFin.out y7 k7 t7
            unfold Hid Hq
            rw [HS2.out.1, HS2.out.2, ← HN2.out]
            exact h1
          clear HFin k7 t7 hst
          go_wp2
          go_ret
          exact ⟨rfl, HF.out⟩
end
end Go.Proofs.YtfghfbmmaclcnaaGreat
namespace Go.Proofs.YtfghfbmmaclcnaaGreat
set_option maxRecDepth 20000
open Go.RowKit Go.Maps
section
variable {w : World} {o : Nat → Nat} {a : Ad} {c : Cf} {s : Hs} {k : Nat}
theorem hl_turn (h : Hp w o a c s k) (hw : Wf c s k) (hk : k ≤ 900) :
    Calls Tryz.prog 27 #[.pointer (some ⟨a.l, 0, none⟩)] w fun e w' => e = .returned (.int .i64 (turnHE c s)) ∧ Hq w o a c (turnHS c s) (k + 1) w' := by
  have c0 := h.c0
  obtain ⟨won, hwon, ht⟩ := h.tl
  have hov := tOver ht
  have H0 := hide (fun x (b : Below w.heap.size w x) => (h.here.more (Nat.le_succ k)).below b)
  unfold turnHE turnHS
  by_cases ho : s.O ≤ sizeN c.b
  · rw [if_pos ho, if_pos ho]
    have ho' : decide (sizeN c.b < s.O) = false := decide_eq_false (by omega)
    rw [ho'] at hov
    clear ho ho' ht h hw
    go_enter Tryz.func27, Tryz.ntmps27
    go_wp2_with fail
    refine hov.mono ?_
    rintro e x ⟨rfl, b⟩
    go_wp2
    go_ret
    exact ⟨rfl, H0.out _ b⟩
  · rw [if_neg ho, if_neg ho]
    have ho' : decide (sizeN c.b < s.O) = true := decide_eq_true (by omega)
    rw [ho'] at hov
    have HGO := hide (fun x (b : Below w.heap.size w x) => hl_goOnT (h.below b) hw hk (by omega))
    have HG := hide (fun x (b : Below w.heap.size w x) S' k' w'' (q : Hq x o a c S' k' w'') => Gq.after h b q)
    have H := hide h
    clear ho ho' ht h hw H0
    generalize goE c s = E at *
    generalize goS c s = S1 at *
    go_enter Tryz.func27, Tryz.ntmps27
    go_wp2_with fail
    refine hov.mono ?_
    rintro e x ⟨rfl, b⟩
    have c0x := (H.out.below b).c0
    have hgo := HGO.out x b
    go_wp2_with fail
    refine hgo.mono ?_
    rintro e y ⟨rfl, hq⟩
    have HF := hide (HG.out x b _ _ _ hq)
    clear hq hgo HG HGO
    go_wp2
    go_ret
    exact ⟨rfl, HF.out⟩
theorem hl_close (h : Hp w o a c s k) (hw : Wf c s k) (hk : k ≤ 900) :
    Calls Tryz.prog 28 #[.pointer (some ⟨a.l, 0, none⟩)] w fun e w' => e = .returned (.int .i64 (closeHE c s)) ∧ Hq w o a c (closeHS c s) (k + 1) w' := by
  have c0 := h.c0
  obtain ⟨won, hwon, ht⟩ := h.tl
  have hov := tOffset ht
  have hz := sizeN_pos ht.hb
  have H0 := hide (fun x (b : Below w.heap.size w x) => (h.here.more (Nat.le_succ k)).below b)
  unfold closeHE closeHS
  by_cases ho : s.O = 0
  · rw [if_pos ho, if_pos ho]
    have ho' : min s.O (sizeN c.b) = 0 := by omega
    rw [ho'] at hov
    clear ho ho' ht h hw
    go_enter Tryz.func28, Tryz.ntmps28
    go_wp2_with fail
    refine hov.mono ?_
    rintro e x ⟨rfl, b⟩
    go_wp2
    go_ret
    exact ⟨rfl, H0.out _ b⟩
  · rw [if_neg ho, if_neg ho]
    obtain ⟨q, hq⟩ : ∃ q, min s.O (sizeN c.b) = q := ⟨_, rfl⟩
    have hq0 : ((q : Int) == 0) = false := by simp; omega
    rw [hq] at hov
    have HGO := hide (fun x (b : Below w.heap.size w x) => hl_goOnC (h.below b) hw hk (by omega))
    have HG := hide (fun x (b : Below w.heap.size w x) S' k' w'' (q : Hq x o a c S' k' w'') => Gq.after h b q)
    have H := hide h
    clear ho hq ht h hw H0
    generalize goE c s = E at *
    generalize goS c s = S1 at *
    go_enter Tryz.func28, Tryz.ntmps28
    go_wp2_with fail
    refine hov.mono ?_
    rintro e x ⟨rfl, b⟩
    have c0x := (H.out.below b).c0
    have hgo := HGO.out x b
    go_wp2_with fail
    refine hgo.mono ?_
    rintro e y ⟨rfl, hq⟩
    have HF := hide (HG.out x b _ _ _ hq)
    clear hq hgo HG HGO
    go_wp2
    go_ret
    exact ⟨rfl, HF.out⟩
end
end Go.Proofs.YtfghfbmmaclcnaaGreat
