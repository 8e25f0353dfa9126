/- Parts of the proof: Uc Ud Ue Ug Uf Uh Ui Uj Uk. -/
import Derived.Test.YtfghfbmmaclcnaaGreatJ26
import Derived.Test.YtfghfbmmaclcnaaGreatJ27
namespace Go.Proofs.YtfghfbmmaclcnaaGreat
set_option maxRecDepth 20000
open Go.RowKit
section
variable {w : World} {o : Nat → Nat} {a : Rd} {c : Cf} {s : Hs} {k : Nat}
set_option maxHeartbeats 1000000 in
theorem rl_settle (h : Hr w o a c s k) (hk : k ≤ 900) (hns : c.ns ≤ 8) (hnow : 1 ≤ s.now ∧ s.now ≤ 1000000) (hl : s.due.length ≤ 16) (ha : ∀ x ∈ s.due, (x.k = 1 ∨ x.k = 2) ∧ 0 ≤ x.p ∧ x.p ≤ 64) :
    Calls Tryz.prog 47 #[.pointer (some ⟨a.l, 0, none⟩)] w fun e w' => e = .returned (.int .i64 (settleN c s : Int)) ∧ Rq19 w o a c (settleS c s) k w' := by
  have c3 := h.c3
  have c4 := h.c4
  have hsf := rsafe_any (h.drew 1).ep hns hnow
  have hsfe : leastN s.now s.v c.ns - 1 = safeN c s := rfl
  rw [hsfe] at hsf
  have hrd := ref_ready_far (h.drew 1).du (fun x e => (h.drew 1).sz x (by omega)) (by omega) (safeN c s : Int)
  have hrl : (readyL (safeN c s : Int) s.due).length ≤ 16 := Nat.le_trans (readyL_length _ _) hl
  have HR : Hid (∀ j, j < (readyL (safeN c s : Int) s.due).length → (((getL (readyL (safeN c s : Int) s.due) j).k = 1 ∨ (getL (readyL (safeN c s : Int) s.due) j).k = 2) ∧ 0 ≤ (getL (readyL (safeN c s : Int) s.due) j).p ∧ (getL (readyL (safeN c s : Int) s.due) j).p ≤ 64)) := fun j hj => ha _ (readyL_get _ _ j hj).2
  have HS := hide (fun (m' : Nat → Nat) (e : m' = settleM s.P s.m (readyL (safeN c s : Int) s.due)) => (by rw [e]; rfl : ({ s with m := m', due := restL (safeN c s : Int) s.due } : Hs) = settleS c s))
  have HN : Hid (settleN c s = (readyL (safeN c s : Int) s.due).length) := rfl
  have HTk := hide (fun j (hj : j < (readyL (safeN c s : Int) s.due).length) => (by rw [getL_take _ _ hj, settleM_snoc] : settleM s.P s.m ((readyL (safeN c s : Int) s.due).take (j + 1)) = raiseV (settleM s.P s.m ((readyL (safeN c s : Int) s.due).take j)) (if (getL (readyL (safeN c s : Int) s.due) j).k = 1 then 1 else 4) (getL (readyL (safeN c s : Int) s.due) j).p (s.P : Int)))
  have HAl : Hid ((readyL (safeN c s : Int) s.due).take (readyL (safeN c s : Int) s.due).length = readyL (safeN c s : Int) s.due) := List.take_length
  have hmb : a.m < w.heap.size := h.sz _ (by rw [h.om]; omega)
  have HW := hide h
  rw [HN.out]
  clear h ha hl hsfe hnow
  generalize readyL (safeN c s : Int) s.due = R at *
  generalize (restL (safeN c s : Int) s.due) = RS at *
  go_enter Tryz.func47, Tryz.ntmps47
  go_wp2
  go_region_held3 (fun W => W.cell? ⟨a.l, 3, none⟩ = some (.pointer (some ⟨a.e, 0, none⟩)) ∧ W.cell? ⟨a.l, 4, none⟩ = some (.pointer (some ⟨a.d, 0, none⟩))) (first | assumption | go_keep) (first | (go_at_call 120; refine hsf.mono ?_; rintro e y ⟨rfl, hy⟩; subst hy) | (go_at_call 119; refine hrd.mono ?_; rintro e y2 ⟨ao, cap, rfl, has, hdu, hkp, hnew⟩; obtain ⟨o1, g1, X1, K1⟩ := (HW.out.drew 1).setDu hkp (hdu.wider (fun x e => .inl e)) (Nat.le_refl _); have r3 := g1.c3; have r4 := g1.c4))
  all_goals
    have HNW : Hid (∀ g off, ao = some ⟨g, off, none⟩ → w.heap.size ≤ g) := fun g off e => by have := hnew g off e; simp at this; omega
    have hq0 : Rq19 w o a c { s with due := RS, m := settleM s.P s.m (R.take 0) } k y2 := Rq19.after HW.out (below_drewN (Below.refl _ _) 1) ⟨o1, g1, X1, K1⟩
    have HQ0 := hide hq0
    clear hq0 X1 K1 g1 hnew hdu hkp r3 r4 c3 c4 HN hsf hrd
    go_wp2
    go_loopw [4] (fun i wr => ∃ j : Nat, j ≤ R.length ∧ i = .int .i64 j ∧ Rq19 w o a c { s with due := RS, m := settleM s.P s.m (R.take j) } k wr ∧ As wr ao R.length (getL R)) (fun i _ => R.length - (intOf i).toNat)
    case atStart => exact ⟨0, Nat.zero_le _, rfl, HQ0.out, has⟩
    case round =>
      clear HQ0 has
      obtain ⟨j, hj, rfl, hq, has⟩ := hrel
      by_cases hlt : j < R.length
      · obtain ⟨hkk, hp0, hp1⟩ := HR.out j hlt
        have htk := HTk.out j hlt
        obtain ⟨b, off, rfl, e0, e1, e2⟩ := has j hlt
        have hb := HNW.out b off rfl
        obtain ⟨o1, H1, X1, K1⟩ := hq
        have HX := hide X1
        have HK := hide K1
        have HAS := hide has
        clear X1 K1 has HR HTk HNW
        generalize getL R j = A at *
        obtain ⟨ae, ak, ap⟩ := A
        simp only at hkk hp0 hp1 htk e0 e1 e2
        rcases hkk with hk1 | hk1
        · skip
          subst hk1
          simp only [if_true] at htk
          obtain ⟨m1, HTK2⟩ : ∃ m1, Hid (settleM s.P s.m (R.take (j + 1)) = m1) := ⟨_, rfl⟩
          have HM := hide (fun x (q : Hr x o1 a c { s with due := RS, m := settleM s.P s.m (R.take j) } k) => rraise q.mm 1 ap (s.P : Int))
          rw [← htk, HTK2.out] at HM
          have H1h := hide H1
          have c0 := H1.c0
          have c2 := H1.c2
          have t2 := H1.tl.c2
          have hm1 := HM.out _ (H1.drew 1)
          have hbl : b < wr.heap.size := World.block_lt_of_cell? wr _ e2
          have hb0 : Below wr.heap.size wr (wr.drewN 1) := below_drewN (Below.refl _ _) 1
          have HB0 := hide hb0
          clear htk H1 HM hb0
          go_wp2
          go_region_held3 (fun W => W.cell? ⟨a.l, 0, none⟩ = some (.pointer (some ⟨a.t, 0, none⟩)) ∧ W.cell? ⟨a.l, 2, none⟩ = some (.pointer (some ⟨a.m, 0, none⟩)) ∧ W.cell? ⟨a.t, 2, none⟩ = some (.int .i64 (s.P : Int)) ∧ W.cell? ⟨b, off + j * 3 + 2, none⟩ = some (.int .i64 ap)) (first | assumption | go_keep) (first | (go_at_call 113; refine hm1.mono ?_; rintro e y2 ⟨rfl, hm2, k2⟩; obtain ⟨o2, g2, X2, K2⟩ := (H1h.out.drew 1).setMk k2 hm2; have u0 := g2.c0; have u2 := g2.c2; have v2 : y2.cell? ⟨a.t, 2, none⟩ = some (.int .i64 (s.P : Int)) := g2.tl.c2; have v3 : y2.cell? ⟨b, off + j * 3 + 2, none⟩ = some (.int .i64 ap) := (k2.cell (p := ⟨b, off + j * 3 + 2, none⟩) hbl (by simp only; omega)).trans e2; have HQ2 := hide (Rq19.trans HX.out HK.out (Rq19.after H1h.out HB0.out ⟨o2, g2, X2, K2⟩)); have HA2 := hide ((HAS.out.drew 1).keep k2 (fun _ g off e => by cases e; omega))))
          all_goals
           clear hm2 k2 hm1 HX HK HAS H1h g2 X2 K2
           go_wp2
           go_roundw
           case rel => exact ⟨j + 1, by omega, by go_num, by rw [HTK2.out]; exact HQ2.out, HA2.out⟩
           case measure => simp [intOf]; omega
        · skip
          subst hk1
          simp only [Int.reduceEq, if_false] at htk
          obtain ⟨m1, HTK2⟩ : ∃ m1, Hid (settleM s.P s.m (R.take (j + 1)) = m1) := ⟨_, rfl⟩
          have HM := hide (fun x (q : Hr x o1 a c { s with due := RS, m := settleM s.P s.m (R.take j) } k) => rraise q.mm 4 ap (s.P : Int))
          rw [← htk, HTK2.out] at HM
          have H1h := hide H1
          have c0 := H1.c0
          have c2 := H1.c2
          have t2 := H1.tl.c2
          have hm1 := HM.out _ (H1.drew 1)
          have hbl : b < wr.heap.size := World.block_lt_of_cell? wr _ e2
          have hb0 : Below wr.heap.size wr (wr.drewN 1) := below_drewN (Below.refl _ _) 1
          have HB0 := hide hb0
          clear htk H1 HM hb0
          go_wp2
          go_region_held3 (fun W => W.cell? ⟨a.l, 0, none⟩ = some (.pointer (some ⟨a.t, 0, none⟩)) ∧ W.cell? ⟨a.l, 2, none⟩ = some (.pointer (some ⟨a.m, 0, none⟩)) ∧ W.cell? ⟨a.t, 2, none⟩ = some (.int .i64 (s.P : Int)) ∧ W.cell? ⟨b, off + j * 3 + 2, none⟩ = some (.int .i64 ap)) (first | assumption | go_keep) (first | (go_at_call 113; refine hm1.mono ?_; rintro e y2 ⟨rfl, hm2, k2⟩; obtain ⟨o2, g2, X2, K2⟩ := (H1h.out.drew 1).setMk k2 hm2; have u0 := g2.c0; have u2 := g2.c2; have v2 : y2.cell? ⟨a.t, 2, none⟩ = some (.int .i64 (s.P : Int)) := g2.tl.c2; have v3 : y2.cell? ⟨b, off + j * 3 + 2, none⟩ = some (.int .i64 ap) := (k2.cell (p := ⟨b, off + j * 3 + 2, none⟩) hbl (by simp only; omega)).trans e2; have HQ2 := hide (Rq19.trans HX.out HK.out (Rq19.after H1h.out HB0.out ⟨o2, g2, X2, K2⟩)); have HA2 := hide ((HAS.out.drew 1).keep k2 (fun _ g off e => by cases e; omega))))
          all_goals
           clear hm2 k2 hm1 HX HK HAS H1h g2 X2 K2
           go_wp2
           go_roundw
           case rel => exact ⟨j + 1, by omega, by go_num, by rw [HTK2.out]; exact HQ2.out, HA2.out⟩
           case measure => simp [intOf]; omega
      · have ej : j = R.length := by omega
        subst ej
        rw [HAl.out, HS.out _ rfl] at hq
        clear HR HTk HS HAl has HNW
        go_wp2
        go_ret
        exact ⟨rfl, hq⟩
end
end Go.Proofs.YtfghfbmmaclcnaaGreat
namespace Go.Proofs.YtfghfbmmaclcnaaGreat
set_option maxRecDepth 20000
open Go.RowKit
section
variable {w : World} {o : Nat → Nat} {a : Rd} {c : Cf} {s : Hs} {k : Nat}
set_option maxHeartbeats 2000000 in
theorem rl_shift (h : Hr w o a c s k) (hw : Wf c s k) (hk : k ≤ 800) (hns : c.ns ≤ 8) (hnow : 1 ≤ s.now ∧ s.now ≤ 100000) (hs : c.sp ≤ 64) (mk kd page : Int) (hm : (mk = 0 ∧ kd = 1) ∨ (mk = 3 ∧ kd = 2)) :
    Calls Tryz.prog 44 #[.pointer (some ⟨a.l, 0, none⟩), .int .i64 mk, .int .i64 page] w fun e w' => e = .returned (.int .i64 (shiftE s mk page)) ∧ Rq19 w o a c (shiftS c s mk kd page) (k + 1) w' := by
  have c4 := h.c4
  have hwt := ref_waiting h.du (by omega)
  have H := hide h
  have HG := hide (fun x (b : Below w.heap.size w x) s' k' w'' (q : Rq19 x o a c s' k' w'') => Rq19.after h b q)
  by_cases hf : 16 ≤ s.due.length
  · have e1 : shiftE s mk page = 9 := by unfold shiftE; rw [if_pos hf]
    have e2 : shiftS c s mk kd page = s := by unfold shiftS; rw [e1, if_neg (by decide)]
    have H0 := hide (fun x (b : Below w.heap.size w x) => (h.here.more (Nat.le_succ k)).below b)
    rw [e1, e2]
    clear e1 e2 h hw hm
    generalize s.due.length = n at *
    go_enter Tryz.func44, Tryz.ntmps44
    go_wp2_with fail
    refine hwt.mono ?_
    rintro e x ⟨ao, cap, rfl, -, b⟩
    go_wp2
    go_ret
    exact ⟨rfl, H0.out _ b⟩
  · have e1 : shiftE s mk page = raiseE s.m mk page s.P := by unfold shiftE; rw [if_neg hf]
    have HM := hide (fun x (q : Hr x o a c s k) => rraise q.mm mk page (s.P : Int))
    by_cases he : raiseE s.m mk page s.P = 0
    · have e2 : shiftS c s mk kd page = settleS c (bumpS s mk kd page) := by unfold shiftS; rw [e1, if_pos he]
      have hpp := shift_page hw hs mk page (by omega) he
      have HST := hide (fun x o1 (q : Hr x o1 a c (bumpS s mk kd page) (k + 1)) => rl_settle q (by omega) hns (show 1 ≤ s.now + 1 ∧ s.now + 1 ≤ 1000000 by omega) (by simp [bumpS]; omega) (fun y hy => by
        rcases List.mem_append.1 hy with hy | hy
        · exact hw.act y hy
        · rw [List.mem_singleton.1 hy]; exact ⟨(show kd = 1 ∨ kd = 2 by omega), hpp⟩))
      have HPL : Hid (putL s.due ⟨(s.now : Int), kd, page⟩ = s.due ++ [⟨(s.now : Int), kd, page⟩]) := by unfold Hid putL; rw [if_neg hf]
      obtain ⟨N1, hN1⟩ : ∃ N1 : Int, N1 = ((s.now + 1 : Nat) : Int) := ⟨_, rfl⟩
      have wn : IntKind.u64.wrap ((s.now : Int) + 1) = N1 := by rw [hN1, show ((s.now : Int) + 1) = ((s.now + 1 : Nat) : Int) by omega]; exact u64_of_nat (by omega)
      have HN1 := hide hN1
      clear hN1
      rw [e1, e2, he]
      rw [he] at HM
      clear e1 e2 he hpp h hw
      generalize hln : s.due.length = n at *
      rcases hm with ⟨rfl, rfl⟩ | ⟨rfl, rfl⟩
      · go_enter Tryz.func44, Tryz.ntmps44
        go_wp2_with fail
        refine hwt.mono ?_
        rintro e x ⟨ao, cap, rfl, -, b⟩
        have HX := hide (H.out.below b)
        have c0 := HX.out.c0
        have c2 := HX.out.c2
        have t2 := HX.out.tl.c2
        have hm1 := HM.out _ (HX.out.drew 1)
        have HGx := hide (HG.out x b)
        clear hwt HM HG c4
        go_wp2
        go_region_held3 (fun W => W.cell? ⟨a.l, 0, none⟩ = some (.pointer (some ⟨a.t, 0, none⟩)) ∧ W.cell? ⟨a.l, 2, none⟩ = some (.pointer (some ⟨a.m, 0, none⟩)) ∧ W.cell? ⟨a.t, 2, none⟩ = some (.int .i64 (s.P : Int))) (first | assumption | go_keep) (first | (go_at_call 113; refine hm1.mono ?_; rintro e y2 ⟨rfl, hm2, k2⟩; obtain ⟨o2, g2, X2, K2⟩ := (HX.out.drew 1).setMk k2 hm2; have u0 := g2.c0; have u2 := g2.c2; have v2 : y2.cell? ⟨a.t, 2, none⟩ = some (.int .i64 (s.P : Int)) := g2.tl.c2))
        all_goals
          have HG2 := hide (fun s' k' w'' (q : Rq19 y2 o2 a c s' k' w'') => HGx.out s' k' w'' (Rq19.after HX.out (below_drewN (Below.refl _ _) 1) (Rq19.trans X2 K2 q)))
          have H2 := hide g2
          have c3 := g2.c3
          have c4 := g2.c4
          have e0 := g2.ep.c0
          simp only at e0
          have HPT := hide (fun z (b : Below y2.heap.size y2 z) => ref_put (H2.out.below b).du (by omega) ⟨(s.now : Int), 1, page⟩)
          have hpt := HPT.out _ (below_drewN (Below.refl y2.heap.size y2) 1)
          clear hm1 HX HGx hm2 k2 g2 X2 K2 u0 u2 v2 c0 c2 t2 HPT
          simp only [A3.val] at hpt
          go_wp2
          go_region_held3 (fun W => W.cell? ⟨a.l, 3, none⟩ = some (.pointer (some ⟨a.e, 0, none⟩)) ∧ W.cell? ⟨a.l, 4, none⟩ = some (.pointer (some ⟨a.d, 0, none⟩)) ∧ W.cell? ⟨a.e, 0, none⟩ = some (.int .u64 (s.now : Int))) (first | assumption | go_keep) (first | (go_at_call 114; refine hpt.mono ?_; rintro e y3 ⟨rfl, hd3, k3⟩; obtain ⟨o3, g3, X3, K3⟩ := (H2.out.drew 1).setDu k3 hd3 (Nat.le_succ k); have u3 := g3.c3; have u4 := g3.c4; have ue : y3.cell? ⟨a.e, 0, none⟩ = some (.int .u64 (s.now : Int)) := g3.ep.c0))
          all_goals
            have HG3 := hide (fun s' k' w'' (q : Rq19 y3 o3 a c s' k' w'') => HG2.out s' k' w'' (Rq19.after H2.out (below_drewN (Below.refl _ _) 1) (Rq19.trans X3 K3 q)))
            have uf := g3.ep.f0
            rw [HPL.out] at g3
            have H3 := hide g3
            clear hpt hd3 k3 g3 X3 K3 HG2 H2 c3 c4 e0 HPL
            generalize putEZ s.due = pe at *
            have hra : RefAt (y3.drew.setCell ⟨a.e, 0, none⟩ (.int .u64 N1)) a.e a.eb c.ns (s.now + 1) s.v := by rw [HN1.out]; exact (H3.out.drew 1).ep.now (s.now + 1)
            have hzk : Keeps (fun x => x = a.e ∨ x = a.eb) y3.drew (y3.drew.setCell ⟨a.e, 0, none⟩ (.int .u64 N1)) := (Keeps.refl (fun x => x = a.e ∨ x = a.eb) y3.drew).setCell ⟨a.e, 0, none⟩ (fun _ => .inl rfl) _
            obtain ⟨o4, g4, X4, K4⟩ := (H3.out.drew 1).setEp hzk hra
            have HG4 := hide (fun s' k' w'' (q : Rq19 (y3.drew.setCell ⟨a.e, 0, none⟩ (.int .u64 N1)) o4 a c s' k' w'') => HG3.out s' k' w'' (Rq19.after H3.out (below_drewN (Below.refl _ _) 1) (Rq19.trans X4 K4 q)))
            have hst := HST.out _ _ g4
            clear hra hzk g4 X4 K4 H3 HG3 HST
            generalize hzz : y3.drew.setCell ⟨a.e, 0, none⟩ (.int .u64 N1) = z at *
            have HZZ := hide (show (y3.setCell ⟨a.e, 0, none⟩ (.int .u64 N1)).drew = z from hzz)
            clear hzz
            go_wp2
            go_region_law (fail)
            all_goals
              rw [HZZ.out]
              clear HZZ
              go_wp2_with fail
              refine hst.mono ?_
              rintro e y5 ⟨rfl, hq5⟩
              have HF := hide (HG4.out _ _ _ hq5)
              clear hst hq5 HG4
              go_wp2
              go_ret
              exact ⟨rfl, HF.out⟩
      · go_enter Tryz.func44, Tryz.ntmps44
        go_wp2_with fail
        refine hwt.mono ?_
        rintro e x ⟨ao, cap, rfl, -, b⟩
        have HX := hide (H.out.below b)
        have c0 := HX.out.c0
        have c2 := HX.out.c2
        have t2 := HX.out.tl.c2
        have hm1 := HM.out _ (HX.out.drew 1)
        have HGx := hide (HG.out x b)
        clear hwt HM HG c4
        go_wp2
        go_region_held3 (fun W => W.cell? ⟨a.l, 0, none⟩ = some (.pointer (some ⟨a.t, 0, none⟩)) ∧ W.cell? ⟨a.l, 2, none⟩ = some (.pointer (some ⟨a.m, 0, none⟩)) ∧ W.cell? ⟨a.t, 2, none⟩ = some (.int .i64 (s.P : Int))) (first | assumption | go_keep) (first | (go_at_call 113; refine hm1.mono ?_; rintro e y2 ⟨rfl, hm2, k2⟩; obtain ⟨o2, g2, X2, K2⟩ := (HX.out.drew 1).setMk k2 hm2; have u0 := g2.c0; have u2 := g2.c2; have v2 : y2.cell? ⟨a.t, 2, none⟩ = some (.int .i64 (s.P : Int)) := g2.tl.c2))
        all_goals
          have HG2 := hide (fun s' k' w'' (q : Rq19 y2 o2 a c s' k' w'') => HGx.out s' k' w'' (Rq19.after HX.out (below_drewN (Below.refl _ _) 1) (Rq19.trans X2 K2 q)))
          have H2 := hide g2
          have c3 := g2.c3
          have c4 := g2.c4
          have e0 := g2.ep.c0
          simp only at e0
          have HPT := hide (fun z (b : Below y2.heap.size y2 z) => ref_put (H2.out.below b).du (by omega) ⟨(s.now : Int), 2, page⟩)
          have hpt := HPT.out _ (below_drewN (Below.refl y2.heap.size y2) 1)
          clear hm1 HX HGx hm2 k2 g2 X2 K2 u0 u2 v2 c0 c2 t2 HPT
          simp only [A3.val] at hpt
          go_wp2
          go_region_held3 (fun W => W.cell? ⟨a.l, 3, none⟩ = some (.pointer (some ⟨a.e, 0, none⟩)) ∧ W.cell? ⟨a.l, 4, none⟩ = some (.pointer (some ⟨a.d, 0, none⟩)) ∧ W.cell? ⟨a.e, 0, none⟩ = some (.int .u64 (s.now : Int))) (first | assumption | go_keep) (first | (go_at_call 114; refine hpt.mono ?_; rintro e y3 ⟨rfl, hd3, k3⟩; obtain ⟨o3, g3, X3, K3⟩ := (H2.out.drew 1).setDu k3 hd3 (Nat.le_succ k); have u3 := g3.c3; have u4 := g3.c4; have ue : y3.cell? ⟨a.e, 0, none⟩ = some (.int .u64 (s.now : Int)) := g3.ep.c0))
          all_goals
            have HG3 := hide (fun s' k' w'' (q : Rq19 y3 o3 a c s' k' w'') => HG2.out s' k' w'' (Rq19.after H2.out (below_drewN (Below.refl _ _) 1) (Rq19.trans X3 K3 q)))
            have uf := g3.ep.f0
            rw [HPL.out] at g3
            have H3 := hide g3
            clear hpt hd3 k3 g3 X3 K3 HG2 H2 c3 c4 e0 HPL
            generalize putEZ s.due = pe at *
            have hra : RefAt (y3.drew.setCell ⟨a.e, 0, none⟩ (.int .u64 N1)) a.e a.eb c.ns (s.now + 1) s.v := by rw [HN1.out]; exact (H3.out.drew 1).ep.now (s.now + 1)
            have hzk : Keeps (fun x => x = a.e ∨ x = a.eb) y3.drew (y3.drew.setCell ⟨a.e, 0, none⟩ (.int .u64 N1)) := (Keeps.refl (fun x => x = a.e ∨ x = a.eb) y3.drew).setCell ⟨a.e, 0, none⟩ (fun _ => .inl rfl) _
            obtain ⟨o4, g4, X4, K4⟩ := (H3.out.drew 1).setEp hzk hra
            have HG4 := hide (fun s' k' w'' (q : Rq19 (y3.drew.setCell ⟨a.e, 0, none⟩ (.int .u64 N1)) o4 a c s' k' w'') => HG3.out s' k' w'' (Rq19.after H3.out (below_drewN (Below.refl _ _) 1) (Rq19.trans X4 K4 q)))
            have hst := HST.out _ _ g4
            clear hra hzk g4 X4 K4 H3 HG3 HST
            generalize hzz : y3.drew.setCell ⟨a.e, 0, none⟩ (.int .u64 N1) = z at *
            have HZZ := hide (show (y3.setCell ⟨a.e, 0, none⟩ (.int .u64 N1)).drew = z from hzz)
            clear hzz
            go_wp2
            go_region_law (fail)
            all_goals
              rw [HZZ.out]
              clear HZZ
              go_wp2_with fail
              refine hst.mono ?_
              rintro e y5 ⟨rfl, hq5⟩
              have HF := hide (HG4.out _ _ _ hq5)
              clear hst hq5 HG4
              go_wp2
              go_ret
              exact ⟨rfl, HF.out⟩
    · have e2 : shiftS c s mk kd page = s := by unfold shiftS; rw [e1, if_neg he]
      have hv : raiseV s.m mk page s.P = s.m := by unfold raiseV; rw [if_neg he]
      rw [e1, e2]
      rw [hv] at HM
      clear e1 e2 h hw hv hm
      generalize hln : s.due.length = n at *
      generalize raiseE s.m mk page s.P = re at *
      go_enter Tryz.func44, Tryz.ntmps44
      go_wp2_with fail
      refine hwt.mono ?_
      rintro e x ⟨ao, cap, rfl, -, b⟩
      have HX := hide (H.out.below b)
      have c0 := HX.out.c0
      have c2 := HX.out.c2
      have t2 := HX.out.tl.c2
      have hm1 := HM.out _ (HX.out.drew 1)
      have HGx := hide (HG.out x b)
      clear hwt HM HG c4
      go_wp2
      go_region_held3 (fun W => W.cell? ⟨a.l, 0, none⟩ = some (.pointer (some ⟨a.t, 0, none⟩)) ∧ W.cell? ⟨a.l, 2, none⟩ = some (.pointer (some ⟨a.m, 0, none⟩)) ∧ W.cell? ⟨a.t, 2, none⟩ = some (.int .i64 (s.P : Int))) (first | assumption | go_keep) (first | (go_at_call 113; refine hm1.mono ?_; rintro e y2 ⟨rfl, hm2, k2⟩; obtain ⟨o2, g2, X2, K2⟩ := (HX.out.drew 1).setMk k2 hm2; have u0 := g2.c0; have u2 := g2.c2; have v2 : y2.cell? ⟨a.t, 2, none⟩ = some (.int .i64 (s.P : Int)) := g2.tl.c2))
      all_goals
        have HF := hide ((HGx.out _ _ _ (Rq19.after HX.out (below_drewN (Below.refl _ _) 1) ⟨o2, g2, X2, K2⟩)).more (Nat.le_succ k))
        clear hm1 HX HGx hm2 k2 g2 X2 K2 u0 u2 v2 c0 c2 t2
        go_wp2
        go_ret
        exact ⟨rfl, HF.out⟩
end
end Go.Proofs.YtfghfbmmaclcnaaGreat
namespace Go.Proofs.YtfghfbmmaclcnaaGreat
set_option maxRecDepth 20000
open Go.RowKit
section
variable {w : World} {o : Nat → Nat} {a : Rd} {c : Cf} {s : Hs} {k : Nat}
theorem Wf.llen (hw : Wf c s k) (hk : k ≤ 900) : s.L.length ≤ 1000 := by
  have hfew := hw.few
  have : (s.L.map Fy.t).length ≤ (((List.range s.dv.jobs.length)).map fun (n : Nat) => (n : Int) + 1).length := by
    refine nodup_len_le ?_ (fun x hx => ?_)
    · rw [List.nodup_iff_pairwise_ne, List.pairwise_map]
      exact hw.tks.imp (fun e => by omega)
    · obtain ⟨y, hy, rfl⟩ := List.mem_map.1 hx
      have := hw.tk y hy
      exact List.mem_map.2 ⟨y.t.toNat - 1, List.mem_range.2 (by omega), by omega⟩
  rw [List.length_map, List.length_map, List.length_range] at this
  omega
theorem rl_flush_no (h : Hr w o a c s k) (hw : Wf c s k) (hk : k ≤ 900) (p : Int) (hp : p < 0 ∨ p < (s.m 2 : Int) ∨ sentB s.L p = true ∨ (s.m 1 : Int) ≤ p) :
    Calls Tryz.prog 45 #[.pointer (some ⟨a.l, 0, none⟩), .int .i64 p] w fun e w' => e = .returned (.tuple #[.int .i64 (flushT c s p), .int .i64 (flushE c s p)]) ∧ Rq19 w o a c (flushS c s p) (k + 1) w' := by
  have hll := hw.llen hk
  have c2 := h.c2
  have m2 := h.mm.c 2 (by omega)
  have H0 := hide (fun x (b : Below w.heap.size w x) => (h.here.more (Nat.le_succ k)).below b)
  have HM2 := hide (fun x (b : Below w.heap.size w x) => (h.below b).c2)
  have HM1 := hide (fun x (b : Below w.heap.size w x) => (h.below b).mm.c 1 (by omega))
  have HIT := hide (fun x (b : Below w.heap.size w x) => rl_is (h.below b) hll p true)
  have HIF := hide (fun x (b : Below w.heap.size w x) => rl_is (h.below b) hll p false)
  obtain ⟨E, hE⟩ : ∃ E, flushE c s p = E := ⟨_, rfl⟩
  have hE2 := hE
  have e2 : flushE c s p ≠ 0 → flushT c s p = 0 := fun e => by unfold flushT; rw [if_neg e]
  have e3 : flushE c s p ≠ 0 → flushS c s p = s := fun e => by unfold flushS; rw [if_neg e]
  unfold flushE at hE
  rw [hE2] at e2 e3
  clear h hw
  by_cases g0 : p < 0
  · rw [if_pos g0] at hE
    subst hE
    rw [hE2, e2 (by decide), e3 (by decide)]
    clear hE2 e2 e3 hp
    go_enter Tryz.func45, Tryz.ntmps45
    go_wp2
    go_ret2
    exact ⟨rfl, H0.out _ (Below.refl _ _)⟩
  rw [if_neg g0] at hE
  obtain ⟨M2, hM2⟩ : ∃ M2, s.m 2 = M2 := ⟨_, rfl⟩
  rw [hM2] at hE hp m2
  by_cases g1 : p < (M2 : Int)
  · rw [if_pos (.inl g1)] at hE
    subst hE
    rw [hE2, e2 (by decide), e3 (by decide)]
    clear hE2 e2 e3 hp hM2 HIT HIF
    go_enter Tryz.func45, Tryz.ntmps45
    go_wp2
    go_ret2
    exact ⟨rfl, H0.out _ (Below.refl _ _)⟩
  cases g2 : isL s.L p true with
  | true =>
    rw [if_pos (.inr (by unfold sentB; rw [g2]; rfl))] at hE
    subst hE
    rw [hE2, e2 (by decide), e3 (by decide)]
    rw [g2] at HIT
    have hit := HIT.out w (Below.refl _ _)
    clear hE2 e2 e3 hp hM2 HIT HIF g2
    go_enter Tryz.func45, Tryz.ntmps45
    go_wp2_with fail
    refine hit.mono ?_
    rintro e x ⟨rfl, b⟩
    clear hit
    go_wp2
    go_ret2
    exact ⟨rfl, H0.out _ b⟩
  | false =>
    cases g3 : isL s.L p false with
    | true =>
      rw [if_pos (.inr (by unfold sentB; rw [g3]; simp))] at hE
      subst hE
      rw [hE2, e2 (by decide), e3 (by decide)]
      rw [g2] at HIT
      rw [g3] at HIF
      have hit := HIT.out w (Below.refl _ _)
      clear hE2 e2 e3 hp hM2 HIT g2 g3
      go_enter Tryz.func45, Tryz.ntmps45
      go_wp2_with fail
      refine hit.mono ?_
      rintro e x ⟨rfl, b⟩
      have hif := HIF.out x b
      clear hit
      go_wp2_with fail
      refine hif.mono ?_
      rintro e y ⟨rfl, b2⟩
      clear hif
      go_wp2
      go_ret2
      exact ⟨rfl, H0.out _ (b.trans (b2.mono b.size))⟩
    | false =>
      have hs : sentB s.L p = false := by unfold sentB; rw [g2, g3]; rfl
      have g4 : (s.m 1 : Int) ≤ p := by
        rcases hp with hp | hp | hp | hp
        · exact absurd hp g0
        · exact absurd hp g1
        · rw [hs] at hp; cases hp
        · exact hp
      rw [if_neg (by rw [hs]; simp; omega), if_pos g4] at hE
      subst hE
      rw [hE2, e2 (by decide), e3 (by decide)]
      rw [g2] at HIT
      rw [g3] at HIF
      have hit := HIT.out w (Below.refl _ _)
      obtain ⟨M1, hM1⟩ : ∃ M1, s.m 1 = M1 := ⟨_, rfl⟩
      rw [hM1] at HM1 g4
      clear hE2 e2 e3 hp hM2 HIT g2 g3 hs hM1
      go_enter Tryz.func45, Tryz.ntmps45
      go_wp2_with fail
      refine hit.mono ?_
      rintro e x ⟨rfl, b⟩
      have hif := HIF.out x b
      clear hit
      go_wp2_with fail
      refine hif.mono ?_
      rintro e y ⟨rfl, b2⟩
      have hby := b.trans (b2.mono b.size)
      have c2y := HM2.out y hby
      have m1y := HM1.out y hby
      clear hif b b2
      go_wp2
      go_ret2
      exact ⟨rfl, H0.out _ hby⟩
end
end Go.Proofs.YtfghfbmmaclcnaaGreat
namespace Go.Proofs.YtfghfbmmaclcnaaGreat
set_option maxRecDepth 20000
open Go.RowKit
theorem Tryz.infoFy : (Tryz.prog.info? 179).map (fun i => (i.zero, i.size, i.bytes)) = some (some (.agg #[.int .i64 0, .int .i64 0, .bool false]), 3, 24) := by kernel_rfl
section
variable {w : World} {o : Nat → Nat} {a : Rd} {c : Cf} {s : Hs} {k : Nat}
theorem Hr.pushFly {x y : World} (h : Hr x o a c s k) {vf : Value} (c6 : x.cell? ⟨a.l, 6, none⟩ = some vf) (hof : ∀ q, vf.ownBlock = some q → o q = 17) {obj : Obj} {g cap' : Nat} {f : Fy}
    (hown : y.ownsRow 0 179 3 (.slice (some ⟨g, 0, none⟩) (s.L.length + 1) cap') (s.L.length + 1) (fysV s.L ++ [.int .i64 f.t, .int .i64 f.p, .bool f.l])) (hg : (x.alloc obj).grownBy y vf.ownBlock) (hat : vf.ownBlock = some g ∨ x.heap.size ≤ g) (hgl : g < y.heap.size) :
    (y.cell? ⟨a.l, 6, none⟩ = some vf ∧ y.frozen? ⟨a.l, 6, none⟩ = false) ∧ Rq19 x o a c { s with L := s.L ++ [f] } k (y.setCell ⟨a.l, 6, none⟩ (.slice (some ⟨g, 0, none⟩) (s.L.length + 1) cap')) := by
  have hl := h.lt
  have K1 : Keeps (fun q => vf.ownBlock = some q) x y := ((Keeps.refl (fun q => vf.ownBlock = some q) x).alloc obj).grown hg (fun q hk _ => hk)
  have nl : ¬ vf.ownBlock = some a.l := fun e => by have := hof _ e; rw [h.ol] at this; omega
  have d6 : y.cell? ⟨a.l, 6, none⟩ = some vf := by rw [K1.cell hl nl]; exact c6
  have f6 : y.frozen? ⟨a.l, 6, none⟩ = false := by rw [K1.frozen hl nl]; exact h.f6
  refine ⟨⟨d6, f6⟩, ?_⟩
  have K2 : Keeps (fun q => vf.ownBlock = some q ∨ q = a.l) x (y.setCell ⟨a.l, 6, none⟩ (.slice (some ⟨g, 0, none⟩) (s.L.length + 1) cap')) :=
    (K1.wider (T := fun q => vf.ownBlock = some q ∨ q = a.l) (fun q _ e => .inl e)).trans ((Keeps.refl (fun q => q = a.l) y).setCell ⟨a.l, 6, none⟩ (fun _ => rfl) _) (fun q _ e => .inr e)
  have hgl' : g ≠ a.l := fun e => by
    rcases hat with e2 | e2
    · exact nl (by rw [← e]; exact e2)
    · omega
  refine ⟨ext o x (y.setCell ⟨a.l, 6, none⟩ (.slice (some ⟨g, 0, none⟩) (s.L.length + 1) cap')) 17, h.upd (s' := { s with L := s.L ++ [f] }) K2 17 (fun q hq t => ?_) (fun q hq => ext_old hq) (ext_sz h.sz K2.size) (Nat.le_refl _) (by omega) (.inr ⟨fun i hi => ?_, ?_⟩) (.inl ⟨rfl, rfl, by omega⟩) (.inl ⟨rfl, by omega⟩) (.inl ⟨rfl, by omega⟩) (.inl ⟨rfl, rfl, by omega⟩) (.inl ⟨rfl, by omega⟩) (.inl ⟨rfl, by omega⟩) (.inr ⟨_, World.cell?_setCell_same _ _ _ d6, ?_, fun q e => ?_⟩), ExtR.ext h.sz (by omega), K2.wider (fun q hq t => ?_)⟩
  · rcases t with t | t
    · exact .inl (hof q t)
    · exact .inr ⟨rfl, t⟩
  · rw [World.cell?_setCell_other _ _ _ _ (by first | (simp; done) | (simp; omega)), K1.cell hl nl]
  · rw [World.frozen?_setCell]; exact f6
  · have ho2 := own_keep hown ((Keeps.refl (fun q => q = a.l) y).setCell ⟨a.l, 6, none⟩ (fun _ => rfl) (.slice (some ⟨g, 0, none⟩) (s.L.length + 1) cap')) (fun q e e' => by simp [Value.ownBlock] at e; omega)
    show World.ownsRow _ 0 _ 3 _ (s.L ++ [f]).length (fysV (s.L ++ [f]))
    rw [fysV_snoc, List.length_append]
    exact ho2
  · simp [Value.ownBlock] at e
    subst e
    rcases hat with e2 | e2
    · exact ext_more (.inl (hof g e2)) h.sz (by omega)
    · exact ext_more (.inr ⟨e2, by simpa using hgl⟩) h.sz (by omega)
  · unfold Ow19
    rcases t with t | t
    · have := hof q t; omega
    · rw [t, h.ol]; omega
end
end Go.Proofs.YtfghfbmmaclcnaaGreat
namespace Go.Proofs.YtfghfbmmaclcnaaGreat
set_option maxRecDepth 20000
open Go.RowKit
section
variable {w : World} {o : Nat → Nat} {a : Rd} {c : Cf} {s : Hs} {k : Nat}
set_option maxHeartbeats 4000000 in
theorem rl_flush_run (h : Hr w o a c s k) (hw : Wf c s k) (hc : CfOk c) (hk : k ≤ 900) (p : Int) (P : Nat) (hpP : p = (P : Int)) (hl : (s.m 2 : Int) ≤ p) (hs : sentB s.L p = false) (ho : p < (s.m 1 : Int)) :
    Calls Tryz.prog 45 #[.pointer (some ⟨a.l, 0, none⟩), .int .i64 p] w fun e w' => e = .returned (.tuple #[.int .i64 (flushT c s p), .int .i64 (flushE c s p)]) ∧ Rq19 w o a c (flushS c s p) (k + 1) w' := by
  have hll := hw.llen hk
  have hord := hw.ord
  have htop := hw.top
  have hPs := hw.hp
  have hsp := hc.hs
  unfold OrdM at hord
  obtain ⟨v, hF⟩ := hw.inm (P := P) (by omega) (by omega)
  have hpg := pgW_in hF
  rw [← hpP] at hpg
  have hpn : p.toNat = P := by omega
  have hn := hc.hn
  have hv := hw.wd (P % c.n) P v (Nat.mod_lt _ (by omega)) hF
  have hz1 := sizeN_pos hc.hb
  have hz2 := sizeN_bounds c.b
  have hfew := hw.few
  have e1 : flushE c s p = askE s.dv (0, p) true (txt c P v) := by
    unfold flushE
    rw [if_neg (by omega), if_neg (by rw [hs]; simp; omega), if_neg (by omega), hpg, ← hpn]
  have e3 : flushS c s p = if askE s.dv (0, p) true (txt c P v) = 0 then { s with dv := askD s.dv (0, p) true (txt c P v), L := s.L ++ [⟨(s.dv.jobs.length : Int) + 1, p, false⟩] } else s := by
    unfold flushS
    rw [e1, hpg, hpn]
  have e2 : flushT c s p = askT s.dv (0, p) true (txt c P v) := by unfold flushT; rw [e1]; rfl
  rw [e1, e2, e3]
  have g2 : isL s.L p true = false := by unfold sentB at hs; rw [Bool.or_eq_false_iff] at hs; exact hs.1
  have g3 : isL s.L p false = false := by unfold sentB at hs; rw [Bool.or_eq_false_iff] at hs; exact hs.2
  have HTX : Hid (strL (frT P (listN (fun j => (v j).toNat) (sizeN c.b))) = txt c P v) := rfl
  have HAT : Hid (askT s.dv (0, p) true (txt c P v) = if askE s.dv (0, p) true (txt c P v) = 0 then (s.dv.jobs.length : Int) + 1 else 0) := rfl
  have HAD : Hid (askD s.dv (0, p) true (txt c P v) = if askE s.dv (0, p) true (txt c P v) = 0 then { s.dv with jobs := s.dv.jobs ++ [⟨(0, p), true, txt c P v, false, 0⟩] } else s.dv) := rfl
  obtain ⟨K, V, vl, hrb, hlk⟩ := h.pb
  obtain ⟨i, hi, hK, hfirst, hwd⟩ := hlk.here hF
  have HPK := hide (fun (y : World) (ao : Option Addr) (hsl : Sl .u64 y ao (sizeN c.b) v) => rfpack_yes P ao (sizeN c.b) (sizeN c.b) (listN (fun j => (v j).toNat) (sizeN c.b)) y (listN_length _ _) (by omega) (by omega) hz2 (fun j hj => by
    obtain ⟨b, off, h1, h2⟩ := hsl j hj
    refine ⟨b, off, h1, ?_⟩
    rw [h2]
    show some (Value.int .u64 (v j)) = some (Value.int .u64 (((listN (fun j => (v j).toNat) (sizeN c.b))[j]?.getD 0 : Nat) : Int))
    rw [listN_get _ _ _ hj]
    have := (hv j hj).1
    rw [Int.toNat_of_nonneg this]) (fun j hj => by
    rw [listN_get _ _ _ hj]
    have := (hv j hj).2
    have := (hv j hj).1
    omega))
  rw [HTX.out, ← hpP] at HPK
  have HAT2 := hide (fun x (b : Below w.heap.size w x) => rb_at_yes (hrb.below b) i hi P hK hfirst)
  rw [← hpP] at HAT2
  have HFM := hide (fun x (b : Below w.heap.size w x) => (hrb.below b).form)
  have HC2 := hide (fun x (b : Below w.heap.size w x) => (hrb.below b).c2)
  have HSL : Hid (∀ x, Below w.heap.size w x → Sl .u64 x (some ⟨(getK K i).2, 0, none⟩) (sizeN c.b) v) := fun x b j hj => ⟨_, 0, rfl, by
    rw [Nat.zero_add, hwd j hj]
    exact ((hrb.below b).ws _ (getK_mem hi) j hj).1⟩
  obtain ⟨vi, vj, hrd, hvi, hvj⟩ := h.dv
  have HAS := hide (fun x (b : Below w.heap.size w x) => ref_ask' (hrd.below b) (0, p) true (txt c P v) (by omega))
  have H := hide h
  have c2 := h.c2
  have HIT := hide (rl_is h hll p true)
  have HIF := hide (fun x (b : Below w.heap.size w x) => rl_is (h.below b) hll p false)
  have HM1 := hide (fun x (b : Below w.heap.size w x) => (h.below b).mm.c 1 (by omega))
  obtain ⟨M2, hM2⟩ : ∃ M2, s.m 2 = M2 := ⟨_, rfl⟩
  have m2 := h.mm.c 2 (by omega)
  rw [hM2] at m2 hl
  obtain ⟨M1, hM1⟩ : ∃ M1, s.m 1 = M1 := ⟨_, rfl⟩
  rw [hM1] at HM1 ho
  rw [g2] at HIT
  rw [g3] at HIF
  have HVI := hide hvi
  have HVJ := hide hvj
  have hK1 : K.length ≤ 8 := Nat.le_trans hlk.few hn.2
  have HLL := hide hll
  clear hpP hpn hM2 hM1 e1 e2 e3 hw hs hF hpg hv hord htop h hfew hz1 hz2 hn hPs hsp hrb hlk hwd hrd hvi hvj g2 g3 hc hfirst hK hll
  generalize txt c P v = tx at *
  generalize sizeN c.b = sz at *
  by_cases hE : askE s.dv (0, p) true tx = 0
  · rw [if_pos hE]
    have HAT3 := HAT.out
    rw [if_pos hE] at HAT3
    rw [HAT3, hE] at HAS
    rw [HAT3, hE]
    obtain ⟨T, hT⟩ : ∃ T, (s.dv.jobs.length : Int) + 1 = T := ⟨_, rfl⟩
    rw [hT] at HAS ⊢
    clear HAT HAT3 hE hT HAD
    generalize askD s.dv (0, p) true tx = D at *
    go_enter Tryz.func45, Tryz.ntmps45
    go_wp2_with fail
    refine HIT.out.mono ?_
    rintro e x ⟨rfl, b⟩
    have hif := HIF.out x b
    clear HIT HIF
    go_wp2_with fail
    refine hif.mono ?_
    rintro e y ⟨rfl, b2⟩
    have hby := b.trans (b2.mono b.size)
    have c2y := (H.out.below hby).c2
    have c1y := (H.out.below hby).c1
    have m1y := HM1.out y hby
    have hat := HAT2.out y hby
    clear hif b b2 HM1 HAT2
    go_wp2_with fail
    refine hat.mono ?_
    rintro e y2 ⟨rfl, hy2⟩
    subst hy2
    obtain ⟨ao, cap, hvl, -, -, hfm⟩ := HFM.out _ hby
    obtain ⟨g, rfl, -, q0, q1⟩ := hfm i hi
    have p2 := HC2.out _ hby
    rw [hvl] at p2
    have hpk := HPK.out _ _ (HSL.out _ hby)
    have hidx : (i : Int) < (K.length : Int) := by omega
    clear hfm HFM HC2 HPK HSL hat
    go_wp2_with fail
    refine hpk.mono ?_
    rintro e y3 ⟨rfl, b3⟩
    have hb3 := hby.trans (b3.mono hby.size)
    have H3 := hide (H.out.below hb3)
    have HB3 := hide hb3
    have c5 := H3.out.c5
    have hask := HAS.out y3 hb3
    simp only [bkV] at hask
    clear hpk b3 q0 q1 p2 c1y c2y m1y hby hb3 HAS
    go_wp2_with fail
    refine hask.mono ?_
    rintro e y4 ⟨rfl, ⟨vj4, hrd4, hn4⟩, k4⟩
    obtain ⟨o4, g4, X4, K4⟩ := H3.out.setDv HVI.out HVJ.out k4 hrd4 (fun q e => .inl e) hn4
    have HW4 := hide (fun s' k' w'' (q : Rq19 y4 o4 a c s' k' w'') => Rq19.after H.out HB3.out (Rq19.trans X4 K4 q))
    clear hask hrd4 hn4 k4 X4 K4 HB3 H3 c5
    obtain ⟨vf, c6, hown, hof⟩ := g4.fl
    obtain ⟨af, capf, rfl, hcap1, hcap2, -⟩ := own_slice hown
    have H4 := hide g4
    have f6 := g4.f6
    obtain ⟨i0, hi0, hz0, hz1, hz2⟩ := info_parts Tryz.infoFy
    have hown2 : (y4.alloc (.cells #[.int .i64 T, .int .i64 p, .bool false] 179)).ownsRow 0 179 3 (.slice af s.L.length capf) s.L.length (fysV s.L) := own_below hown ((Below.refl _ _).alloc (Nat.le_refl _) _)
    have hnews : ∀ j u, [Value.int .i64 T, .int .i64 p, .bool false][j]? = some u → (y4.alloc (.cells #[.int .i64 T, .int .i64 p, .bool false] 179)).cell? ((⟨y4.heap.size, 0, none⟩ : Addr).add j) = some u := cell_3 y4 _ _ _ _
    have hone : ∀ u ∈ [Value.int .i64 T, .int .i64 p, .bool false], u.oneCell' = true := by
      intro u hu
      simp only [List.mem_cons, List.mem_nil_iff, or_false] at hu
      rcases hu with rfl | rfl | rfl <;> rfl
    have HP := hide (fun (y1 : World) (gg cap' : Nat) (hown' : y1.ownsRow 0 179 3 (.slice (some ⟨gg, 0, none⟩) (s.L.length + 1) cap') (s.L.length + 1) (fysV s.L ++ [.int .i64 T, .int .i64 p, .bool false])) (hg : (y4.alloc (.cells #[.int .i64 T, .int .i64 p, .bool false] 179)).grownBy y1 (Value.slice af s.L.length capf).ownBlock) (hat : (Value.slice af s.L.length capf).ownBlock = some gg ∨ y4.heap.size ≤ gg) (hlt : gg < y1.heap.size) => H4.out.pushFly (f := ⟨T, p, false⟩) c6 hof hown' hg hat hlt)
    clear g4 hown hof
    have hll := HLL.out
    go_wp2_with (at_builtin; refine wpList_append_lies _ rfl _ _ 89 rfl 0 179 i0 (.agg #[.int .i64 0, .int .i64 0, .bool false]) 3 24 Tryz.underlying89 hi0 hz0 hz1 hz2 rfl (by decide) _ _ _ rfl hown2 ⟨y4.heap.size, 0, none⟩ 1 1 [.int .i64 T, .int .i64 p, .bool false] rfl rfl hnews hone (by decide) ?c3 ?c4 ?c5 (y4.heap.size + 1) (by simp) ?_)
    case c3 => unfold maxLen; omega
    case c4 => omega
    case c5 => first | omega | (simp; omega)
    intro gg cap' y5 hown' hgrow hat hlt'
    obtain ⟨⟨u1, u2⟩, u3⟩ := HP.out y5 gg cap' hown' hgrow (hat.imp id (fun e => by omega)) hlt'
    have HF := hide ((HW4.out _ _ _ u3).more (Nat.le_succ k))
    clear u3 hown' hgrow hat hlt' hown2 hnews HP HW4 H4 hi0
    go_wp2
    generalize y5.setCell ⟨a.l, 6, none⟩ (.slice (some ⟨gg, 0, none⟩) (s.L.length + 1) cap') = y6 at *
    go_ret2
    exact ⟨rfl, HF.out⟩
  · rw [if_neg hE]
    rw [HAT.out, if_neg hE, HAD.out, if_neg hE] at HAS
    rw [HAT.out, if_neg hE]
    have hE' : (askE s.dv (0, p) true tx == 0) = false := by simpa using hE
    clear HAT HAD hE
    generalize askE s.dv (0, p) true tx = E at *
    go_enter Tryz.func45, Tryz.ntmps45
    go_wp2_with fail
    refine HIT.out.mono ?_
    rintro e x ⟨rfl, b⟩
    have hif := HIF.out x b
    clear HIT HIF
    go_wp2_with fail
    refine hif.mono ?_
    rintro e y ⟨rfl, b2⟩
    have hby := b.trans (b2.mono b.size)
    have c2y := (H.out.below hby).c2
    have c1y := (H.out.below hby).c1
    have m1y := HM1.out y hby
    have hat := HAT2.out y hby
    clear hif b b2 HM1 HAT2
    go_wp2_with fail
    refine hat.mono ?_
    rintro e y2 ⟨rfl, hy2⟩
    subst hy2
    obtain ⟨ao, cap, hvl, -, -, hfm⟩ := HFM.out _ hby
    obtain ⟨g, rfl, -, q0, q1⟩ := hfm i hi
    have p2 := HC2.out _ hby
    rw [hvl] at p2
    have hpk := HPK.out _ _ (HSL.out _ hby)
    have hidx : (i : Int) < (K.length : Int) := by omega
    clear hfm HFM HC2 HPK HSL hat
    go_wp2_with fail
    refine hpk.mono ?_
    rintro e y3 ⟨rfl, b3⟩
    have hb3 := hby.trans (b3.mono hby.size)
    have H3 := hide (H.out.below hb3)
    have HB3 := hide hb3
    have c5 := H3.out.c5
    have hask := HAS.out y3 hb3
    simp only [bkV] at hask
    clear hpk b3 q0 q1 p2 c1y c2y m1y hby hb3 HAS
    go_wp2_with fail
    refine hask.mono ?_
    rintro e y4 ⟨rfl, ⟨vj4, hrd4, hn4⟩, k4⟩
    obtain ⟨o4, g4, X4, K4⟩ := H3.out.setDv HVI.out HVJ.out k4 hrd4 (fun q e => .inl e) hn4
    have HW4 := hide (fun s' k' w'' (q : Rq19 y4 o4 a c s' k' w'') => Rq19.after H.out HB3.out (Rq19.trans X4 K4 q))
    clear hask hrd4 hn4 k4 X4 K4 HB3 H3 c5
    have HF := hide ((HW4.out _ _ _ g4.here).more (Nat.le_succ k))
    clear HW4 g4
    go_wp2
    go_ret2
    exact ⟨rfl, HF.out⟩
end
end Go.Proofs.YtfghfbmmaclcnaaGreat
namespace Go.Proofs.YtfghfbmmaclcnaaGreat
set_option maxRecDepth 20000
open Go.RowKit
section
variable {w : World} {o : Nat → Nat} {a : Rd} {c : Cf} {s : Hs} {k : Nat}
theorem rl_flush (h : Hr w o a c s k) (hw : Wf c s k) (hc : CfOk c) (hk : k ≤ 900) (p : Int) :
    Calls Tryz.prog 45 #[.pointer (some ⟨a.l, 0, none⟩), .int .i64 p] w fun e w' => e = .returned (.tuple #[.int .i64 (flushT c s p), .int .i64 (flushE c s p)]) ∧ Rq19 w o a c (flushS c s p) (k + 1) w' := by
  by_cases hp : p < 0 ∨ p < (s.m 2 : Int) ∨ sentB s.L p = true ∨ (s.m 1 : Int) ≤ p
  · exact rl_flush_no h hw hk p hp
  · have h1 : sentB s.L p = false := by
      cases e : sentB s.L p with
      | false => rfl
      | true => exact absurd (.inr (.inr (.inl e))) hp
    exact rl_flush_run h hw hc hk p p.toNat (by omega) (by omega) h1 (by omega)
set_option maxHeartbeats 4000000 in
theorem rl_help (h : Hr w o a c s k) (hw : Wf c s k) (hc : CfOk c) (hk : k ≤ 800) (hnow : 1 ≤ s.now ∧ s.now ≤ 100000) :
    Calls Tryz.prog 43 #[.pointer (some ⟨a.l, 0, none⟩)] w fun e w' => e = .returned (.bool (helpR c s).1) ∧ Rq19 w o a c (helpR c s).2 (k + 1) w' := by
  have hP : s.P < 64 := by have := hc.hs; have := hw.hp; omega
  have hns := hc.he.2
  have hn := hc.hn
  have hll := hw.llen (by omega)
  obtain ⟨nd, hndd⟩ : ∃ nd, nd = needN c s := ⟨_, rfl⟩
  have hnd := rl_need h hP hn.2 nd hndd
  have hnl : nd ≤ 100 := by unfold needN at hndd; omega
  have HLA := hide (fun x (b : Below w.heap.size w x) => rLast (h.below b).tl (by omega))
  have H := hide h
  have HG := hide (fun x (b : Below w.heap.size w x) s' k' w'' (q : Rq19 x o a c s' k' w'') => Rq19.after h b q)
  have H0 := hide (fun x (b : Below w.heap.size w x) => (h.here.more (Nat.le_succ k)).below b)
  obtain ⟨m3, hm3⟩ : ∃ m3, s.m 3 = m3 := ⟨_, rfl⟩
  obtain ⟨m2, hm2⟩ : ∃ m2, s.m 2 = m2 := ⟨_, rfl⟩
  obtain ⟨m1, hm1⟩ : ∃ m1, s.m 1 = m1 := ⟨_, rfl⟩
  obtain ⟨m0, hm0⟩ : ∃ m0, s.m 0 = m0 := ⟨_, rfl⟩
  have HM3 := hide (fun x (b : Below w.heap.size w x) => (h.below b).mm.c 3 (by omega))
  have HM2 := hide (fun x (b : Below w.heap.size w x) => (h.below b).mm.c 2 (by omega))
  have HM1 := hide (fun x (b : Below w.heap.size w x) => (h.below b).mm.c 1 (by omega))
  have HM0 := hide (fun x (b : Below w.heap.size w x) => (h.below b).mm.c 0 (by omega))
  have HSH := hide (fun x (b : Below w.heap.size w x) => rl_shift (h.below b) hw hk hns hnow hc.hs.2 3 2 (nd : Int) (.inr ⟨rfl, rfl⟩))
  have HSR := hide (fun x (b : Below w.heap.size w x) => rl_shift (h.below b) hw hk hns hnow hc.hs.2 0 1 (nd : Int) (.inl ⟨rfl, rfl⟩))
  have HFL := hide (fun x (b : Below w.heap.size w x) (j : Nat) => rl_flush (h.below b) hw hc (by omega) (j : Int))
  have HIT := hide (fun x (b : Below w.heap.size w x) (j : Nat) => rl_is (h.below b) hll (j : Int) true)
  have HIF := hide (fun x (b : Below w.heap.size w x) (j : Nat) => rl_is (h.below b) hll (j : Int) false)
  rw [hm3] at HM3
  rw [hm2] at HM2
  rw [hm1] at HM1
  rw [hm0] at HM0
  unfold helpR
  rw [hm3, hm2, hm1, hm0, ← hndd]
  clear hw hm3 hm2 hm1 hm0 hndd h hc hns hll
  by_cases g0 : c.sp ≤ s.P + 1
  · rw [if_pos g0]
    have g0' : decide (c.sp ≤ s.P + 1) = true := decide_eq_true g0
    rw [g0'] at HLA
    clear g0 g0' hP HSH HSR HFL HIT HIF
    go_enter Tryz.func43, Tryz.ntmps43
    go_wp2_with fail
    refine hnd.mono ?_
    rintro e x ⟨rfl, b⟩
    have c0 := (H.out.below b).c0
    have c2 := (H.out.below b).c2
    have hla := HLA.out x b
    clear hnd
    go_wp2_with fail
    refine hla.mono ?_
    rintro e y ⟨rfl, hy⟩
    have hby : Below w.heap.size w y := b.trans ((below_drewN' hy).mono b.size)
    have c2y := (H.out.below hby).c2
    have q3 := HM3.out y hby
    have q2 := HM2.out y hby
    have q1 := HM1.out y hby
    have q0 := HM0.out y hby
    clear hla hy b
    go_wp2
    go_ret
    exact ⟨rfl, H0.out _ hby⟩
  rw [if_neg g0]
  have g0' : decide (c.sp ≤ s.P + 1) = false := decide_eq_false g0
  rw [g0'] at HLA
  clear g0 g0' hP
  by_cases g1 : nd ≤ m3
  · rw [if_pos g1]
    clear HSH HSR HFL HIT HIF
    go_enter Tryz.func43, Tryz.ntmps43
    go_wp2_with fail
    refine hnd.mono ?_
    rintro e x ⟨rfl, b⟩
    have c0 := (H.out.below b).c0
    have c2 := (H.out.below b).c2
    have hla := HLA.out x b
    clear hnd
    go_wp2_with fail
    refine hla.mono ?_
    rintro e y ⟨rfl, hy⟩
    have hby : Below w.heap.size w y := b.trans ((below_drewN' hy).mono b.size)
    have c2y := (H.out.below hby).c2
    have q3 := HM3.out y hby
    have q2 := HM2.out y hby
    have q1 := HM1.out y hby
    have q0 := HM0.out y hby
    clear hla hy b
    go_wp2
    go_ret
    exact ⟨rfl, H0.out _ hby⟩
  rw [if_neg g1]
  by_cases g2 : nd ≤ m2
  · rw [if_pos g2]
    generalize shiftE s 3 (nd : Int) = E at *
    generalize shiftS c s 3 2 (nd : Int) = S1 at *
    clear HSR HFL HIT HIF
    go_enter Tryz.func43, Tryz.ntmps43
    go_wp2_with fail
    refine hnd.mono ?_
    rintro e x ⟨rfl, b⟩
    have c0 := (H.out.below b).c0
    have c2 := (H.out.below b).c2
    have hla := HLA.out x b
    clear hnd
    go_wp2_with fail
    refine hla.mono ?_
    rintro e y ⟨rfl, hy⟩
    have hby : Below w.heap.size w y := b.trans ((below_drewN' hy).mono b.size)
    have c2y := (H.out.below hby).c2
    have q3 := HM3.out y hby
    have q2 := HM2.out y hby
    have q1 := HM1.out y hby
    have q0 := HM0.out y hby
    clear hla hy b
    have hc := HSH.out _ hby
    go_wp2_with fail
    refine hc.mono ?_
    rintro e y2 ⟨rfl, hq⟩
    have HF := hide (HG.out _ hby _ _ _ hq)
    clear hq hc HG
    go_wp2
    go_ret
    exact ⟨ret_bool (by rfl), HF.out⟩
  rw [if_neg g2]
  by_cases g3 : nd ≤ m1
  · rw [if_pos g3]
    obtain ⟨B, hB⟩ : ∃ B, B = if firstU s.L m2 (nd - m2) < nd then decide (flushE c s (firstU s.L m2 (nd - m2) : Nat) = 0) else false := ⟨_, rfl⟩
    obtain ⟨S1, hS⟩ : ∃ S1, S1 = if firstU s.L m2 (nd - m2) < nd then flushS c s (firstU s.L m2 (nd - m2) : Nat) else s := ⟨_, rfl⟩
    have e1 : (if firstU s.L m2 (nd - m2) < nd then (decide (flushE c s (firstU s.L m2 (nd - m2) : Nat) = 0), flushS c s (firstU s.L m2 (nd - m2) : Nat)) else (false, s)) = (B, S1) := by
      rw [hB, hS]
      split <;> rfl
    rw [e1]
    have HY : Hid (∀ j, m2 ≤ j → j < nd → (∀ i, m2 ≤ i → i < j → sentB s.L (i : Int) = true) → sentB s.L (j : Int) = false → B = decide (flushE c s (j : Int) = 0) ∧ S1 = flushS c s (j : Int)) := fun j h1 h2 h3 h4 => by
      have e := firstU_at s.L j h4 (nd - m2) m2 h1 (by omega) h3
      rw [e, if_pos h2] at hB hS
      exact ⟨hB, hS⟩
    have HN : Hid ((∀ i, m2 ≤ i → i < nd → sentB s.L (i : Int) = true) → B = false ∧ S1 = s) := fun h3 => by
      have e := firstU_all s.L (nd - m2) m2 (fun i g1 g2 => h3 i g1 (by omega))
      rw [e, if_neg (by omega)] at hB hS
      exact ⟨hB, hS⟩
    clear hB hS e1 HSH HSR
    go_enter Tryz.func43, Tryz.ntmps43
    go_wp2_with fail
    refine hnd.mono ?_
    rintro e x ⟨rfl, b⟩
    have c0 := (H.out.below b).c0
    have c2 := (H.out.below b).c2
    have hla := HLA.out x b
    clear hnd
    go_wp2_with fail
    refine hla.mono ?_
    rintro e y ⟨rfl, hy⟩
    have hby : Below w.heap.size w y := b.trans ((below_drewN' hy).mono b.size)
    have c2y := (H.out.below hby).c2
    have q3 := HM3.out y hby
    have q2 := HM2.out y hby
    have q1 := HM1.out y hby
    have q0 := HM0.out y hby
    clear hla hy b
    go_wp2
    go_loopw [4] (fun v wr => ∃ j : Nat, m2 ≤ j ∧ j ≤ nd ∧ v = .int .i64 j ∧ Hid (∀ i, m2 ≤ i → i < j → sentB s.L (i : Int) = true) ∧ Hid (Below w.heap.size w wr)) (fun v _ => nd - (intOf v).toNat)
    case atStart => exact ⟨m2, Nat.le_refl _, by omega, rfl, fun i h1 h2 => by omega, hby⟩
    case round =>
      clear hby c0 c2 c2y q3 q2 q1 q0
      obtain ⟨j, hj1, hj2, rfl, hall, hbel⟩ := hrel
      by_cases hlt : j < nd
      · have hit := HIT.out wr hbel.out j
        cases h1 : isL s.L (j : Int) true with
        | true =>
          rw [h1] at hit
          have HALL : Hid (∀ i, m2 ≤ i → i < j + 1 → sentB s.L (i : Int) = true) := fun i g1 g2 => by
            by_cases e : i = j
            · subst e; unfold sentB; rw [h1]; rfl
            · exact hall.out i g1 (by omega)
          clear HIT HIF HFL HY HN h1 hall HG H0
          go_wp2_with fail
          refine hit.mono ?_
          rintro e y2 ⟨rfl, b⟩
          have HB2 := hide (hbel.out.trans (b.mono hbel.out.size))
          clear hit b
          go_wp2
          go_roundw
          case rel => exact ⟨j + 1, by omega, by omega, by go_num, HALL.out, HB2.out⟩
          case measure => simp [intOf]; omega
        | false =>
          rw [h1] at hit
          cases h2 : isL s.L (j : Int) false with
          | true =>
            have HALL : Hid (∀ i, m2 ≤ i → i < j + 1 → sentB s.L (i : Int) = true) := fun i g1 g2 => by
              by_cases e : i = j
              · subst e; unfold sentB; rw [h1, h2]; rfl
              · exact hall.out i g1 (by omega)
            have HIFj := hide (fun x b => HIF.out x b j)
            rw [h2] at HIFj
            clear HIT HIF HFL HY HN h1 h2 hall HG H0
            go_wp2_with fail
            refine hit.mono ?_
            rintro e y2 ⟨rfl, b⟩
            have hb2 := hbel.out.trans (b.mono hbel.out.size)
            have hif := HIFj.out y2 hb2
            clear hit b
            go_wp2_with fail
            refine hif.mono ?_
            rintro e y3 ⟨rfl, b3⟩
            have HB3 := hide (hb2.trans (b3.mono hb2.size))
            clear hif b3 hb2
            go_wp2
            go_roundw
            case rel => exact ⟨j + 1, by omega, by omega, by go_num, HALL.out, HB3.out⟩
            case measure => simp [intOf]; omega
          | false =>
            have hs : sentB s.L (j : Int) = false := by unfold sentB; rw [h1, h2]; rfl
            obtain ⟨hB, hS⟩ := HY.out j hj1 hlt hall.out hs
            have HIFj := hide (fun x b => HIF.out x b j)
            rw [h2] at HIFj
            have HFj := hide (fun x b => (by have := HFL.out x b j; rw [← hS] at this; exact this : Calls Tryz.prog 45 #[.pointer (some ⟨a.l, 0, none⟩), .int .i64 (j : Int)] x fun e w' => e = .returned (.tuple #[.int .i64 (flushT c s (j : Int)), .int .i64 (flushE c s (j : Int))]) ∧ Rq19 x o a c S1 (k + 1) w'))
            have HBE := hide hB
            clear HIT HIF HFL HY HN h1 h2 hall H0 hs hB hS
            generalize flushE c s (j : Int) = E at *
            generalize flushT c s (j : Int) = T1 at *
            go_wp2_with fail
            refine hit.mono ?_
            rintro e y2 ⟨rfl, b⟩
            have hb2 := hbel.out.trans (b.mono hbel.out.size)
            have hif := HIFj.out y2 hb2
            clear hit b
            go_wp2_with fail
            refine hif.mono ?_
            rintro e y3 ⟨rfl, b3⟩
            have hb3 := hb2.trans (b3.mono hb2.size)
            have hfl := HFj.out y3 hb3
            clear hif b3 hb2
            go_wp2_with fail
            refine hfl.mono ?_
            rintro e y4 ⟨rfl, hq⟩
            have HF := hide (HG.out y3 hb3 _ _ _ hq)
            clear hq hfl HG
            go_wp2
            go_ret
            exact ⟨ret_bool (by rw [HBE.out]; rfl), HF.out⟩
      · have ej : j = nd := by omega
        subst ej
        obtain ⟨hB, hS⟩ := HN.out hall.out
        subst hB hS
        clear HY HN hall HFL HIT HIF HG
        go_wp2
        go_ret
        exact ⟨rfl, H0.out _ hbel.out⟩
  rw [if_neg g3]
  by_cases g4 : m0 < nd
  · rw [if_pos g4]
    generalize shiftE s 0 (nd : Int) = E at *
    generalize shiftS c s 0 1 (nd : Int) = S1 at *
    clear HSH HFL HIT HIF
    go_enter Tryz.func43, Tryz.ntmps43
    go_wp2_with fail
    refine hnd.mono ?_
    rintro e x ⟨rfl, b⟩
    have c0 := (H.out.below b).c0
    have c2 := (H.out.below b).c2
    have hla := HLA.out x b
    clear hnd
    go_wp2_with fail
    refine hla.mono ?_
    rintro e y ⟨rfl, hy⟩
    have hby : Below w.heap.size w y := b.trans ((below_drewN' hy).mono b.size)
    have c2y := (H.out.below hby).c2
    have q3 := HM3.out y hby
    have q2 := HM2.out y hby
    have q1 := HM1.out y hby
    have q0 := HM0.out y hby
    clear hla hy b
    have hc := HSR.out _ hby
    go_wp2_with fail
    refine hc.mono ?_
    rintro e y2 ⟨rfl, hq⟩
    have HF := hide (HG.out _ hby _ _ _ hq)
    clear hq hc HG
    go_wp2
    go_ret
    exact ⟨ret_bool (by rfl), HF.out⟩
  · rw [if_neg g4]
    clear HSH HSR HFL HIT HIF
    go_enter Tryz.func43, Tryz.ntmps43
    go_wp2_with fail
    refine hnd.mono ?_
    rintro e x ⟨rfl, b⟩
    have c0 := (H.out.below b).c0
    have c2 := (H.out.below b).c2
    have hla := HLA.out x b
    clear hnd
    go_wp2_with fail
    refine hla.mono ?_
    rintro e y ⟨rfl, hy⟩
    have hby : Below w.heap.size w y := b.trans ((below_drewN' hy).mono b.size)
    have c2y := (H.out.below hby).c2
    have q3 := HM3.out y hby
    have q2 := HM2.out y hby
    have q1 := HM1.out y hby
    have q0 := HM0.out y hby
    clear hla hy b
    go_wp2
    go_ret
    exact ⟨rfl, H0.out _ hby⟩
end
end Go.Proofs.YtfghfbmmaclcnaaGreat
namespace Go.Proofs.YtfghfbmmaclcnaaGreat
set_option maxRecDepth 20000
open Go.RowKit
section
variable {w : World} {o : Nat → Nat} {a : Rd} {c : Cf} {s : Hs} {k : Nat}
theorem rclose_leaving (h : Hr w o a c s k) (hw : Wf c s k) (hc : CfOk c) (z : Int) (hz : z = (s.P : Int) + 1 - (c.n : Int)) :
    Calls Tryz.prog 109 #[.pointer (some ⟨a.p, 0, none⟩), .int .i64 z] w fun e w' => ∃ (ce : Int) (o1 : Nat → Nat) (F1 : Nat → Option Pg), e = .returned (.int .i64 ce) ∧ Hr w' o1 a c { s with F := F1 } k ∧ ExtR o o1 w w' ∧ Keeps (Ow19 o) w w' ∧ F1 ((s.P + 1) % c.n) = none ∧ ∀ x, updF F1 ((s.P + 1) % c.n) x = updF s.F ((s.P + 1) % c.n) x := by
  obtain ⟨K, V, vl, hrb, hlk⟩ := h.pb
  have hn := hc.hn
  have hfew := hlk.few
  by_cases hq : c.n ≤ s.P + 1
  · obtain ⟨v, hF⟩ := (hw.pg (s.P + 1 - c.n)).2 ⟨by omega, by omega⟩
    have hz' : z = ((s.P + 1 - c.n : Nat) : Int) := by omega
    have hm : (s.P + 1 - c.n) % c.n = (s.P + 1) % c.n := by
      have : s.P + 1 = (s.P + 1 - c.n) + c.n := by omega
      rw [this, Nat.add_mod_right, ← this]
    subst hz'
    obtain ⟨i, hi, hK, hfirst, -⟩ := hlk.here hF
    refine (rb_close_yes hrb (by omega) i hi _ hK hfirst).mono ?_
    rintro e w' ⟨rfl, ⟨vl', hrb'⟩, k1⟩
    obtain ⟨o1, g1, X1, K1⟩ := h.setBf k1 hrb' (hlk.closes hi hK)
    refine ⟨0, o1, _, rfl, g1, X1, K1, ?_, fun x => ?_⟩
    · rw [hm]; exact updF_same _ _ _
    · rw [hm]; exact updF_twice _ _ _ _
  · have hg := hlk.gone (page := z) (fun P e => by omega)
    refine (rb_close_no hrb z hg).mono ?_
    rintro e w' ⟨rfl, rfl⟩
    refine ⟨7, o, s.F, rfl, h, ExtR.refl h.sz, Keeps.refl _ _, ?_, fun x => rfl⟩
    cases e : s.F ((s.P + 1) % c.n) with
    | none => rfl
    | some x =>
      obtain ⟨p, v⟩ := x
      obtain ⟨e1, -⟩ := hlk.bwd _ (Nat.mod_lt _ (by omega)) p v e
      have h1 := (hw.pg p).1 ⟨v, by rw [e1]; exact e⟩
      rw [Nat.mod_eq_of_lt (by omega), Nat.mod_eq_of_lt (by omega)] at e1
      omega
theorem ropen_next (h : Hr w o a c s k) (hc : CfOk c) (hP : s.P < 64) (hnone : s.F ((s.P + 1) % c.n) = none) (z : Int) (hz : z = (s.P : Int) + 1) :
    Calls Tryz.prog 105 #[.pointer (some ⟨a.p, 0, none⟩), .int .i64 z] w fun e w' => e = .returned (.int .i64 0) ∧ Rq19 w o a c { s with F := updF s.F ((s.P + 1) % c.n) (some (s.P + 1, fun _ => 0)) } k w' := by
  obtain ⟨K, V, vl, hrb, hlk⟩ := h.pb
  have hn := hc.hn
  have hfew := hlk.few
  have hz' : z = ((s.P + 1 : Nat) : Int) := by omega
  subst hz'
  have hpos := sizeN_pos hc.hb
  refine (rb_open_yes hrb (by omega) (s.P + 1) (by omega) (fun j hj e => ?_)).mono ?_
  · obtain ⟨v, hv, -⟩ := hlk.fwd _ (getK_mem hj)
    rw [e, hnone] at hv
    cases hv
  rintro e w' ⟨rfl, ⟨lb, vl', hrb', hlb⟩, k1⟩
  exact ⟨rfl, h.setBf k1 hrb' (hlk.opens hnone (fun x hx e => by
    have := World.block_lt_of_cell? w _ (hrb.ws x hx 0 (by omega)).1
    simp only at this
    omega))⟩
end
end Go.Proofs.YtfghfbmmaclcnaaGreat
namespace Go.Proofs.YtfghfbmmaclcnaaGreat
set_option maxRecDepth 20000
open Go.RowKit
section
variable {w : World} {o : Nat → Nat} {a : Rd} {c : Cf} {s : Hs} {k : Nat}
theorem turn_eqs {S sp P O : Nat} (ho : ¬ O ≤ S) (hl : ¬ sp ≤ P + 1) : turnE S sp P O = 0 ∧ turnPT S sp P O = P + 1 ∧ turnO S sp P O = 0 := by
  unfold turnE turnPT turnO
  rw [if_neg ho, if_neg hl, if_neg (by omega), if_neg (by omega)]
  exact ⟨rfl, rfl, rfl⟩
set_option maxHeartbeats 4000000 in
theorem rl_turn (h : Hr w o a c s k) (hw : Wf c s k) (hc : CfOk c) (hk : k ≤ 800) (hnow : 1 ≤ s.now ∧ s.now ≤ 100000) :
    Calls Tryz.prog 42 #[.pointer (some ⟨a.l, 0, none⟩)] w fun e w' => e = .returned (.int .i64 (turnHE c s)) ∧ Rq19 w o a c (turnHS c s) (k + 1) w' := by
  have hP : s.P < 64 := by have := hc.hs; have := hw.hp; omega
  have hsp := hc.hs
  have hPs := hw.hp
  have hn := hc.hn
  have hz := sizeN_bounds c.b
  have H := hide h
  have HG := hide (fun x (b : Below w.heap.size w x) s' k' w'' (q : Rq19 x o a c s' k' w'') => Rq19.after h b q)
  have H0 := hide (fun x (b : Below w.heap.size w x) => (h.here.more (Nat.le_succ k)).below b)
  unfold turnHE turnHS
  have hov := rl_over h
  by_cases ho : s.O ≤ sizeN c.b
  · rw [if_pos ho, if_pos ho]
    have ho' : decide (sizeN c.b < s.O) = false := decide_eq_false (by omega)
    rw [ho'] at hov
    clear ho ho' h hw
    go_enter Tryz.func42, Tryz.ntmps42
    go_wp2_with fail
    refine hov.mono ?_
    rintro e x ⟨rfl, b⟩
    go_wp2
    go_ret
    exact ⟨rfl, H0.out _ b⟩
  rw [if_neg ho, if_neg ho]
  have ho' : decide (sizeN c.b < s.O) = true := decide_eq_true (by omega)
  rw [ho'] at hov
  clear ho'
  obtain ⟨nd, hndd⟩ : ∃ nd, nd = needN c s := ⟨_, rfl⟩
  have HND := hide (fun x (b : Below w.heap.size w x) => rl_need (h.below b) hP hn.2 nd hndd)
  have HLA := hide (fun x (b : Below w.heap.size w x) => rLast (h.below b).tl (by omega))
  obtain ⟨m4, hm4⟩ : ∃ m4, s.m 4 = m4 := ⟨_, rfl⟩
  have HM4 := hide (fun x (b : Below w.heap.size w x) => (h.below b).mm.c 4 (by omega))
  rw [hm4] at HM4
  have HHP := hide (fun x (b : Below w.heap.size w x) => rl_help (h.below b) hw hc hk hnow)
  have HCL := hide (fun x (b : Below w.heap.size w x) z hz => rclose_leaving (h.below b) hw hc z hz)
  unfold goE goS
  rw [hm4, ← hndd]
  have HOP := hide (fun (x : World) o1 F1 (q : Hr x o1 a c { s with F := F1 } k) (hn : F1 ((s.P + 1) % c.n) = none) z hz => ropen_next q hc hP hn z hz)
  have HTS := hide (fun (x : World) (q : RtIs x a.t (sizeN c.b) c.sp s.P s.O) => rTurn q hPs hsp.2)
  clear hw hm4 hndd h
  by_cases g0 : c.sp ≤ s.P + 1
  · rw [if_pos g0, if_pos g0]
    have g0' : decide (c.sp ≤ s.P + 1) = true := decide_eq_true g0
    rw [g0'] at HLA
    clear g0 g0' HND HHP HCL HOP HTS hP hsp hPs hn hz hc
    go_enter Tryz.func42, Tryz.ntmps42
    go_wp2_with fail
    refine hov.mono ?_
    rintro e x ⟨rfl, hbx⟩
    have c0x := (H.out.below hbx).c0
    clear hov
    have hla := HLA.out _ hbx
    go_wp2_with fail
    refine hla.mono ?_
    rintro e y ⟨rfl, hy⟩
    have hby : Below w.heap.size w y := hbx.trans ((below_drewN' hy).mono hbx.size)
    go_wp2
    go_ret
    exact ⟨rfl, H0.out _ hby⟩
  rw [if_neg g0, if_neg g0]
  have g0' : decide (c.sp ≤ s.P + 1) = false := decide_eq_false g0
  rw [g0'] at HLA
  have HG0 := hide g0
  clear g0 g0'
  by_cases g1 : m4 < nd
  · rw [if_pos g1, if_pos g1]
    generalize (helpR c s).1 = HB at *
    generalize (helpR c s).2 = S1 at *
    clear HCL HOP HTS hP hsp hPs hn hz hc
    go_enter Tryz.func42, Tryz.ntmps42
    go_wp2_with fail
    refine hov.mono ?_
    rintro e x ⟨rfl, hbx⟩
    have c0x := (H.out.below hbx).c0
    clear hov
    have hla := HLA.out _ hbx
    go_wp2_with fail
    refine hla.mono ?_
    rintro e y ⟨rfl, hy⟩
    have hby : Below w.heap.size w y := hbx.trans ((below_drewN' hy).mono hbx.size)
    have c2y := (H.out.below hby).c2
    have m4y := HM4.out y hby
    have hby1 := below_drewN hby 1
    clear hla hy hbx
    go_wp2
    go_region_held3 (fun W => W.cell? ⟨a.l, 2, none⟩ = some (.pointer (some ⟨a.m, 0, none⟩)) ∧ W.cell? ⟨a.m, 4, none⟩ = some (.int .i64 (m4 : Int))) (first | assumption | go_keep) (first | (go_at_call 108; refine (HND.out _ hby1).mono ?_; rintro e y2 ⟨rfl, b2⟩; have hb2 := hby1.trans (b2.mono hby1.size); have u2 := (H.out.below hb2).c2; have u4 := HM4.out _ hb2))
    all_goals
      have hhp := HHP.out _ hb2
      clear HHP HLA HND HM4
      go_wp2_with fail
      refine hhp.mono ?_
      rintro e y3 ⟨rfl, hq⟩
      have HF := hide (HG.out _ hb2 _ _ _ hq)
      clear hq hhp HG
      go_wp2
      go_ret
      exact ⟨rfl, HF.out⟩
  · rw [if_neg g1, if_neg g1]
    have HNX := hide (fun (F1 : Nat → Option Pg) (hF : ∀ x, updF F1 ((s.P + 1) % c.n) x = updF s.F ((s.P + 1) % c.n) x) => (by unfold nextS; rw [hF] : ({ s with F := updF F1 ((s.P + 1) % c.n) (some (s.P + 1, fun _ => 0)), P := s.P + 1, O := 0 } : Hs) = nextS c s))
    obtain ⟨lz, hlz⟩ : ∃ lz, lz = (s.P : Int) + 1 - (c.n : Int) := ⟨_, rfl⟩
    obtain ⟨nz, hnz⟩ : ∃ nz, nz = (s.P : Int) + 1 := ⟨_, rfl⟩
    have HCL2 := hide (fun x b => HCL.out x b lz hlz)
    have wnz : IntKind.i64.wrap ((s.P : Int) + 1) = nz := by rw [i64_small (by omega) (by omega), hnz]
    have wlz : IntKind.i64.wrap (nz - (c.n : Int)) = lz := by rw [hnz, hlz, i64_small (by omega) (by omega)]
    have HNZ := hide hnz
    have HTE := hide (turn_eqs ho HG0.out)
    have HPB := hide (fun (x : World) (q : Hr x o a c s k) => (by obtain ⟨K, V, vl, h1, -⟩ := q.pb; exact h1.c1 : x.cell? ⟨a.p, 1, none⟩ = some (.int .i64 (c.n : Int))))
    clear hlz hnz HCL hc
    obtain ⟨S2, hS2⟩ : ∃ S2, S2 = nextS c s := ⟨_, rfl⟩
    rw [← hS2]
    rw [← hS2] at HNX
    clear hS2 hP hsp hPs hn hz
    go_enter Tryz.func42, Tryz.ntmps42
    go_wp2_with fail
    refine hov.mono ?_
    rintro e x ⟨rfl, hbx⟩
    have c0x := (H.out.below hbx).c0
    clear hov
    have hla := HLA.out _ hbx
    go_wp2_with fail
    refine hla.mono ?_
    rintro e y ⟨rfl, hy⟩
    have hby : Below w.heap.size w y := hbx.trans ((below_drewN' hy).mono hbx.size)
    have c2y := (H.out.below hby).c2
    have m4y := HM4.out y hby
    have hby1 := below_drewN hby 1
    clear hla hy hbx
    go_wp2
    go_region_held3 (fun W => W.cell? ⟨a.l, 2, none⟩ = some (.pointer (some ⟨a.m, 0, none⟩)) ∧ W.cell? ⟨a.m, 4, none⟩ = some (.int .i64 (m4 : Int))) (first | assumption | go_keep) (first | (go_at_call 108; refine (HND.out _ hby1).mono ?_; rintro e y2 ⟨rfl, b2⟩; have hb2 := hby1.trans (b2.mono hby1.size); have u2 := (H.out.below hb2).c2; have u4 := HM4.out _ hb2))
    all_goals
      have hb3 := below_drewN hb2 1
      have HY2 := hide (H.out.below hb2)
      have c0y := HY2.out.c0
      have c1y := HY2.out.c1
      have t2y := HY2.out.tl.c2
      have p1y := HPB.out _ HY2.out
      clear HHP HLA HND u2 u4 c2y m4y c0x HM4
      go_wp2
      go_region_held3 (fun W => W.cell? ⟨a.l, 0, none⟩ = some (.pointer (some ⟨a.t, 0, none⟩)) ∧ W.cell? ⟨a.l, 1, none⟩ = some (.pointer (some ⟨a.p, 0, none⟩)) ∧ W.cell? ⟨a.t, 2, none⟩ = some (.int .i64 (s.P : Int)) ∧ W.cell? ⟨a.p, 1, none⟩ = some (.int .i64 (c.n : Int))) (first | assumption | go_keep) (first | (go_at_call 109; refine (HCL2.out _ hb3).mono ?_; rintro e y4 ⟨ce, o1, F1, rfl, g4, X4, K4, hF1, hF2⟩; have v0 := g4.c0; have v1 := g4.c1; have v2 : y4.cell? ⟨a.t, 2, none⟩ = some (.int .i64 (s.P : Int)) := g4.tl.c2; have v3 : y4.cell? ⟨a.p, 1, none⟩ = some (.int .i64 (c.n : Int)) := (by obtain ⟨K, V, vl, h1, -⟩ := g4.pb; exact h1.c1); have HG4 := hide (fun s' k' w'' (q : Rq19 y4 o1 a c s' k' w'') => HG.out _ hb3 _ _ _ (Rq19.trans X4 K4 q)); have HF1 := hide hF1; have HN2 := hide (HNX.out F1 hF2)))
      all_goals
        have G4 := hide g4
        clear HG HCL2 hF1 hF2 X4 K4 g4 HY2 HNX c0y c1y t2y p1y HPB
        go_wp2
        go_region_held3 (fun W => W.cell? ⟨a.l, 0, none⟩ = some (.pointer (some ⟨a.t, 0, none⟩)) ∧ W.cell? ⟨a.l, 1, none⟩ = some (.pointer (some ⟨a.p, 0, none⟩)) ∧ W.cell? ⟨a.t, 2, none⟩ = some (.int .i64 (s.P : Int))) (first | assumption | go_keep) (first | (go_at_call 105; refine (HOP.out _ _ _ (G4.out.drew 1) HF1.out nz HNZ.out).mono ?_; rintro e y6 ⟨rfl, hq6⟩; obtain ⟨o6, g6, X6, K6⟩ := hq6; have u0 := g6.c0; have u1 := g6.c1; have u2 : y6.cell? ⟨a.t, 2, none⟩ = some (.int .i64 (s.P : Int)) := g6.tl.c2; have HG6 := hide (fun s' k' w'' (q : Rq19 y6 o6 a c s' k' w'') => HG4.out _ _ _ (Rq19.after G4.out (below_drewN (Below.refl _ _) 1) (Rq19.trans X6 K6 q)))))
        all_goals
          have hst := HTS.out y6 g6.tl
          rw [HTE.out.1, HTE.out.2.1, HTE.out.2.2] at hst
          have HFin := hide (fun y7 (k7 : Keeps (fun x => x = a.t) y6 y7) (t7 : RtIs y7 a.t (sizeN c.b) c.sp (s.P + 1) 0) => (HG6.out _ _ _ (g6.setTl k7 t7)).more (Nat.le_succ k))
          clear HG4 HG6 X6 K6 g6 G4
          go_wp2_with fail
          refine hst.mono ?_
          rintro e y7 ⟨rfl, t7, k7⟩
          have HF : Hid (Rq19 w o a c S2 (k + 1) y7) := by
            have h1 := HFin.out y7 k7 t7
            unfold Hid
            rw [← HN2.out]
            exact h1
          clear HFin k7 t7 hst
          go_wp2
          go_ret
          exact ⟨rfl, HF.out⟩
end
end Go.Proofs.YtfghfbmmaclcnaaGreat
namespace Go.Proofs.YtfghfbmmaclcnaaGreat
set_option maxRecDepth 20000
open Go.RowKit
section
variable {w : World} {o : Nat → Nat} {a : Rd} {c : Cf} {s : Hs} {k : Nat}
theorem close_eqs {sp P O : Nat} (ho : ¬ O = 0) (hl : ¬ sp ≤ P + 1) : closeE sp P O = 0 ∧ closeP sp P O = P + 1 ∧ closeO sp P O = 0 := by
  unfold closeE closeP closeO
  rw [if_neg ho, if_neg hl, if_neg (by omega), if_neg (by omega)]
  exact ⟨rfl, rfl, rfl⟩
set_option maxHeartbeats 4000000 in
theorem rl_close (h : Hr w o a c s k) (hw : Wf c s k) (hc : CfOk c) (hk : k ≤ 800) (hnow : 1 ≤ s.now ∧ s.now ≤ 100000) :
    Calls Tryz.prog 56 #[.pointer (some ⟨a.l, 0, none⟩)] w fun e w' => e = .returned (.int .i64 (closeHE c s)) ∧ Rq19 w o a c (closeHS c s) (k + 1) w' := by
  have hP : s.P < 64 := by have := hc.hs; have := hw.hp; omega
  have hsp := hc.hs
  have hPs := hw.hp
  have hn := hc.hn
  have hz := sizeN_bounds c.b
  have H := hide h
  have HG := hide (fun x (b : Below w.heap.size w x) s' k' w'' (q : Rq19 x o a c s' k' w'') => Rq19.after h b q)
  have H0 := hide (fun x (b : Below w.heap.size w x) => (h.here.more (Nat.le_succ k)).below b)
  unfold closeHE closeHS
  have c0 := h.c0
  have t3 := h.tl.c3
  by_cases ho : s.O = 0
  · rw [if_pos ho, if_pos ho]
    rw [ho] at t3
    clear ho h hw
    go_enter Tryz.func56, Tryz.ntmps56
    go_wp2
    go_ret
    exact ⟨rfl, H0.out _ (Below.refl _ _)⟩
  rw [if_neg ho, if_neg ho]
  obtain ⟨OO, hOO⟩ : ∃ OO : Int, OO = (s.O : Int) := ⟨_, rfl⟩
  have hO0 : (OO == 0) = false := by rw [beq_eq_false_iff_ne]; omega
  rw [← hOO] at t3
  clear hOO
  obtain ⟨nd, hndd⟩ : ∃ nd, nd = needN c s := ⟨_, rfl⟩
  have HND := hide (fun x (b : Below w.heap.size w x) => rl_need (h.below b) hP hn.2 nd hndd)
  have HLA := hide (fun x (b : Below w.heap.size w x) => rLast (h.below b).tl (by omega))
  obtain ⟨m4, hm4⟩ : ∃ m4, s.m 4 = m4 := ⟨_, rfl⟩
  have HM4 := hide (fun x (b : Below w.heap.size w x) => (h.below b).mm.c 4 (by omega))
  rw [hm4] at HM4
  have HHP := hide (fun x (b : Below w.heap.size w x) => rl_help (h.below b) hw hc hk hnow)
  have HCL := hide (fun x (b : Below w.heap.size w x) z hz => rclose_leaving (h.below b) hw hc z hz)
  unfold goE goS
  rw [hm4, ← hndd]
  have HOP := hide (fun (x : World) o1 F1 (q : Hr x o1 a c { s with F := F1 } k) (hn : F1 ((s.P + 1) % c.n) = none) z hz => ropen_next q hc hP hn z hz)
  have HTS := hide (fun (x : World) (q : RtIs x a.t (sizeN c.b) c.sp s.P s.O) => rClose q hPs hsp.2)
  clear hw hm4 hndd h
  by_cases g0 : c.sp ≤ s.P + 1
  · rw [if_pos g0, if_pos g0]
    have g0' : decide (c.sp ≤ s.P + 1) = true := decide_eq_true g0
    rw [g0'] at HLA
    clear g0 g0' HND HHP HCL HOP HTS hP hsp hPs hn hz hc
    go_enter Tryz.func56, Tryz.ntmps56
    have hbx := Below.refl w.heap.size w
    have hla := HLA.out _ hbx
    go_wp2_with fail
    refine hla.mono ?_
    rintro e y ⟨rfl, hy⟩
    have hby : Below w.heap.size w y := hbx.trans ((below_drewN' hy).mono hbx.size)
    go_wp2
    go_ret
    exact ⟨rfl, H0.out _ hby⟩
  rw [if_neg g0, if_neg g0]
  have g0' : decide (c.sp ≤ s.P + 1) = false := decide_eq_false g0
  rw [g0'] at HLA
  have HG0 := hide g0
  clear g0 g0'
  by_cases g1 : m4 < nd
  · rw [if_pos g1, if_pos g1]
    generalize (helpR c s).1 = HB at *
    generalize (helpR c s).2 = S1 at *
    clear HCL HOP HTS hP hsp hPs hn hz hc
    go_enter Tryz.func56, Tryz.ntmps56
    have hbx := Below.refl w.heap.size w
    have hla := HLA.out _ hbx
    go_wp2_with fail
    refine hla.mono ?_
    rintro e y ⟨rfl, hy⟩
    have hby : Below w.heap.size w y := hbx.trans ((below_drewN' hy).mono hbx.size)
    have c2y := (H.out.below hby).c2
    have m4y := HM4.out y hby
    have hby1 := below_drewN hby 1
    clear hla hy hbx
    go_wp2
    go_region_held3 (fun W => W.cell? ⟨a.l, 2, none⟩ = some (.pointer (some ⟨a.m, 0, none⟩)) ∧ W.cell? ⟨a.m, 4, none⟩ = some (.int .i64 (m4 : Int))) (first | assumption | go_keep) (first | (go_at_call 108; refine (HND.out _ hby1).mono ?_; rintro e y2 ⟨rfl, b2⟩; have hb2 := hby1.trans (b2.mono hby1.size); have u2 := (H.out.below hb2).c2; have u4 := HM4.out _ hb2))
    all_goals
      have hhp := HHP.out _ hb2
      clear HHP HLA HND HM4
      go_wp2_with fail
      refine hhp.mono ?_
      rintro e y3 ⟨rfl, hq⟩
      have HF := hide (HG.out _ hb2 _ _ _ hq)
      clear hq hhp HG
      go_wp2
      go_ret
      exact ⟨rfl, HF.out⟩
  · rw [if_neg g1, if_neg g1]
    have HNX := hide (fun (F1 : Nat → Option Pg) (hF : ∀ x, updF F1 ((s.P + 1) % c.n) x = updF s.F ((s.P + 1) % c.n) x) => (by unfold nextS; rw [hF] : ({ s with F := updF F1 ((s.P + 1) % c.n) (some (s.P + 1, fun _ => 0)), P := s.P + 1, O := 0 } : Hs) = nextS c s))
    obtain ⟨lz, hlz⟩ : ∃ lz, lz = (s.P : Int) + 1 - (c.n : Int) := ⟨_, rfl⟩
    obtain ⟨nz, hnz⟩ : ∃ nz, nz = (s.P : Int) + 1 := ⟨_, rfl⟩
    have HCL2 := hide (fun x b => HCL.out x b lz hlz)
    have wnz : IntKind.i64.wrap ((s.P : Int) + 1) = nz := by rw [i64_small (by omega) (by omega), hnz]
    have wlz : IntKind.i64.wrap (nz - (c.n : Int)) = lz := by rw [hnz, hlz, i64_small (by omega) (by omega)]
    have HNZ := hide hnz
    have HTE := hide (close_eqs ho HG0.out)
    have HPB := hide (fun (x : World) (q : Hr x o a c s k) => (by obtain ⟨K, V, vl, h1, -⟩ := q.pb; exact h1.c1 : x.cell? ⟨a.p, 1, none⟩ = some (.int .i64 (c.n : Int))))
    clear hlz hnz HCL hc
    obtain ⟨S2, hS2⟩ : ∃ S2, S2 = nextS c s := ⟨_, rfl⟩
    rw [← hS2]
    rw [← hS2] at HNX
    clear hS2 hP hsp hPs hn hz
    go_enter Tryz.func56, Tryz.ntmps56
    have hbx := Below.refl w.heap.size w
    have hla := HLA.out _ hbx
    go_wp2_with fail
    refine hla.mono ?_
    rintro e y ⟨rfl, hy⟩
    have hby : Below w.heap.size w y := hbx.trans ((below_drewN' hy).mono hbx.size)
    have c2y := (H.out.below hby).c2
    have m4y := HM4.out y hby
    have hby1 := below_drewN hby 1
    clear hla hy hbx
    go_wp2
    go_region_held3 (fun W => W.cell? ⟨a.l, 2, none⟩ = some (.pointer (some ⟨a.m, 0, none⟩)) ∧ W.cell? ⟨a.m, 4, none⟩ = some (.int .i64 (m4 : Int))) (first | assumption | go_keep) (first | (go_at_call 108; refine (HND.out _ hby1).mono ?_; rintro e y2 ⟨rfl, b2⟩; have hb2 := hby1.trans (b2.mono hby1.size); have u2 := (H.out.below hb2).c2; have u4 := HM4.out _ hb2))
    all_goals
      have hb3 := below_drewN hb2 1
      have HY2 := hide (H.out.below hb2)
      have c0y := HY2.out.c0
      have c1y := HY2.out.c1
      have t2y := HY2.out.tl.c2
      have p1y := HPB.out _ HY2.out
      clear HHP HLA HND u2 u4 c2y m4y HM4
      go_wp2
      go_region_held3 (fun W => W.cell? ⟨a.l, 0, none⟩ = some (.pointer (some ⟨a.t, 0, none⟩)) ∧ W.cell? ⟨a.l, 1, none⟩ = some (.pointer (some ⟨a.p, 0, none⟩)) ∧ W.cell? ⟨a.t, 2, none⟩ = some (.int .i64 (s.P : Int)) ∧ W.cell? ⟨a.p, 1, none⟩ = some (.int .i64 (c.n : Int))) (first | assumption | go_keep) (first | (go_at_call 109; refine (HCL2.out _ hb3).mono ?_; rintro e y4 ⟨ce, o1, F1, rfl, g4, X4, K4, hF1, hF2⟩; have v0 := g4.c0; have v1 := g4.c1; have v2 : y4.cell? ⟨a.t, 2, none⟩ = some (.int .i64 (s.P : Int)) := g4.tl.c2; have v3 : y4.cell? ⟨a.p, 1, none⟩ = some (.int .i64 (c.n : Int)) := (by obtain ⟨K, V, vl, h1, -⟩ := g4.pb; exact h1.c1); have HG4 := hide (fun s' k' w'' (q : Rq19 y4 o1 a c s' k' w'') => HG.out _ hb3 _ _ _ (Rq19.trans X4 K4 q)); have HF1 := hide hF1; have HN2 := hide (HNX.out F1 hF2)))
      all_goals
        have G4 := hide g4
        clear HG HCL2 hF1 hF2 X4 K4 g4 HY2 HNX c0y c1y t2y p1y HPB
        go_wp2
        go_region_held3 (fun W => W.cell? ⟨a.l, 0, none⟩ = some (.pointer (some ⟨a.t, 0, none⟩)) ∧ W.cell? ⟨a.l, 1, none⟩ = some (.pointer (some ⟨a.p, 0, none⟩)) ∧ W.cell? ⟨a.t, 2, none⟩ = some (.int .i64 (s.P : Int))) (first | assumption | go_keep) (first | (go_at_call 105; refine (HOP.out _ _ _ (G4.out.drew 1) HF1.out nz HNZ.out).mono ?_; rintro e y6 ⟨rfl, hq6⟩; obtain ⟨o6, g6, X6, K6⟩ := hq6; have u0 := g6.c0; have u1 := g6.c1; have u2 : y6.cell? ⟨a.t, 2, none⟩ = some (.int .i64 (s.P : Int)) := g6.tl.c2; have HG6 := hide (fun s' k' w'' (q : Rq19 y6 o6 a c s' k' w'') => HG4.out _ _ _ (Rq19.after G4.out (below_drewN (Below.refl _ _) 1) (Rq19.trans X6 K6 q)))))
        all_goals
          have hst := HTS.out y6 g6.tl
          rw [HTE.out.1, HTE.out.2.1, HTE.out.2.2] at hst
          have HFin := hide (fun y7 (k7 : Keeps (fun x => x = a.t) y6 y7) (t7 : RtIs y7 a.t (sizeN c.b) c.sp (s.P + 1) 0) => (HG6.out _ _ _ (g6.setTl k7 t7)).more (Nat.le_succ k))
          clear HG4 HG6 X6 K6 g6 G4
          go_wp2_with fail
          refine hst.mono ?_
          rintro e y7 ⟨rfl, t7, k7⟩
          have HF : Hid (Rq19 w o a c S2 (k + 1) y7) := by
            have h1 := HFin.out y7 k7 t7
            unfold Hid
            rw [← HN2.out]
            exact h1
          clear HFin k7 t7 hst
          go_wp2
          go_ret
          exact ⟨rfl, HF.out⟩
end
end Go.Proofs.YtfghfbmmaclcnaaGreat
