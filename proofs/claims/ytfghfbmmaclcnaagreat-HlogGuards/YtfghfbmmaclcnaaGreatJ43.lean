/- Parts of the proof: Lf. -/
import Derived.Test.YtfghfbmmaclcnaaGreatJ42
import Derived.Deep.AppendLies
import Derived.Deep.RegionHeld3
namespace Go.Proofs.YtfghfbmmaclcnaaGreat
set_option maxRecDepth 20000
open Go.RowKit
set_option maxRecDepth 10000 in
set_option maxHeartbeats 4000000 in
theorem guards_walk (w : World) (v : Value) (oc : IsCg w v) (u : Value) (ol : IsAls w u) :
    Calls Tryz.prog 3 #[v, u] w fun e w' => e = .returned (.bool true) ∧ Below w.heap.size w w' := by
  obtain ⟨⟨c0, c1, c2, c3, c4, c5⟩, hco, rfl⟩ := oc
  obtain ⟨ao, len, cap, z, rfl, hlen, hls⟩ := ol
  have HLS := hide hls
  simp only
  clear hls hco
  by_cases hcf : cfgB c0 c1 c2 c5
  · obtain ⟨c, rfl, rfl, rfl, rfl, hc⟩ := cf_of hcf
    obtain ⟨i0, hi, hz0, hz1, hz2⟩ := info_parts Tryz.infoInts
    have HBG := hide (fun x => begin_yes x c hc c3 c4)
    have HCF := hide hc
    clear hcf hc
    go_enter Tryz.func3, Tryz.ntmps3
    go_wp2_with fail
    refine (awake15 _).mono ?_
    rintro e x1 ⟨rfl, b1⟩
    have hb : Below w.heap.size w x1 := ((Below.refl _ w).alloc (Nat.le_refl _) _).trans (b1.mono (by simp))
    have hcc : ∀ j, x1.cell? ⟨w.heap.size, j, none⟩ = (#[.int .i64 c.b, .int .i64 (c.n : Int), .int .i64 (c.sp : Int), .int .i64 c3, .int .i64 c4, .int .i64 (c.ns : Int)] : Array Value)[j]? := fun j => by
      rw [b1.cell (by simp)]; simp
    have d0 := hcc 0
    have d1 := hcc 1
    have d2 := hcc 2
    have d3 := hcc 3
    have d4 := hcc 4
    have d5 := hcc 5
    simp at d0 d1 d2 d3 d4 d5
    have HB := hide hb
    clear hcc hb b1
    go_wp2_with fail
    refine (HBG.out _).mono ?_
    rintro e x2 ⟨o, a, b, rfl, hbt, ho, b2⟩
    have HBT := hide hbt
    have HO : Hid (∀ x, o x ≠ 0 → w.heap.size < x) := fun x e => Nat.lt_of_lt_of_le (World.block_lt_of_cell? _ _ d1) (ho x e)
    have d1' : x2.cell? ⟨w.heap.size, 1, none⟩ = some (.int .i64 (c.n : Int)) := (b2.cell (World.block_lt_of_cell? _ _ d1)).trans d1
    have HX := hide (HB.out.trans (b2.mono HB.out.size))
    have HB2 := hide b2
    clear d0 d1 d2 d3 d4 d5 hbt ho b2
    go_wp2_with (at_make; refine wpList_make_full _ rfl _ _ 31 rfl w.heap.size 40 i0 (.slice none 0 0) 1 Tryz.underlying31 hi hz0 hz1 _ _ _ _ 8 rfl rfl rfl rfl ?b1 ?b2 HX.out.size ?_)
    case b1 => rw [hz2]; decide
    case b2 => unfold maxLen; omega
    intro x3 hown hgrow
    have hown1 : x3.ownsRow w.heap.size 40 1 (.slice (some ⟨x2.heap.size, 0, none⟩) 8 8) 8 (List.replicate 8 (.slice none 0 0)) := by
      simpa [Value.cells, toList_madeCells_one] using hown
    have hbw : Below x2.heap.size x2 x3 := (Below.refl _ _).grown hgrow (Nat.le_refl _) (by simp)
    have hrw : RwsAt x3 o x2.heap.size 8 .i64 (fun _ => 0) (fun _ _ => 0) := by
      refine ⟨?_, ?_, fun j hj => ⟨hown1.frozenAt j, none, 0, ?_, fun q hq => absurd hq (by omega)⟩⟩
      · by_cases e : o x2.heap.size = 0
        · exact e
        · exact absurd (HBT.out.p.sz _ e) (by omega)
      · exact World.block_lt_of_cell? x3 _ (by rw [hown1.cellAt 0 (by omega)]; rfl : x3.cell? ⟨x2.heap.size, 0, none⟩ = some (.slice none 0 0))
      · rw [hown1.cellAt j (by omega), List.getElem?_replicate, if_pos hj]
    have HRW := hide hrw
    have HX3 := hide (HX.out.trans (hbw.mono HX.out.size))
    have HBT3 := hide (HBT.out.below hbw)
    have d1'' : x3.cell? ⟨w.heap.size, 1, none⟩ = some (.int .i64 (c.n : Int)) := (hbw.cell (World.block_lt_of_cell? _ _ d1')).trans d1'
    have HGW : Hid (w.heap.size < x2.heap.size) := World.block_lt_of_cell? _ _ d1'
    clear hown hgrow hown1 hbw hrw HX HBT HBG HB HB2 d1' hi hz0 hz1 hz2
    go_wp2
    generalize x2.heap.size = g at *
    have HG0 : Hid (GI w a b c g x3 0) := ⟨o, hs0 c dv0, fun _ => 0, fun _ => 0, fun _ _ => 0, ⟨HBT3.out, Wf.new HCF.out, Gd.new, HRW.out, fun _ => Nat.zero_le _, HO.out, HX3.out, d1'', HGW.out⟩, fun j q _ hq => absurd hq (Nat.not_lt_zero _)⟩
    clear HBT3 HRW HO HX3 d1'' HGW
    go_loopw [10] (fun vi wr => ∃ i : Nat, i ≤ 120 ∧ vi = .int .i64 i ∧ GI w a b c g wr i) (fun vi _ => 120 - (intOf vi).toNat)
    case atStart => exact ⟨0, Nat.zero_le _, rfl, HG0.out⟩
    case round =>
      obtain ⟨i, hi, rfl, hgi⟩ := hrel
      clear HG0
      by_cases hlt : i < len ∧ i < 120
      · obtain ⟨hl1, hl2⟩ := hlt
        have HGI := hide hgi
        obtain ⟨o2, s2, H2, L2, V2, gb2, sn2⟩ := hgi
        obtain ⟨hxo, bk, bo, rfl, hx⟩ := (HLS.out.below gb2.bw) i hl1
        have HZ : Hid (∀ W, Below w.heap.size w W → AlAt W bk (bo + i * 4) (z i)) := fun W hb => by
          obtain ⟨-, bk', bo', e, hx'⟩ := (HLS.out.below hb) i hl1
          cases e
          exact hx'
        generalize z i = x at *
        have k0 := hx.c0
        have k1 := hx.c1
        have k2 := hx.c2
        have k3 := hx.c3
        by_cases h14 : x.kd = 14
        · have hk14 : (x.kd == 14) = true := by rw [h14]; decide
          have HGM : Hid (GI w a b c g wr (i + 1)) := HGI.out.more (Nat.le_succ i)
          clear gb2 sn2 HGI k1 k2 k3 hx HZ
          obtain ⟨kd, n, av, wv⟩ := x
          simp only at h14 k0 hk14
          subst h14
          go_wp2
          go_roundw
          case rel => exact ⟨i + 1, by omega, by go_num, HGM.out⟩
          case measure => simp [intOf]; omega
        · have HDO := hide (does_any gb2.bt gb2.wf HCF.out (by omega) x hxo h14)
          have HGB := hide gb2
          have HSN := hide sn2
          have HXO := hide hxo
          clear gb2 sn2 hx hxo HGI
          obtain ⟨kd, n, av, wv⟩ := x
          simp only at h14 k0 k1 k2 k3 HDO
          have hk14 : (kd == 14) = false := by simpa using h14
          go_wp2_with fail
          refine HDO.out.mono ?_
          rintro e Y ⟨rfl, hq⟩
          obtain ⟨o3, gb3⟩ := HGB.out.step HCF.out _ HXO.out hq
          have hz := HZ.out Y gb3.bw
          have m0 := hz.c0
          have m1 := hz.c1
          simp only at m0 m1
          clear k0 k1 k2 k3 hz HZ hq HDO HXO HGB HLS
          by_cases hc1 : kd = 10 ∨ kd = 11
          · by_cases hc2 : seenN (stepS c s2 ⟨kd, n, av, wv⟩) n = (stepS c s2 ⟨kd, n, av, wv⟩).now
            · obtain ⟨-, -, -, -, -, -, -, -, -, -, hns8, hnow1, -⟩ := gb3.bt.p.ep
              obtain ⟨nn, en, hn8, hh⟩ := stepH_yes (c := c) (s := s2) (H := H2) (x := ⟨kd, n, av, wv⟩) hc1 hc2 hnow1 gb3.gd.out hns8
              simp only at en
              subst en
              rw [hh] at gb3
              have hP := stepS_P c s2 ⟨kd, (nn : Int), av, wv⟩
              have e1 := hl_epoch gb3.bt.p
              have e2 := hl_seen gb3.bt.p gb3.gd.out (nn : Int)
              have e3 := now_any gb3.bt.p.ep
              rw [hc2] at e2
              generalize stepS c s2 ⟨kd, (nn : Int), av, wv⟩ = S at *
              have HS2 : Hid (∀ j q, j < 8 → j ≠ nn → q < L2 j → ∃ p : Nat, V2 j q = (p : Int) ∧ updN H2 nn (S.m 3) j ≤ p ∧ p ≤ S.P) := fun j q hj hne hq => by
                obtain ⟨p, p1, p2, p3⟩ := HSN.out j q hj hq
                exact ⟨p, p1, by rw [updN_other _ _ _ _ hne]; exact p2, by omega⟩
              obtain ⟨hfz, rao, rcap, hrc, -⟩ := gb3.rw'.row nn hn8
              obtain ⟨YA, hYA⟩ : ∃ YA, Y.setCell ⟨g, nn, none⟩ (.slice none 0 0) = YA := ⟨_, rfl⟩
              have kA : Keeps (fun x => x = g) Y YA := by rw [← hYA]; exact (Keeps.refl (fun x => x = g) Y).setCell _ (fun _ => rfl) _
              have cA : YA.cell? ⟨g, nn, none⟩ = some (.slice none 0 0) := by rw [← hYA]; exact World.cell?_setCell_same _ _ _ hrc
              have gbA := gb3.anew kA (i := nn) (fun j _ hne => by rw [← hYA, cell_set_off _ _ _ _ (fun e => hne e.symm)]) (fun j _ => by rw [← hYA, World.frozen?_setCell]) [] (by simp) ⟨none, 0, cA, fun j hj => absurd hj (by simp)⟩
              obtain ⟨K, VV, vl, -, lk⟩ := gbA.bt.r.pb
              have hmem : ∀ x ∈ inL15 c S, ∃ p : Nat, x = (p : Int) ∧ p ≤ S.P ∧ S.P < p + c.n := fun x hx => inL15_mem gbA.wf (fun i hi p v e => (lk.bwd i hi p v e).1) hx
              have hilen := inL15_len c S
              have hn8' := HCF.out.hn
              have hpg := hl_pages gbA.bt.p
              have hin := hl_in gbA.bt.p
              have HGA := hide gbA
              have HCA := hide cA
              have HMEM := hide hmem
              clear gb3 hh HSN hc2 kA cA gbA lk hmem hP
              generalize hnw : S.now = nw at *
              generalize inL15 c S = IL at *
              generalize hlL : IL.length = lL at *
              have hsn : ((nw : Int) == (nw : Int)) = true := by simp
              have hn0 : (0 : Int) ≤ (nn : Int) := by omega
              have hn9 : (nn : Int) < 8 := by omega
              clear hnw
              rcases hc1 with rfl | rfl
              all_goals
                go_wp2_with fail
                refine e1.mono ?_
                rintro e y ⟨rfl, hy⟩
                replace hy := hy.symm
                subst hy
                go_wp2_with fail
                refine e2.mono ?_
                rintro e y ⟨rfl, hy⟩
                replace hy := hy.symm
                subst hy
                go_wp2_with fail
                refine e1.mono ?_
                rintro e y ⟨rfl, hy⟩
                replace hy := hy.symm
                subst hy
                go_wp2_with fail
                refine e3.mono ?_
                rintro e y ⟨rfl, hy⟩
                replace hy := hy.symm
                subst hy
                clear e1 e2 e3
                go_wp2_with fail
                refine hpg.mono ?_
                rintro e y ⟨rfl, hy⟩
                replace hy := hy.symm
                subst hy
                go_wp2_with fail
                refine hin.mono ?_
                rintro e Yb ⟨iao, icap, rfl, hsl, bB, hfr⟩
                have HGBB := hide (HGA.out.below bB)
                have HSL := hide hsl
                have HFR : Hid (∀ j, j < lL → ∃ q off, iao = some ⟨q, off, none⟩ ∧ q ≠ g ∧ Yb.cell? ⟨q, off + j, none⟩ = some (.int .i64 (IL.getD j 0))) := fun j hj => by
                  obtain ⟨q, off, e, hcq⟩ := hsl j hj
                  have h1 := hfr (by omega) q off e
                  have h2 := HGA.out.rw'.lt
                  exact ⟨q, off, e, by omega, hcq⟩
                have HSTART : Hid (Gr Yb Yb g nn (.slice none 0 0) []) := Gr.start ((bB.cell (World.block_lt_of_cell? _ _ HCA.out)).trans HCA.out)
                clear hpg hin hsl bB hfr HGA HCA HSL
                go_wp2
                go_loopw [13] (fun vk W => ∃ (k : Nat) (ps : List Int) (v : Value), k ≤ lL ∧ vk = .int .i64 k ∧ Gr Yb W g nn v ps ∧ ps.length ≤ k ∧ ∀ x ∈ ps, ∃ p : Nat, x = (p : Int) ∧ S.m 3 ≤ p ∧ p ≤ S.P) (fun vk _ => lL - (intOf vk).toNat)
                case atStart => exact ⟨0, [], _, Nat.zero_le _, rfl, HSTART.out, Nat.le_refl _, fun x hx => by simp at hx⟩
                case round =>
                  obtain ⟨k, ps, v, hk, rfl, gr, hpl, hps⟩ := hrel
                  clear HSTART
                  by_cases hkl : k < lL
                  · obtain ⟨iq, ioff, rfl, hqg, hic⟩ := HFR.out k hkl
                    have btW := HGBB.out.bt.keep gr.kp (fun x e => by rw [e]; exact HGBB.out.rw'.og)
                    have icw : wr.cell? ⟨iq, ioff + k, none⟩ = some (.int .i64 (IL.getD k 0)) := (gr.kp.cell (World.block_lt_of_cell? _ _ hic) hqg).trans hic
                    have HMK : ∀ n, Calls Tryz.prog 14 #[.pointer (some ⟨a.l, 0, none⟩)] (wr.drewN n) fun e w' => e = .returned (.pointer (some ⟨a.mt, 0, none⟩)) ∧ w' = wr.drewN n := fun n => hl_marks (btW.p.drew n)
                    have HAT : ∀ n, Calls Tryz.prog 15 #[.pointer (some ⟨a.mt, 0, none⟩), .int .i64 3] (wr.drewN n) fun e w' => e = .returned (.int .i64 ((S.m 3 : Nat) : Int)) ∧ w' = wr.drewN n := fun n => mk_at (btW.p.drew n).mm 3 3 rfl (by decide) _ rfl
                    obtain ⟨px, hpx, hpP, -⟩ := HMEM.out (IL.getD k 0) (by
                      rw [List.getD_eq_getElem?_getD, List.getElem?_eq_getElem (by omega)]
                      exact List.getElem_mem _)
                    rw [hpx] at icw
                    have HGR := hide gr
                    have HPS := hide hps
                    clear btW hic gr hps hpx
                    generalize hm3 : S.m 3 = M3 at *
                    by_cases hge : M3 ≤ px
                    · have hd1 : decide ((px : Int) ≥ (M3 : Int)) = true := by simp; omega
                      go_wp2
                      go_quiet ((first | (go_at_call 14; exact Calls.quiet_of_same (HMK _)) | (go_at_call 15; exact Calls.quiet_of_same (HAT _))))
                      go_wp2
                      obtain ⟨gao, gcap, rfl, hcap1, hcap2, -⟩ := HGR.out.form
                      obtain ⟨pl, hpl'⟩ : ∃ pl, ps.length = pl := ⟨_, rfl⟩
                      have grX := HGR.out.below (below_drewN (Below.refl wr.heap.size wr) nq)
                      have icX : (wr.drewN nq).cell? ⟨iq, ioff + k, none⟩ = some (.int .i64 (px : Int)) := icw
                      have hfzX : (wr.drewN nq).frozen? ⟨g, nn, none⟩ = false := by rw [grX.of nn hn8, (HGBB.out.rw'.row nn hn8).1]
                      clear HGR HMK HAT icw
                      generalize wr.drewN nq = X at *
                      have cvX := grX.cv
                      rw [hpl'] at cvX
                      have hX : Below X.heap.size X ((X.drewN 1).alloc (.cells #[.int .i64 (px : Int)] 3)) := (below_drewN (Below.refl X.heap.size X) 1).alloc (by simp) _
                      have hown2 := own_below grX.ow hX
                      rw [hpl'] at hown2
                      have hnews : ∀ j u, [Value.int .i64 (px : Int)][j]? = some u → ((X.drewN 1).alloc (.cells #[.int .i64 (px : Int)] 3)).cell? ((⟨X.heap.size, 0, none⟩ : Addr).add j) = some u := fun j u e => by
                        match j, e with
                        | 0, e => cases e; exact made_arr (X.drewN 1) X.heap.size 0 #[.int .i64 (px : Int)] 3 (by simp) rfl
                        | j + 1, e => simp at e
                      have hone : ∀ u ∈ [Value.int .i64 (px : Int)], u.oneCell' = true := fun u hu => by rw [List.mem_singleton.1 hu]; rfl
                      obtain ⟨i1, hi1, hq0, hq1, hq2⟩ := info_parts Tryz.infoInt
                      have hbase : Yb.heap.size ≤ X.heap.size := grX.kp.size
                      have HPU := fun (w1 : World) (g' cap' : Nat) (hgr : ((X.drewN 1).alloc (.cells #[.int .i64 (px : Int)] 3)).grownBy w1 (Value.slice gao pl gcap).ownBlock) (ho : w1.ownsRow Yb.heap.size 3 1 (.slice (some ⟨g', 0, none⟩) (pl + 1) cap') (pl + 1) (ps.map (Value.int .i64) ++ [.int .i64 (px : Int)])) => (by subst hpl'; exact grX.push HGBB.out.rw'.lt hn8 hX hgr ho : Gr Yb (w1.setCell ⟨g, nn, none⟩ (.slice (some ⟨g', 0, none⟩) (pl + 1) cap')) g nn (.slice (some ⟨g', 0, none⟩) (pl + 1) cap') (ps ++ [(px : Int)]) ∧ w1.cell? ⟨g, nn, none⟩ = some (.slice gao pl gcap) ∧ w1.frozen? ⟨g, nn, none⟩ = X.frozen? ⟨g, nn, none⟩)
                      rw [hfzX] at HPU
                      have hpl8 : pl ≤ 8 := by omega
                      have cvX2 := cell_alloc cvX (.cells #[.int .i64 (px : Int)] 3)
                      have icX2 := cell_alloc icX (.cells #[.int .i64 (px : Int)] 3)
                      have HGE := hide hge
                      clear hd1 hge grX hX
                      go_region_law
                        ((refine step_append_lies _ (by rfl) _ _ 40 (by rfl) Yb.heap.size 3 i1 (.int .i64 0) 1 8 Tryz.underlying40 hi1 hq0 hq1 hq2 rfl (by decide) _ _ _ (by rfl) hown2 ⟨X.heap.size, 0, none⟩ 1 1 [.int .i64 (px : Int)] (by rfl) rfl hnews hone (by decide) (by unfold maxLen; omega) (by omega) (by simp; omega) (X.heap.size + 1) (by simp) ?_; intro g' cap' w1 hown' hgrow hat' hlt'; obtain ⟨gr2, cv1, f1⟩ := HPU w1 g' cap' hgrow hown'))
                      all_goals
                        have HGR2 := hide gr2
                        clear gr2 hown' hgrow hown2 hnews HPU
                        go_wp2
                        go_roundw
                        case rel => exact ⟨k + 1, ps ++ [(px : Int)], _, by omega, by go_num, by first | exact HGR2.out | exact HGR2.out.below (below_drewN (Below.refl _ _) 1), by simp; omega, fun x hx => by
                          rcases List.mem_append.1 hx with hx | hx
                          · exact HPS.out x hx
                          · exact ⟨px, List.mem_singleton.1 hx, HGE.out, hpP⟩⟩
                        case measure => simp [intOf]; omega
                    · have hd1 : decide ((px : Int) ≥ (M3 : Int)) = false := by simp; omega
                      go_wp2
                      go_quiet ((first | (go_at_call 14; exact Calls.quiet_of_same (HMK _)) | (go_at_call 15; exact Calls.quiet_of_same (HAT _))))
                      go_wp2
                      go_roundw
                      case rel => exact ⟨k + 1, ps, v, by omega, by go_num, HGR.out.below (below_drewN (Below.refl _ _) _), by omega, HPS.out⟩
                      case measure => simp [intOf]; omega
                  · obtain ⟨gao, gcap, rfl, -, -, hgc⟩ := gr.form
                    have gbW := HGBB.out.anew gr.kp (i := nn) gr.oc gr.of ps (by omega) ⟨gao, gcap, gr.cv, hgc⟩
                    have HG : Hid (GI w a b c g wr (i + 1)) := ⟨o3, S, _, _, _, gbW, fun j q hj hq => by
                      by_cases e : j = nn
                      · subst e
                        simp only [if_true] at hq ⊢
                        obtain ⟨p, p1, p2, p3⟩ := hps (ps.getD q 0) (by
                          rw [List.getD_eq_getElem?_getD, List.getElem?_eq_getElem hq]
                          exact List.getElem_mem _)
                        exact ⟨p, p1, by rw [updN_same]; exact p2, p3⟩
                      · simp only [if_neg e] at hq ⊢
                        exact HS2.out j q hj e hq⟩
                    clear gbW hgc gr hps HS2 HMEM HFR HGBB m0 m1 hfz hrc hYA
                    obtain rfl : k = lL := by omega
                    obtain ⟨Yw, hYw⟩ : ∃ Yw, Yw = wr := ⟨_, rfl⟩
                    subst hYw
                    obtain ⟨o1, s1, H1, L1, V1, gb1, gsn⟩ := HG.out
                    have hep := fun (k : Nat) => hl_epoch (gb1.bt.p.drew k)
                    have hpgs := fun (k : Nat) => hl_pages (gb1.bt.p.drew k)
                    have hsee := fun (k : Nat) (n : Int) => hl_seen (gb1.bt.p.drew k) gb1.gd.out n
                    have HSEE := hide (And.intro hep (And.intro hpgs hsee))
                    have HHAS : Hid (∀ (k j q : Nat), j < 8 → q < L1 j → s1.v j ≠ 0 → Calls Tryz.prog 16 #[.pointer (some ⟨a.bt, 0, none⟩), .int .i64 (V1 j q)] (Yw.drewN k) fun e w' => e = .returned (.bool true) ∧ ∃ m, w' = (Yw.drewN k).drewN m) := fun k j q hj hq hv => by
                      obtain ⟨p, e, h1, h2⟩ := gsn j q hj hq
                      have h3 := (gb1.gd.lo j hv).1
                      have h4 := gb1.wf.win
                      exact hl_hasP (gb1.bt.p.drew k) gb1.wf p h2 (by omega) _ e
                    have HGB1 := hide gb1
                    have HROW := hide gb1.rw'.row
                    have HL8 := hide gb1.l8
                    clear hep hpgs hsee gb1 gsn
                    go_wp2
                    go_loopw [11] (fun vs W => ∃ j q : Nat, j ≤ 8 ∧ vs = .int .i64 j ∧ W = Yw.drewN q) (fun vs _ => 8 - (intOf vs).toNat)
                    case atStart => exact ⟨0, 0, Nat.zero_le _, rfl, rfl⟩
                    case round =>
                      obtain ⟨j, q, hj, rfl, hwr⟩ := hrel
                      have HWR := hide hwr
                      clear hwr
                      by_cases hj8 : j < 8
                      · obtain ⟨-, rao, rcap, hrc, hrv⟩ := HROW.out j hj8
                        have HRC : Hid (Yw.cell? ⟨g, j, none⟩ = some (.slice rao (L1 j) rcap)) := hrc
                        have HRV := hide hrv
                        have hl8 := HL8.out j
                        have HV : Hid (∀ k q2 : Nat, k < L1 j → s1.v j ≠ 0 → Calls Tryz.prog 16 #[.pointer (some ⟨a.bt, 0, none⟩), .int .i64 (V1 j k)] (Yw.drewN q2) fun e w' => e = .returned (.bool true) ∧ ∃ m, w' = (Yw.drewN q2).drewN m) := fun k q2 hk hv => HHAS.out q2 j k hj8 hk hv
                        have HSJ : Hid (∀ q2 : Nat, Calls Tryz.prog 10 #[.pointer (some ⟨a.et, 0, none⟩), .int .i64 (j : Int)] (Yw.drewN q2) fun e w' => e = .returned (.int .u64 ((s1.v j : Nat) : Int)) ∧ w' = Yw.drewN q2) := fun q2 => by
                          have := HSEE.out.2.2 q2 (j : Int)
                          have e : seenN s1 (j : Int) = s1.v j := by unfold seenN; rw [if_neg (by omega), Int.toNat_natCast]
                          rw [e] at this
                          exact this
                        clear hrc hrv
                        generalize hLL : L1 j = LL at *
                        generalize s1.v j = sv at *
                        go_wp2
                        go_loopw [14] (fun vk W => ∃ k q2 : Nat, k ≤ LL ∧ vk = .int .i64 k ∧ W = Yw.drewN q2) (fun vk _ => LL - (intOf vk).toNat)
                        case atStart => exact ⟨0, q, Nat.zero_le _, rfl, HWR.out⟩
                        case round =>
                          obtain ⟨k, q2, hk, rfl, hwr2⟩ := hrel
                          have HWR2 := hide hwr2
                          have rc1 : wr.cell? ⟨g, j, none⟩ = some (.slice rao LL rcap) := by rw [hwr2]; exact HRC.out
                          clear hwr2
                          by_cases hkl : k < LL
                          · obtain ⟨qb, qo, rfl, hqc, -, -⟩ := HRV.out k hkl
                            have rc2 : wr.cell? ⟨qb, qo + k, none⟩ = some (.int .i64 (V1 j k)) := by rw [HWR2.out]; exact hqc
                            have HS1 : ∀ n, Calls Tryz.prog 10 #[.pointer (some ⟨a.et, 0, none⟩), .int .i64 (j : Int)] (wr.drewN n) fun e w' => e = .returned (.int .u64 ((sv : Nat) : Int)) ∧ w' = wr.drewN n := fun n => by
                              have := HSJ.out (q2 + n)
                              rw [HWR2.out, drewN_drewN]; exact this
                            have HE1 : ∀ n, Calls Tryz.prog 9 #[.pointer (some ⟨a.l, 0, none⟩)] (wr.drewN n) fun e w' => e = .returned (.pointer (some ⟨a.et, 0, none⟩)) ∧ w' = wr.drewN n := fun n => by
                              have := HSEE.out.1 (q2 + n)
                              rw [HWR2.out, drewN_drewN]; exact this
                            have HP1 : ∀ n, Calls Tryz.prog 12 #[.pointer (some ⟨a.l, 0, none⟩)] (wr.drewN n) fun e w' => e = .returned (.pointer (some ⟨a.bt, 0, none⟩)) ∧ w' = wr.drewN n := fun n => by
                              have := HSEE.out.2.1 (q2 + n)
                              rw [HWR2.out, drewN_drewN]; exact this
                            by_cases hv : sv = 0
                            · subst hv
                              clear hqc
                              generalize V1 j k = pv at *
                              go_wp2
                              go_quiet ((first | (go_at_call 9; exact Calls.quiet_of_same (HE1 _)) | (go_at_call 10; exact Calls.quiet_of_same (HS1 _))))
                              go_wp2
                              go_roundw
                              case rel => exact ⟨k + 1, _, by omega, by go_num, by rw [HWR2.out, drewN_drewN]⟩
                              case measure => simp [intOf]; omega
                            · have HH1 : ∀ n, Calls Tryz.prog 16 #[.pointer (some ⟨a.bt, 0, none⟩), .int .i64 (V1 j k)] (wr.drewN n) fun e w' => e = .returned (.bool true) ∧ ∃ m, w' = (wr.drewN n).drewN m := fun n => by
                                have := HV.out k (q2 + n) hkl hv
                                rw [HWR2.out, drewN_drewN]; exact this
                              have hv1 : 0 < sv := by omega
                              have hv2 : decide ((sv : Int) > 0) = true := by simp; omega
                              clear hqc hv
                              generalize V1 j k = pv at *
                              go_wp2
                              go_quiet ((first | (go_at_call 9; exact Calls.quiet_of_same (HE1 _)) | (go_at_call 10; exact Calls.quiet_of_same (HS1 _)) | (go_at_call 12; exact Calls.quiet_of_same (HP1 _)) | (go_at_call 16; exact Calls.quiet_of (HH1 _))))
                              go_wp2
                              go_roundw
                              case rel => exact ⟨k + 1, _, by omega, by go_num, by rw [HWR2.out, drewN_drewN]⟩
                              case measure => simp [intOf]; omega
                          · obtain rfl : k = LL := by omega
                            go_wp2
                            go_roundw
                            case rel => exact ⟨j + 1, q2, by omega, by go_num, HWR2.out⟩
                            case measure => simp [intOf]; omega
                      · obtain rfl : j = 8 := by omega
                        have bq := below_drewN (Below.refl Yw.heap.size Yw) q
                        rw [← HWR.out] at bq
                        have gb2 := HGB1.out.below bq
                        have gi2 := HG.out.below bq
                        have cl2 := gb2.cl
                        have hp2 := hl_pages (gb2.bt.p.drew 1)
                        have hi2 := hl_in (gb2.bt.p.drew 1)
                        have hlen := inL15_len c s1
                        have HCL : Hid (∀ W, Below wr.heap.size wr W → W.cell? ⟨w.heap.size, 1, none⟩ = some (.int .i64 (c.n : Int))) := fun W hb => (gb2.below hb).cl
                        have HGI2 := hide gi2
                        clear gb2 gi2 bq
                        generalize inL15 c s1 = IL at *
                        generalize hlL : IL.length = lL at *
                        have hcmp : decide ((lL : Int) > (c.n : Int)) = false := by simp; omega
                        go_wp2
                        go_region_held3 (fun W => W.cell? ⟨w.heap.size, 1, none⟩ = some (.int .i64 (c.n : Int))) (first | assumption | go_keep) (first | (go_at_call 12; refine hp2.mono ?_; rintro e y0 ⟨rfl, rfl⟩) | (go_at_call 13; refine hi2.mono ?_; rintro e y1 ⟨iao, icap, rfl, -, b1, -⟩; have b2 := (below_drewN (Below.refl wr.heap.size wr) 1).trans (b1.mono (by simp)); have cl3 := HCL.out y1 b2))
                        all_goals
                          have HE := hide (HGI2.out.below b2)
                          clear hi2 hp2 HCL HGI2 b1 b2
                          go_wp2
                          go_roundw
                          case rel => exact ⟨i + 1, by omega, by go_num, HE.out⟩
                          case measure => simp [intOf]; omega
            · have hh := stepH_no (c := c) (s := s2) (H := H2) (x := ⟨kd, n, av, wv⟩) (fun e => hc2 e.2)
              have HG : Hid (GI w a b c g Y (i + 1)) := ⟨o3, _, _, _, _, gb3, HSN.out.step _ hh⟩
              have e1 := hl_epoch gb3.bt.p
              have e2 := hl_seen gb3.bt.p gb3.gd.out n
              have e3 := now_any gb3.bt.p.ep
              clear gb3 hh HSN
              generalize seenN (stepS c s2 ⟨kd, n, av, wv⟩) n = sv at *
              generalize (stepS c s2 ⟨kd, n, av, wv⟩).now = nw at *
              have hsn : ((sv : Int) == (nw : Int)) = false := by simp; omega
              clear hc2
              rcases hc1 with rfl | rfl
              all_goals
                go_wp2_with fail
                refine e1.mono ?_
                rintro e y ⟨rfl, hy⟩
                replace hy := hy.symm
                subst hy
                go_wp2_with fail
                refine e2.mono ?_
                rintro e y ⟨rfl, hy⟩
                replace hy := hy.symm
                subst hy
                go_wp2_with fail
                refine e1.mono ?_
                rintro e y ⟨rfl, hy⟩
                replace hy := hy.symm
                subst hy
                go_wp2_with fail
                refine e3.mono ?_
                rintro e y ⟨rfl, hy⟩
                replace hy := hy.symm
                subst hy
                clear e1 e2 e3
                obtain ⟨o1, s1, H1, L1, V1, gb1, gsn⟩ := HG.out
                have hep := fun (k : Nat) => hl_epoch (gb1.bt.p.drew k)
                have hpgs := fun (k : Nat) => hl_pages (gb1.bt.p.drew k)
                have hsee := fun (k : Nat) (n : Int) => hl_seen (gb1.bt.p.drew k) gb1.gd.out n
                have HSEE := hide (And.intro hep (And.intro hpgs hsee))
                have HHAS : Hid (∀ (k j q : Nat), j < 8 → q < L1 j → s1.v j ≠ 0 → Calls Tryz.prog 16 #[.pointer (some ⟨a.bt, 0, none⟩), .int .i64 (V1 j q)] (Y.drewN k) fun e w' => e = .returned (.bool true) ∧ ∃ m, w' = (Y.drewN k).drewN m) := fun k j q hj hq hv => by
                  obtain ⟨p, e, h1, h2⟩ := gsn j q hj hq
                  have h3 := (gb1.gd.lo j hv).1
                  have h4 := gb1.wf.win
                  exact hl_hasP (gb1.bt.p.drew k) gb1.wf p h2 (by omega) _ e
                have HGB1 := hide gb1
                have HROW := hide gb1.rw'.row
                have HL8 := hide gb1.l8
                clear hep hpgs hsee gb1 gsn
                go_wp2
                go_loopw [11] (fun vs W => ∃ j q : Nat, j ≤ 8 ∧ vs = .int .i64 j ∧ W = Y.drewN q) (fun vs _ => 8 - (intOf vs).toNat)
                case atStart => exact ⟨0, 0, Nat.zero_le _, rfl, rfl⟩
                case round =>
                  obtain ⟨j, q, hj, rfl, hwr⟩ := hrel
                  have HWR := hide hwr
                  clear hwr
                  by_cases hj8 : j < 8
                  · obtain ⟨-, rao, rcap, hrc, hrv⟩ := HROW.out j hj8
                    have HRC : Hid (Y.cell? ⟨g, j, none⟩ = some (.slice rao (L1 j) rcap)) := hrc
                    have HRV := hide hrv
                    have hl8 := HL8.out j
                    have HV : Hid (∀ k q2 : Nat, k < L1 j → s1.v j ≠ 0 → Calls Tryz.prog 16 #[.pointer (some ⟨a.bt, 0, none⟩), .int .i64 (V1 j k)] (Y.drewN q2) fun e w' => e = .returned (.bool true) ∧ ∃ m, w' = (Y.drewN q2).drewN m) := fun k q2 hk hv => HHAS.out q2 j k hj8 hk hv
                    have HSJ : Hid (∀ q2 : Nat, Calls Tryz.prog 10 #[.pointer (some ⟨a.et, 0, none⟩), .int .i64 (j : Int)] (Y.drewN q2) fun e w' => e = .returned (.int .u64 ((s1.v j : Nat) : Int)) ∧ w' = Y.drewN q2) := fun q2 => by
                      have := HSEE.out.2.2 q2 (j : Int)
                      have e : seenN s1 (j : Int) = s1.v j := by unfold seenN; rw [if_neg (by omega), Int.toNat_natCast]
                      rw [e] at this
                      exact this
                    clear hrc hrv
                    generalize hLL : L1 j = LL at *
                    generalize s1.v j = sv at *
                    go_wp2
                    go_loopw [14] (fun vk W => ∃ k q2 : Nat, k ≤ LL ∧ vk = .int .i64 k ∧ W = Y.drewN q2) (fun vk _ => LL - (intOf vk).toNat)
                    case atStart => exact ⟨0, q, Nat.zero_le _, rfl, HWR.out⟩
                    case round =>
                      obtain ⟨k, q2, hk, rfl, hwr2⟩ := hrel
                      have HWR2 := hide hwr2
                      have rc1 : wr.cell? ⟨g, j, none⟩ = some (.slice rao LL rcap) := by rw [hwr2]; exact HRC.out
                      clear hwr2
                      by_cases hkl : k < LL
                      · obtain ⟨qb, qo, rfl, hqc, -, -⟩ := HRV.out k hkl
                        have rc2 : wr.cell? ⟨qb, qo + k, none⟩ = some (.int .i64 (V1 j k)) := by rw [HWR2.out]; exact hqc
                        have HS1 : ∀ n, Calls Tryz.prog 10 #[.pointer (some ⟨a.et, 0, none⟩), .int .i64 (j : Int)] (wr.drewN n) fun e w' => e = .returned (.int .u64 ((sv : Nat) : Int)) ∧ w' = wr.drewN n := fun n => by
                          have := HSJ.out (q2 + n)
                          rw [HWR2.out, drewN_drewN]; exact this
                        have HE1 : ∀ n, Calls Tryz.prog 9 #[.pointer (some ⟨a.l, 0, none⟩)] (wr.drewN n) fun e w' => e = .returned (.pointer (some ⟨a.et, 0, none⟩)) ∧ w' = wr.drewN n := fun n => by
                          have := HSEE.out.1 (q2 + n)
                          rw [HWR2.out, drewN_drewN]; exact this
                        have HP1 : ∀ n, Calls Tryz.prog 12 #[.pointer (some ⟨a.l, 0, none⟩)] (wr.drewN n) fun e w' => e = .returned (.pointer (some ⟨a.bt, 0, none⟩)) ∧ w' = wr.drewN n := fun n => by
                          have := HSEE.out.2.1 (q2 + n)
                          rw [HWR2.out, drewN_drewN]; exact this
                        by_cases hv : sv = 0
                        · subst hv
                          clear hqc
                          generalize V1 j k = pv at *
                          go_wp2
                          go_quiet ((first | (go_at_call 9; exact Calls.quiet_of_same (HE1 _)) | (go_at_call 10; exact Calls.quiet_of_same (HS1 _))))
                          go_wp2
                          go_roundw
                          case rel => exact ⟨k + 1, _, by omega, by go_num, by rw [HWR2.out, drewN_drewN]⟩
                          case measure => simp [intOf]; omega
                        · have HH1 : ∀ n, Calls Tryz.prog 16 #[.pointer (some ⟨a.bt, 0, none⟩), .int .i64 (V1 j k)] (wr.drewN n) fun e w' => e = .returned (.bool true) ∧ ∃ m, w' = (wr.drewN n).drewN m := fun n => by
                            have := HV.out k (q2 + n) hkl hv
                            rw [HWR2.out, drewN_drewN]; exact this
                          have hv1 : 0 < sv := by omega
                          have hv2 : decide ((sv : Int) > 0) = true := by simp; omega
                          clear hqc hv
                          generalize V1 j k = pv at *
                          go_wp2
                          go_quiet ((first | (go_at_call 9; exact Calls.quiet_of_same (HE1 _)) | (go_at_call 10; exact Calls.quiet_of_same (HS1 _)) | (go_at_call 12; exact Calls.quiet_of_same (HP1 _)) | (go_at_call 16; exact Calls.quiet_of (HH1 _))))
                          go_wp2
                          go_roundw
                          case rel => exact ⟨k + 1, _, by omega, by go_num, by rw [HWR2.out, drewN_drewN]⟩
                          case measure => simp [intOf]; omega
                      · obtain rfl : k = LL := by omega
                        go_wp2
                        go_roundw
                        case rel => exact ⟨j + 1, q2, by omega, by go_num, HWR2.out⟩
                        case measure => simp [intOf]; omega
                  · obtain rfl : j = 8 := by omega
                    have bq := below_drewN (Below.refl Y.heap.size Y) q
                    rw [← HWR.out] at bq
                    have gb2 := HGB1.out.below bq
                    have gi2 := HG.out.below bq
                    have cl2 := gb2.cl
                    have hp2 := hl_pages (gb2.bt.p.drew 1)
                    have hi2 := hl_in (gb2.bt.p.drew 1)
                    have hlen := inL15_len c s1
                    have HCL : Hid (∀ W, Below wr.heap.size wr W → W.cell? ⟨w.heap.size, 1, none⟩ = some (.int .i64 (c.n : Int))) := fun W hb => (gb2.below hb).cl
                    have HGI2 := hide gi2
                    clear gb2 gi2 bq
                    generalize inL15 c s1 = IL at *
                    generalize hlL : IL.length = lL at *
                    have hcmp : decide ((lL : Int) > (c.n : Int)) = false := by simp; omega
                    go_wp2
                    go_region_held3 (fun W => W.cell? ⟨w.heap.size, 1, none⟩ = some (.int .i64 (c.n : Int))) (first | assumption | go_keep) (first | (go_at_call 12; refine hp2.mono ?_; rintro e y0 ⟨rfl, rfl⟩) | (go_at_call 13; refine hi2.mono ?_; rintro e y1 ⟨iao, icap, rfl, -, b1, -⟩; have b2 := (below_drewN (Below.refl wr.heap.size wr) 1).trans (b1.mono (by simp)); have cl3 := HCL.out y1 b2))
                    all_goals
                      have HE := hide (HGI2.out.below b2)
                      clear hi2 hp2 HCL HGI2 b1 b2
                      go_wp2
                      go_roundw
                      case rel => exact ⟨i + 1, by omega, by go_num, HE.out⟩
                      case measure => simp [intOf]; omega
          · have hh := stepH_no (c := c) (s := s2) (H := H2) (x := ⟨kd, n, av, wv⟩) (fun e => hc1 e.1)
            have HG : Hid (GI w a b c g Y (i + 1)) := ⟨o3, _, _, _, _, gb3, HSN.out.step _ hh⟩
            have hk10 : (kd == 10) = false := by simp; omega
            have hk11 : (kd == 11) = false := by simp; omega
            clear hc1 h14 gb3 hh HSN
            obtain ⟨o1, s1, H1, L1, V1, gb1, gsn⟩ := HG.out
            have hep := fun (k : Nat) => hl_epoch (gb1.bt.p.drew k)
            have hpgs := fun (k : Nat) => hl_pages (gb1.bt.p.drew k)
            have hsee := fun (k : Nat) (n : Int) => hl_seen (gb1.bt.p.drew k) gb1.gd.out n
            have HSEE := hide (And.intro hep (And.intro hpgs hsee))
            have HHAS : Hid (∀ (k j q : Nat), j < 8 → q < L1 j → s1.v j ≠ 0 → Calls Tryz.prog 16 #[.pointer (some ⟨a.bt, 0, none⟩), .int .i64 (V1 j q)] (Y.drewN k) fun e w' => e = .returned (.bool true) ∧ ∃ m, w' = (Y.drewN k).drewN m) := fun k j q hj hq hv => by
              obtain ⟨p, e, h1, h2⟩ := gsn j q hj hq
              have h3 := (gb1.gd.lo j hv).1
              have h4 := gb1.wf.win
              exact hl_hasP (gb1.bt.p.drew k) gb1.wf p h2 (by omega) _ e
            have HGB1 := hide gb1
            have HROW := hide gb1.rw'.row
            have HL8 := hide gb1.l8
            clear hep hpgs hsee gb1 gsn
            go_wp2
            go_loopw [11] (fun vs W => ∃ j q : Nat, j ≤ 8 ∧ vs = .int .i64 j ∧ W = Y.drewN q) (fun vs _ => 8 - (intOf vs).toNat)
            case atStart => exact ⟨0, 0, Nat.zero_le _, rfl, rfl⟩
            case round =>
              obtain ⟨j, q, hj, rfl, hwr⟩ := hrel
              have HWR := hide hwr
              clear hwr
              by_cases hj8 : j < 8
              · obtain ⟨-, rao, rcap, hrc, hrv⟩ := HROW.out j hj8
                have HRC : Hid (Y.cell? ⟨g, j, none⟩ = some (.slice rao (L1 j) rcap)) := hrc
                have HRV := hide hrv
                have hl8 := HL8.out j
                have HV : Hid (∀ k q2 : Nat, k < L1 j → s1.v j ≠ 0 → Calls Tryz.prog 16 #[.pointer (some ⟨a.bt, 0, none⟩), .int .i64 (V1 j k)] (Y.drewN q2) fun e w' => e = .returned (.bool true) ∧ ∃ m, w' = (Y.drewN q2).drewN m) := fun k q2 hk hv => HHAS.out q2 j k hj8 hk hv
                have HSJ : Hid (∀ q2 : Nat, Calls Tryz.prog 10 #[.pointer (some ⟨a.et, 0, none⟩), .int .i64 (j : Int)] (Y.drewN q2) fun e w' => e = .returned (.int .u64 ((s1.v j : Nat) : Int)) ∧ w' = Y.drewN q2) := fun q2 => by
                  have := HSEE.out.2.2 q2 (j : Int)
                  have e : seenN s1 (j : Int) = s1.v j := by unfold seenN; rw [if_neg (by omega), Int.toNat_natCast]
                  rw [e] at this
                  exact this
                clear hrc hrv
                generalize hLL : L1 j = LL at *
                generalize s1.v j = sv at *
                go_wp2
                go_loopw [14] (fun vk W => ∃ k q2 : Nat, k ≤ LL ∧ vk = .int .i64 k ∧ W = Y.drewN q2) (fun vk _ => LL - (intOf vk).toNat)
                case atStart => exact ⟨0, q, Nat.zero_le _, rfl, HWR.out⟩
                case round =>
                  obtain ⟨k, q2, hk, rfl, hwr2⟩ := hrel
                  have HWR2 := hide hwr2
                  have rc1 : wr.cell? ⟨g, j, none⟩ = some (.slice rao LL rcap) := by rw [hwr2]; exact HRC.out
                  clear hwr2
                  by_cases hkl : k < LL
                  · obtain ⟨qb, qo, rfl, hqc, -, -⟩ := HRV.out k hkl
                    have rc2 : wr.cell? ⟨qb, qo + k, none⟩ = some (.int .i64 (V1 j k)) := by rw [HWR2.out]; exact hqc
                    have HS1 : ∀ n, Calls Tryz.prog 10 #[.pointer (some ⟨a.et, 0, none⟩), .int .i64 (j : Int)] (wr.drewN n) fun e w' => e = .returned (.int .u64 ((sv : Nat) : Int)) ∧ w' = wr.drewN n := fun n => by
                      have := HSJ.out (q2 + n)
                      rw [HWR2.out, drewN_drewN]; exact this
                    have HE1 : ∀ n, Calls Tryz.prog 9 #[.pointer (some ⟨a.l, 0, none⟩)] (wr.drewN n) fun e w' => e = .returned (.pointer (some ⟨a.et, 0, none⟩)) ∧ w' = wr.drewN n := fun n => by
                      have := HSEE.out.1 (q2 + n)
                      rw [HWR2.out, drewN_drewN]; exact this
                    have HP1 : ∀ n, Calls Tryz.prog 12 #[.pointer (some ⟨a.l, 0, none⟩)] (wr.drewN n) fun e w' => e = .returned (.pointer (some ⟨a.bt, 0, none⟩)) ∧ w' = wr.drewN n := fun n => by
                      have := HSEE.out.2.1 (q2 + n)
                      rw [HWR2.out, drewN_drewN]; exact this
                    by_cases hv : sv = 0
                    · subst hv
                      clear hqc
                      generalize V1 j k = pv at *
                      go_wp2
                      go_quiet ((first | (go_at_call 9; exact Calls.quiet_of_same (HE1 _)) | (go_at_call 10; exact Calls.quiet_of_same (HS1 _))))
                      go_wp2
                      go_roundw
                      case rel => exact ⟨k + 1, _, by omega, by go_num, by rw [HWR2.out, drewN_drewN]⟩
                      case measure => simp [intOf]; omega
                    · have HH1 : ∀ n, Calls Tryz.prog 16 #[.pointer (some ⟨a.bt, 0, none⟩), .int .i64 (V1 j k)] (wr.drewN n) fun e w' => e = .returned (.bool true) ∧ ∃ m, w' = (wr.drewN n).drewN m := fun n => by
                        have := HV.out k (q2 + n) hkl hv
                        rw [HWR2.out, drewN_drewN]; exact this
                      have hv1 : 0 < sv := by omega
                      have hv2 : decide ((sv : Int) > 0) = true := by simp; omega
                      clear hqc hv
                      generalize V1 j k = pv at *
                      go_wp2
                      go_quiet ((first | (go_at_call 9; exact Calls.quiet_of_same (HE1 _)) | (go_at_call 10; exact Calls.quiet_of_same (HS1 _)) | (go_at_call 12; exact Calls.quiet_of_same (HP1 _)) | (go_at_call 16; exact Calls.quiet_of (HH1 _))))
                      go_wp2
                      go_roundw
                      case rel => exact ⟨k + 1, _, by omega, by go_num, by rw [HWR2.out, drewN_drewN]⟩
                      case measure => simp [intOf]; omega
                  · obtain rfl : k = LL := by omega
                    go_wp2
                    go_roundw
                    case rel => exact ⟨j + 1, q2, by omega, by go_num, HWR2.out⟩
                    case measure => simp [intOf]; omega
              · obtain rfl : j = 8 := by omega
                have bq := below_drewN (Below.refl Y.heap.size Y) q
                rw [← HWR.out] at bq
                have gb2 := HGB1.out.below bq
                have gi2 := HG.out.below bq
                have cl2 := gb2.cl
                have hp2 := hl_pages (gb2.bt.p.drew 1)
                have hi2 := hl_in (gb2.bt.p.drew 1)
                have hlen := inL15_len c s1
                have HCL : Hid (∀ W, Below wr.heap.size wr W → W.cell? ⟨w.heap.size, 1, none⟩ = some (.int .i64 (c.n : Int))) := fun W hb => (gb2.below hb).cl
                have HGI2 := hide gi2
                clear gb2 gi2 bq
                generalize inL15 c s1 = IL at *
                generalize hlL : IL.length = lL at *
                have hcmp : decide ((lL : Int) > (c.n : Int)) = false := by simp; omega
                go_wp2
                go_region_held3 (fun W => W.cell? ⟨w.heap.size, 1, none⟩ = some (.int .i64 (c.n : Int))) (first | assumption | go_keep) (first | (go_at_call 12; refine hp2.mono ?_; rintro e y0 ⟨rfl, rfl⟩) | (go_at_call 13; refine hi2.mono ?_; rintro e y1 ⟨iao, icap, rfl, -, b1, -⟩; have b2 := (below_drewN (Below.refl wr.heap.size wr) 1).trans (b1.mono (by simp)); have cl3 := HCL.out y1 b2))
                all_goals
                  have HE := hide (HGI2.out.below b2)
                  clear hi2 hp2 HCL HGI2 b1 b2
                  go_wp2
                  go_roundw
                  case rel => exact ⟨i + 1, by omega, by go_num, HE.out⟩
                  case measure => simp [intOf]; omega
      · obtain ⟨o2, s2, H2, L2, V2, gb2, sn2⟩ := hgi
        have HE := hide gb2.bw
        clear gb2 sn2
        by_cases h1 : i < len
        · obtain rfl : i = 120 := by omega
          go_wp2
          go_ret
          exact ⟨rfl, HE.out⟩
        · go_wp2
          go_ret
          exact ⟨rfl, HE.out⟩
  · have HBG := hide (fun x => begin_no x c0 c1 c2 c3 c4 c5 hcf)
    clear hcf HLS
    go_enter Tryz.func3, Tryz.ntmps3
    go_wp2_with fail
    refine (awake15 _).mono ?_
    rintro e x1 ⟨rfl, b1⟩
    have hb : Below w.heap.size w x1 := ((Below.refl _ w).alloc (Nat.le_refl _) _).trans (b1.mono (by simp))
    have hcc : ∀ j, x1.cell? ⟨w.heap.size, j, none⟩ = (#[.int .i64 c0, .int .i64 c1, .int .i64 c2, .int .i64 c3, .int .i64 c4, .int .i64 c5] : Array Value)[j]? := fun j => by
      rw [b1.cell (by simp)]; simp
    have d0 := hcc 0
    have d1 := hcc 1
    have d2 := hcc 2
    have d3 := hcc 3
    have d4 := hcc 4
    have d5 := hcc 5
    simp at d0 d1 d2 d3 d4 d5
    have HB := hide hb
    clear hcc hb b1
    go_wp2_with fail
    refine (HBG.out _).mono ?_
    rintro e x2 ⟨rfl, b2⟩
    have HX := hide (HB.out.trans (b2.mono HB.out.size))
    clear d0 d1 d2 d3 d4 d5 b2 HB HBG
    go_wp2
    go_ret
    exact ⟨rfl, HX.out⟩
end Go.Proofs.YtfghfbmmaclcnaaGreat
