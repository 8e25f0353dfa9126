/- Parts of the proof: Li. -/
import Derived.Test.YtfghfbmmaclcnaaGreatJ43
import Derived.Deep.AppendLies
import Derived.Deep.RegionHeld3
namespace Go.Proofs.YtfghfbmmaclcnaaGreat
set_option maxRecDepth 20000
open Go.RowKit
set_option maxRecDepth 10000 in
set_option maxHeartbeats 4000000 in
theorem flushes_walk (w : World) (v : Value) (oc : IsCg w v) (u : Value) (ol : IsAls w u) :
    Calls Tryz.prog 4 #[v, u] w fun e w' => e = .returned (.bool true) ∧ Below w.heap.size w w' := by
  obtain ⟨⟨c0, c1, c2, c3, c4, c5⟩, hco, rfl⟩ := oc
  obtain ⟨ao, len, cap, z, rfl, hlen, hls⟩ := ol
  have HLS := hide hls
  simp only
  clear hls hco
  by_cases hcf : cfgB c0 c1 c2 c5
  · obtain ⟨c, rfl, rfl, rfl, rfl, hc⟩ := cf_of hcf
    obtain ⟨i0, hi, hz0, hz1, hz2⟩ := info_parts Tryz.infoU64s15
    have HBG := hide (fun x => begin_yes x c hc c3 c4)
    have HCF := hide hc
    clear hcf hc
    go_enter Tryz.func4, Tryz.ntmps4
    go_wp2_with fail
    refine (awake15 _).mono ?_
    rintro e x1 ⟨rfl, b1⟩
    have hb : Below w.heap.size w x1 := ((Below.refl _ w).alloc (Nat.le_refl _) _).trans (b1.mono (by simp))
    have hcc : ∀ j, x1.cell? ⟨w.heap.size, j, none⟩ = (#[.int .i64 c.b, .int .i64 (c.n : Int), .int .i64 (c.sp : Int), .int .i64 c3, .int .i64 c4, .int .i64 (c.ns : Int)] : Array Value)[j]? := fun j => by
      rw [b1.cell (by simp)]; simp
    have d0 := hcc 0
    have d1 := hcc 1
    have d2 := hcc 2
    have d3 := hcc 3
    have d4 := hcc 4
    have d5 := hcc 5
    simp at d0 d1 d2 d3 d4 d5
    have HB := hide hb
    clear hcc hb b1
    go_wp2_with fail
    refine (HBG.out _).mono ?_
    rintro e x2 ⟨o, a, b, rfl, hbt, ho, b2⟩
    have HBT := hide hbt
    have HO : Hid (∀ x, o x ≠ 0 → w.heap.size < x) := fun x e => Nat.lt_of_lt_of_le (World.block_lt_of_cell? _ _ d1) (ho x e)
    have d1' : x2.cell? ⟨w.heap.size, 1, none⟩ = some (.int .i64 (c.n : Int)) := (b2.cell (World.block_lt_of_cell? _ _ d1)).trans d1
    have HX := hide (HB.out.trans (b2.mono HB.out.size))
    have HB2 := hide b2
    clear d0 d1 d2 d3 d4 d5 hbt ho b2
    go_wp2_with (at_make; refine wpList_make_full _ rfl _ _ 49 rfl w.heap.size 51 i0 (.slice none 0 0) 1 Tryz.underlying49 hi hz0 hz1 _ _ _ _ 64 rfl rfl rfl rfl ?b1 ?b2 HX.out.size ?_)
    case b1 => rw [hz2]; decide
    case b2 => unfold maxLen; omega
    intro x3 hown hgrow
    have hown1 : x3.ownsRow w.heap.size 51 1 (.slice (some ⟨x2.heap.size, 0, none⟩) 64 64) 64 (List.replicate 64 (.slice none 0 0)) := by
      simpa [Value.cells, toList_madeCells_one] using hown
    have hbw : Below x2.heap.size x2 x3 := (Below.refl _ _).grown hgrow (Nat.le_refl _) (by simp)
    have hrw : RwsAt x3 o x2.heap.size 64 .u64 (fun _ => 0) (fun _ _ => 0) := by
      refine ⟨?_, ?_, fun j hj => ⟨hown1.frozenAt j, none, 0, ?_, fun q hq => absurd hq (by omega)⟩⟩
      · by_cases e : o x2.heap.size = 0
        · exact e
        · exact absurd (HBT.out.p.sz _ e) (by omega)
      · exact World.block_lt_of_cell? x3 _ (by rw [hown1.cellAt 0 (by omega)]; rfl : x3.cell? ⟨x2.heap.size, 0, none⟩ = some (.slice none 0 0))
      · rw [hown1.cellAt j (by omega), List.getElem?_replicate, if_pos hj]
    have HRW := hide hrw
    have HX3 := hide (HX.out.trans (hbw.mono HX.out.size))
    have HBT3 := hide (HBT.out.below hbw)
    have d1'' : x3.cell? ⟨w.heap.size, 1, none⟩ = some (.int .i64 (c.n : Int)) := (hbw.cell (World.block_lt_of_cell? _ _ d1')).trans d1'
    have HGW : Hid (w.heap.size < x2.heap.size) := World.block_lt_of_cell? _ _ d1'
    clear hown hgrow hown1 hbw hrw HX HBT HBG HB HB2 d1' hi hz0 hz1 hz2
    go_wp2
    generalize x2.heap.size = g at *
    have HG0 : Hid (FI w a b c g x3 0) := ⟨o, hs0 c dv0, fun _ _ => 0, fun _ => 0, fun _ _ => 0, ⟨HBT3.out, Wf.new HCF.out, Fk.new, HRW.out, fun q hq => by simp [hs0] at hq, fun x e => Nat.le_of_lt (HO.out x e), HX3.out, Nat.le_of_lt HGW.out⟩⟩
    clear HBT3 HRW HO HX3 d1'' HGW
    go_loopw [10] (fun vi wr => ∃ i : Nat, i ≤ 120 ∧ vi = .int .i64 i ∧ FI w a b c g wr i) (fun vi _ => 120 - (intOf vi).toNat)
    case atStart => exact ⟨0, Nat.zero_le _, rfl, HG0.out⟩
    case round =>
      obtain ⟨i, hi, rfl, hgi⟩ := hrel
      clear HG0
      by_cases hlt : i < len ∧ i < 120
      · obtain ⟨hl1, hl2⟩ := hlt
        have HGI := hide hgi
        obtain ⟨o2, s2, KW, L2, V2, gb2⟩ := hgi
        obtain ⟨hxo, bk, bo, rfl, hx⟩ := (HLS.out.below gb2.bw) i hl1
        have HZ : Hid (∀ W, Below w.heap.size w W → AlAt W bk (bo + i * 4) (z i)) := fun W hb => by
          obtain ⟨-, bk', bo', e, hx'⟩ := (HLS.out.below hb) i hl1
          cases e
          exact hx'
        clear HLS
        generalize z i = x at *
        have HGB := hide gb2
        have HXO := hide hxo
        have k0 := hx.c0
        have k2 := hx.c2
        have hxa := hxo.a
        clear hx hxo gb2
        obtain ⟨kd, n, av, wv⟩ := x
        simp only at k0 k2 hxa
        by_cases h14 : kd = 14
        · subst h14
          have HGM : Hid (FI w a b c g wr (i + 1)) := HGI.out.more (Nat.le_succ i)
          clear HGB HGI HXO HZ
          go_wp2
          go_roundw
          case rel => exact ⟨i + 1, by omega, by go_num, HGM.out⟩
          case measure => simp [intOf]; omega
        · by_cases h13 : kd = 13
          · subst h13
            obtain ⟨A, rfl⟩ : ∃ A : Nat, av = (A : Int) := ⟨av.toNat, by omega⟩
            have HRG : Hid (∀ y, Below wr.heap.size wr y → Calls Tryz.prog 17 #[.pointer (some ⟨a.l, 0, none⟩), .int .u64 (A : Int)] y fun e w' => e = .returned (.int .i64 (regA c s2 A)) ∧ Below y.heap.size y w') := fun y hb => hl_region (HGB.out.bt.p.below hb) A (by omega)
            have HA2 : Hid (∀ y, Below wr.heap.size wr y → y.cell? ⟨bk, bo + i * 4 + 2, none⟩ = some (.int .u64 (A : Int)) ∧ y.cell? ⟨bk, bo + i * 4, none⟩ = some (.int .i64 13)) := fun y hb => by
              have := HZ.out y (HGB.out.bw.trans (hb.mono HGB.out.bw.size))
              exact ⟨this.c2, this.c0⟩
            have HP13 : regA c s2 A = 1 ∨ regA c s2 A = 2 → Hid ((⟨13, n, (A : Int), wv⟩ : Al).kd = 13 → s2.m 1 ≤ pageN c.b (⟨13, n, (A : Int), wv⟩ : Al).a.toNat) := fun h _ => by
              simpa using regA_pg HGB.out.wf.ord h
            have hrg := HRG.out wr (Below.refl _ _)
            by_cases r1 : regA c s2 A = 1
            · have H13 := HP13 (.inl r1)
              rw [r1] at hrg
              clear HP13 HRG
              go_wp2_with fail
              refine hrg.mono ?_
              rintro e Y0 ⟨rfl, bY⟩
              have HFB := hide (HGB.out.below bY)
              clear HGB HGI bY hrg k0 k2 HA2
              have hz0 := HZ.out Y0 HFB.out.bw
              have m0 := hz0.c0
              have m1 := hz0.c1
              have m2 := hz0.c2
              have m3 := hz0.c3
              simp only at m0 m1 m2 m3
              have hbt := HFB.out.bt
              have HDO := hide (does_any hbt HFB.out.wf HCF.out (by omega) ⟨13, n, (A : Int), wv⟩ HXO.out (by simp only; omega))
              have hmk := hl_marks hbt.p
              have hat := mk_at hbt.p.mm 1 1 rfl (by decide) _ rfl
              clear hz0 hbt
              go_wp2_with fail
              refine hmk.mono ?_
              rintro e y ⟨rfl, hy⟩
              replace hy := hy.symm
              subst hy
              go_wp2_with fail
              refine hat.mono ?_
              rintro e y ⟨rfl, hy⟩
              replace hy := hy.symm
              subst hy
              clear hmk hat
              go_wp2_with fail
              refine HDO.out.mono ?_
              rintro e Y ⟨rfl, hq⟩
              obtain ⟨o3, fb3⟩ := HFB.out.step HCF.out _ HXO.out (fun h => H13.out (by first | exact h | trivial)) hq
              have hsafe := stepS_safe HFB.out.wf ⟨13, n, (A : Int), wv⟩
              have hord2 := HFB.out.wf.ord
              clear m0 m1 m2 m3 hq HDO HXO HZ H13 HFB
              generalize stepS c s2 ⟨13, n, (A : Int), wv⟩ = S at *
              obtain ⟨h2a, h2b, h2c, h2d⟩ := hord2
              generalize s2.m 2 = f2 at *
              generalize s2.m 1 = was at *
              clear h2a h2c h2d
              have HKN : Hid (∀ p v, was ≤ p → S.F (p % c.n) = some (p, v) → KWn KW was c.n S.F p = v) := fun p v h1 h2 => by
                unfold KWn
                rw [if_neg (by omega), h2]
              generalize KWn KW was c.n S.F = KX at *
              have HPG : Hid (∀ p, was ≤ p → p < S.m 1 → p ≤ S.P ∧ S.P < p + c.n ∧ p < 64) := fun p h1 h2 => by
                obtain ⟨q1, q2, q3, q4⟩ := fb3.wf.ord
                have q5 := fb3.wf.top
                have q6 := fb3.wf.win
                have q7 := fb3.wf.hp
                have q8 := HCF.out.hs
                omega
              have HF3 := hide fb3
              clear fb3 hsafe h2b
              generalize hM1 : S.m 1 = M1 at *
              go_wp2
              go_loopw [12] (fun vp W => ∃ (p : Nat) (L : Nat → Nat) (V : Nat → Nat → Int), was ≤ p ∧ (p ≤ was ∨ p ≤ M1) ∧ vp = .int .i64 p ∧ FB w a b c g o3 S KX L V W (i + 1) p) (fun vp _ => M1 - (intOf vp).toNat)
              case atStart => exact ⟨was, L2, V2, Nat.le_refl _, .inl (Nat.le_refl _), rfl, HF3.out⟩
              case round =>
                obtain ⟨p, L3, V3, hp1, hp2, rfl, fb4⟩ := hrel
                clear HF3
                have HF4 := hide fb4
                have hmk := hl_marks fb4.bt.p
                have hat := mk_at fb4.bt.p.mm 1 1 rfl (by decide) M1 hM1
                clear fb4
                by_cases hlt : p < M1
                · obtain ⟨g1, g2, g3⟩ := HPG.out p hp1 hlt
                  obtain ⟨v, hv⟩ := (HF4.out.wf.pg p).2 ⟨g1, g2⟩
                  have hpgs := hl_pages HF4.out.bt.p
                  have hpage := hl_pageN HF4.out.bt.p p v hv
                  have hkn := HKN.out p v hp1 hv
                  have hlt' : (p : Int) < (M1 : Int) := by omega
                  clear hv g1 g2
                  go_wp2_with fail
                  refine hmk.mono ?_
                  rintro e y ⟨rfl, hy⟩
                  replace hy := hy.symm
                  subst hy
                  go_wp2_with fail
                  refine hat.mono ?_
                  rintro e y ⟨rfl, hy⟩
                  replace hy := hy.symm
                  subst hy
                  go_wp2_with fail
                  refine hpgs.mono ?_
                  rintro e y ⟨rfl, hy⟩
                  replace hy := hy.symm
                  subst hy
                  go_wp2_with fail
                  refine hpage.mono ?_
                  rintro e Yp ⟨r, rfl, hsl, hr, bp⟩
                  have fb5 := HF4.out.below bp
                  obtain ⟨hfz, rao, rcap, hrc, -⟩ := fb5.rw'.row p g3
                  have HPUT := hide (HF4.out.put bp hsl hr (fun j hj => by rw [hkn]) g3)
                  clear hsl fb5 hpage hmk hat hpgs hr bp hkn HF4
                  generalize sizeN c.b = sz at *
                  go_wp2
                  go_roundw
                  case rel => exact ⟨p + 1, _, _, by omega, by omega, by go_num, HPUT.out⟩
                  case measure => simp [intOf]; omega
                · have HF5 := hide (HF4.out.less (p' := M1) (by omega))
                  have hlt' : ¬ (p : Int) < (M1 : Int) := by omega
                  clear HF4 HKN HPG
                  obtain ⟨Y2, hY2⟩ : ∃ Y2, Y2 = wr := ⟨_, rfl⟩
                  subst hY2
                  go_wp2_with fail
                  refine hmk.mono ?_
                  rintro e y ⟨rfl, hy⟩
                  replace hy := hy.symm
                  subst hy
                  go_wp2_with fail
                  refine hat.mono ?_
                  rintro e y ⟨rfl, hy⟩
                  replace hy := hy.symm
                  subst hy
                  clear hmk hat
                  go_wp2
                  go_loopw [15] (fun vp W => ∃ q : Nat, q ≤ 64 ∧ vp = .int .i64 q ∧ Below Y2.heap.size Y2 W) (fun vp _ => 64 - (intOf vp).toNat)
                  case atStart => exact ⟨0, Nat.zero_le _, rfl, Below.refl _ _⟩
                  case round =>
                    obtain ⟨q, hq64, rfl, hbb⟩ := hrel
                    have fb6 := HF5.out.below hbb
                    have HF6 := hide fb6
                    have hmk := hl_marks fb6.bt.p
                    obtain ⟨M2, hM2⟩ : ∃ M2, S.m 2 = M2 := ⟨_, rfl⟩
                    have hat := mk_at fb6.bt.p.mm 2 2 rfl (by decide) M2 hM2
                    clear fb6
                    by_cases hlt2 : q < M2
                    · have hq1 : q < M1 ∧ q < 64 := by
                        obtain ⟨q1, q2, q3, q4⟩ := HF6.out.wf.ord
                        have q5 := HF6.out.wf.top
                        have q7 := HF6.out.wf.hp
                        have q8 := HCF.out.hs
                        omega
                      have hlook := HF6.out.fk.fl q (by rw [hM2]; exact hlt2)
                      have hdev := hl_device HF6.out.bt.p
                      have hpeek := hl_peek HF6.out.bt.p q hq1.2 _ hlook
                      have HBD : Hid (∀ j, j < sizeN c.b → 0 ≤ KX q j ∧ KX q j < 18446744073709551616) := HF6.out.fk.bd q (by rw [hM1]; exact hq1.1)
                      have HUN := hide (unpack_txt c HCF.out.hb q hq1.2 (KX q) HBD.out)
                      have hlt' : (q : Int) < (M2 : Int) := by omega
                      have hsz := sizeN_bounds c.b
                      clear hlook
                      generalize txt c q (KX q) = T at *
                      go_wp2_with fail
                      refine hmk.mono ?_
                      rintro e y ⟨rfl, hy⟩
                      replace hy := hy.symm
                      subst hy
                      go_wp2_with fail
                      refine hat.mono ?_
                      rintro e y ⟨rfl, hy⟩
                      replace hy := hy.symm
                      subst hy
                      go_wp2_with fail
                      refine hdev.mono ?_
                      rintro e y ⟨rfl, hy⟩
                      replace hy := hy.symm
                      subst hy
                      clear hmk hat hdev
                      go_wp2_with fail
                      refine hpeek.mono ?_
                      rintro e Yq ⟨rfl, b1⟩
                      clear hpeek
                      go_wp2_with fail
                      refine (HUN.out _).mono ?_
                      rintro e Yr ⟨ua, rfl, su, b2⟩
                      have b3 := b1.trans (b2.mono b1.size)
                      have fb7 := HF6.out.below b3
                      have HB7 := hide (hbb.trans (b3.mono hbb.size))
                      obtain ⟨-, rao, rcap, hrc, hrv⟩ := fb7.rw'.row q hq1.2
                      obtain ⟨e1, e2⟩ := fb7.kp q hq1.1
                      rw [e1] at hrc hrv
                      have hsame := same_any ua rao (sizeN c.b) (sizeN c.b) (sizeN c.b) rcap (fun j => (KX q j).toNat) (fun j => (KX q j).toNat) true Yr (by omega) (by omega) su (fun j hj => by
                        obtain ⟨q9, off, e3, h3, -, -⟩ := hrv j hj
                        refine ⟨q9, off, e3, ?_⟩
                        rw [h3, e2 j hj]
                        have h4 := HBD.out j hj
                        show some (Value.int .u64 (KX q j)) = some (Value.int .u64 (((KX q j).toNat : Nat) : Int))
                        rw [Int.toNat_of_nonneg h4.1]) (by simp)
                      have hqq : ((q : Int) != (q : Int)) = false := by simp
                      clear HUN HBD su hrv fb7 b1 b2 b3 HF6 e1 e2
                      generalize sizeN c.b = sz at *
                      go_wp2_with fail
                      refine hsame.mono ?_
                      rintro e Ys ⟨rfl, md, rfl⟩
                      clear hsame
                      go_wp2
                      go_roundw
                      case rel => exact ⟨q + 1, by omega, by go_num, below_drewN HB7.out md⟩
                      case measure => simp [intOf]; omega
                    · have hlt' : ¬ (q : Int) < (M2 : Int) := by omega
                      have HG : Hid (FI w a b c g wr (i + 1)) := ⟨o3, S, KX, L3, V3, by rw [hM1]; exact HF6.out⟩
                      clear HF6 HF5
                      obtain ⟨Y3, hY3⟩ : ∃ Y3, Y3 = wr := ⟨_, rfl⟩
                      subst hY3
                      go_wp2_with fail
                      refine hmk.mono ?_
                      rintro e y ⟨rfl, hy⟩
                      replace hy := hy.symm
                      subst hy
                      go_wp2_with fail
                      refine hat.mono ?_
                      rintro e y ⟨rfl, hy⟩
                      replace hy := hy.symm
                      subst hy
                      clear hmk hat
                      go_wp2
                      go_roundw
                      case rel => exact ⟨i + 1, by omega, by go_num, HG.out⟩
                      case measure => simp [intOf]; omega
            · by_cases r2 : regA c s2 A = 2
              · have H13 := HP13 (.inr r2)
                rw [r2] at hrg
                clear HP13
                go_wp2_with fail
                refine hrg.mono ?_
                rintro e Y1 ⟨rfl, bY1⟩
                obtain ⟨a2, a0⟩ := HA2.out Y1 bY1
                have hrg2 := HRG.out Y1 bY1
                rw [r2] at hrg2
                go_wp2_with fail
                refine hrg2.mono ?_
                rintro e Y0 ⟨rfl, bY0⟩
                have HFB := hide (HGB.out.below (bY1.trans (bY0.mono bY1.size)))
                clear HGB HGI bY0 bY1 hrg hrg2 k0 k2 HA2 HRG a2 a0
                have hz0 := HZ.out Y0 HFB.out.bw
                have m0 := hz0.c0
                have m1 := hz0.c1
                have m2 := hz0.c2
                have m3 := hz0.c3
                simp only at m0 m1 m2 m3
                have hbt := HFB.out.bt
                have HDO := hide (does_any hbt HFB.out.wf HCF.out (by omega) ⟨13, n, (A : Int), wv⟩ HXO.out (by simp only; omega))
                have hmk := hl_marks hbt.p
                have hat := mk_at hbt.p.mm 1 1 rfl (by decide) _ rfl
                clear hz0 hbt
                go_wp2_with fail
                refine hmk.mono ?_
                rintro e y ⟨rfl, hy⟩
                replace hy := hy.symm
                subst hy
                go_wp2_with fail
                refine hat.mono ?_
                rintro e y ⟨rfl, hy⟩
                replace hy := hy.symm
                subst hy
                clear hmk hat
                go_wp2_with fail
                refine HDO.out.mono ?_
                rintro e Y ⟨rfl, hq⟩
                obtain ⟨o3, fb3⟩ := HFB.out.step HCF.out _ HXO.out (fun h => H13.out (by first | exact h | trivial)) hq
                have hsafe := stepS_safe HFB.out.wf ⟨13, n, (A : Int), wv⟩
                have hord2 := HFB.out.wf.ord
                clear m0 m1 m2 m3 hq HDO HXO HZ H13 HFB
                generalize stepS c s2 ⟨13, n, (A : Int), wv⟩ = S at *
                obtain ⟨h2a, h2b, h2c, h2d⟩ := hord2
                generalize s2.m 2 = f2 at *
                generalize s2.m 1 = was at *
                clear h2a h2c h2d
                have HKN : Hid (∀ p v, was ≤ p → S.F (p % c.n) = some (p, v) → KWn KW was c.n S.F p = v) := fun p v h1 h2 => by
                  unfold KWn
                  rw [if_neg (by omega), h2]
                generalize KWn KW was c.n S.F = KX at *
                have HPG : Hid (∀ p, was ≤ p → p < S.m 1 → p ≤ S.P ∧ S.P < p + c.n ∧ p < 64) := fun p h1 h2 => by
                  obtain ⟨q1, q2, q3, q4⟩ := fb3.wf.ord
                  have q5 := fb3.wf.top
                  have q6 := fb3.wf.win
                  have q7 := fb3.wf.hp
                  have q8 := HCF.out.hs
                  omega
                have HF3 := hide fb3
                clear fb3 hsafe h2b
                generalize hM1 : S.m 1 = M1 at *
                go_wp2
                go_loopw [12] (fun vp W => ∃ (p : Nat) (L : Nat → Nat) (V : Nat → Nat → Int), was ≤ p ∧ (p ≤ was ∨ p ≤ M1) ∧ vp = .int .i64 p ∧ FB w a b c g o3 S KX L V W (i + 1) p) (fun vp _ => M1 - (intOf vp).toNat)
                case atStart => exact ⟨was, L2, V2, Nat.le_refl _, .inl (Nat.le_refl _), rfl, HF3.out⟩
                case round =>
                  obtain ⟨p, L3, V3, hp1, hp2, rfl, fb4⟩ := hrel
                  clear HF3
                  have HF4 := hide fb4
                  have hmk := hl_marks fb4.bt.p
                  have hat := mk_at fb4.bt.p.mm 1 1 rfl (by decide) M1 hM1
                  clear fb4
                  by_cases hlt : p < M1
                  · obtain ⟨g1, g2, g3⟩ := HPG.out p hp1 hlt
                    obtain ⟨v, hv⟩ := (HF4.out.wf.pg p).2 ⟨g1, g2⟩
                    have hpgs := hl_pages HF4.out.bt.p
                    have hpage := hl_pageN HF4.out.bt.p p v hv
                    have hkn := HKN.out p v hp1 hv
                    have hlt' : (p : Int) < (M1 : Int) := by omega
                    clear hv g1 g2
                    go_wp2_with fail
                    refine hmk.mono ?_
                    rintro e y ⟨rfl, hy⟩
                    replace hy := hy.symm
                    subst hy
                    go_wp2_with fail
                    refine hat.mono ?_
                    rintro e y ⟨rfl, hy⟩
                    replace hy := hy.symm
                    subst hy
                    go_wp2_with fail
                    refine hpgs.mono ?_
                    rintro e y ⟨rfl, hy⟩
                    replace hy := hy.symm
                    subst hy
                    go_wp2_with fail
                    refine hpage.mono ?_
                    rintro e Yp ⟨r, rfl, hsl, hr, bp⟩
                    have fb5 := HF4.out.below bp
                    obtain ⟨hfz, rao, rcap, hrc, -⟩ := fb5.rw'.row p g3
                    have HPUT := hide (HF4.out.put bp hsl hr (fun j hj => by rw [hkn]) g3)
                    clear hsl fb5 hpage hmk hat hpgs hr bp hkn HF4
                    generalize sizeN c.b = sz at *
                    go_wp2
                    go_roundw
                    case rel => exact ⟨p + 1, _, _, by omega, by omega, by go_num, HPUT.out⟩
                    case measure => simp [intOf]; omega
                  · have HF5 := hide (HF4.out.less (p' := M1) (by omega))
                    have hlt' : ¬ (p : Int) < (M1 : Int) := by omega
                    clear HF4 HKN HPG
                    obtain ⟨Y2, hY2⟩ : ∃ Y2, Y2 = wr := ⟨_, rfl⟩
                    subst hY2
                    go_wp2_with fail
                    refine hmk.mono ?_
                    rintro e y ⟨rfl, hy⟩
                    replace hy := hy.symm
                    subst hy
                    go_wp2_with fail
                    refine hat.mono ?_
                    rintro e y ⟨rfl, hy⟩
                    replace hy := hy.symm
                    subst hy
                    clear hmk hat
                    go_wp2
                    go_loopw [15] (fun vp W => ∃ q : Nat, q ≤ 64 ∧ vp = .int .i64 q ∧ Below Y2.heap.size Y2 W) (fun vp _ => 64 - (intOf vp).toNat)
                    case atStart => exact ⟨0, Nat.zero_le _, rfl, Below.refl _ _⟩
                    case round =>
                      obtain ⟨q, hq64, rfl, hbb⟩ := hrel
                      have fb6 := HF5.out.below hbb
                      have HF6 := hide fb6
                      have hmk := hl_marks fb6.bt.p
                      obtain ⟨M2, hM2⟩ : ∃ M2, S.m 2 = M2 := ⟨_, rfl⟩
                      have hat := mk_at fb6.bt.p.mm 2 2 rfl (by decide) M2 hM2
                      clear fb6
                      by_cases hlt2 : q < M2
                      · have hq1 : q < M1 ∧ q < 64 := by
                          obtain ⟨q1, q2, q3, q4⟩ := HF6.out.wf.ord
                          have q5 := HF6.out.wf.top
                          have q7 := HF6.out.wf.hp
                          have q8 := HCF.out.hs
                          omega
                        have hlook := HF6.out.fk.fl q (by rw [hM2]; exact hlt2)
                        have hdev := hl_device HF6.out.bt.p
                        have hpeek := hl_peek HF6.out.bt.p q hq1.2 _ hlook
                        have HBD : Hid (∀ j, j < sizeN c.b → 0 ≤ KX q j ∧ KX q j < 18446744073709551616) := HF6.out.fk.bd q (by rw [hM1]; exact hq1.1)
                        have HUN := hide (unpack_txt c HCF.out.hb q hq1.2 (KX q) HBD.out)
                        have hlt' : (q : Int) < (M2 : Int) := by omega
                        have hsz := sizeN_bounds c.b
                        clear hlook
                        generalize txt c q (KX q) = T at *
                        go_wp2_with fail
                        refine hmk.mono ?_
                        rintro e y ⟨rfl, hy⟩
                        replace hy := hy.symm
                        subst hy
                        go_wp2_with fail
                        refine hat.mono ?_
                        rintro e y ⟨rfl, hy⟩
                        replace hy := hy.symm
                        subst hy
                        go_wp2_with fail
                        refine hdev.mono ?_
                        rintro e y ⟨rfl, hy⟩
                        replace hy := hy.symm
                        subst hy
                        clear hmk hat hdev
                        go_wp2_with fail
                        refine hpeek.mono ?_
                        rintro e Yq ⟨rfl, b1⟩
                        clear hpeek
                        go_wp2_with fail
                        refine (HUN.out _).mono ?_
                        rintro e Yr ⟨ua, rfl, su, b2⟩
                        have b3 := b1.trans (b2.mono b1.size)
                        have fb7 := HF6.out.below b3
                        have HB7 := hide (hbb.trans (b3.mono hbb.size))
                        obtain ⟨-, rao, rcap, hrc, hrv⟩ := fb7.rw'.row q hq1.2
                        obtain ⟨e1, e2⟩ := fb7.kp q hq1.1
                        rw [e1] at hrc hrv
                        have hsame := same_any ua rao (sizeN c.b) (sizeN c.b) (sizeN c.b) rcap (fun j => (KX q j).toNat) (fun j => (KX q j).toNat) true Yr (by omega) (by omega) su (fun j hj => by
                          obtain ⟨q9, off, e3, h3, -, -⟩ := hrv j hj
                          refine ⟨q9, off, e3, ?_⟩
                          rw [h3, e2 j hj]
                          have h4 := HBD.out j hj
                          show some (Value.int .u64 (KX q j)) = some (Value.int .u64 (((KX q j).toNat : Nat) : Int))
                          rw [Int.toNat_of_nonneg h4.1]) (by simp)
                        have hqq : ((q : Int) != (q : Int)) = false := by simp
                        clear HUN HBD su hrv fb7 b1 b2 b3 HF6 e1 e2
                        generalize sizeN c.b = sz at *
                        go_wp2_with fail
                        refine hsame.mono ?_
                        rintro e Ys ⟨rfl, md, rfl⟩
                        clear hsame
                        go_wp2
                        go_roundw
                        case rel => exact ⟨q + 1, by omega, by go_num, below_drewN HB7.out md⟩
                        case measure => simp [intOf]; omega
                      · have hlt' : ¬ (q : Int) < (M2 : Int) := by omega
                        have HG : Hid (FI w a b c g wr (i + 1)) := ⟨o3, S, KX, L3, V3, by rw [hM1]; exact HF6.out⟩
                        clear HF6 HF5
                        obtain ⟨Y3, hY3⟩ : ∃ Y3, Y3 = wr := ⟨_, rfl⟩
                        subst hY3
                        go_wp2_with fail
                        refine hmk.mono ?_
                        rintro e y ⟨rfl, hy⟩
                        replace hy := hy.symm
                        subst hy
                        go_wp2_with fail
                        refine hat.mono ?_
                        rintro e y ⟨rfl, hy⟩
                        replace hy := hy.symm
                        subst hy
                        clear hmk hat
                        go_wp2
                        go_roundw
                        case rel => exact ⟨i + 1, by omega, by go_num, HG.out⟩
                        case measure => simp [intOf]; omega
              · generalize regA c s2 A = R at *
                have hR1 : (R != 1) = true := by simpa using r1
                have hR2 : (R != 2) = true := by simpa using r2
                clear HP13 r1 r2
                go_wp2_with fail
                refine hrg.mono ?_
                rintro e Y1 ⟨rfl, bY1⟩
                obtain ⟨a2, a0⟩ := HA2.out Y1 bY1
                have hrg2 := HRG.out Y1 bY1
                go_wp2_with fail
                refine hrg2.mono ?_
                rintro e Y0 ⟨rfl, bY0⟩
                have HGM : Hid (FI w a b c g Y0 (i + 1)) := (HGI.out.below (bY1.trans (bY0.mono bY1.size))).more (Nat.le_succ i)
                clear HGB HGI bY0 bY1 hrg hrg2 k0 k2 HA2 HRG a2 a0 HXO HZ
                go_wp2
                go_roundw
                case rel => exact ⟨i + 1, by omega, by go_num, HGM.out⟩
                case measure => simp [intOf]; omega
          · have hk14 : (kd == 14) = false := by simpa using h14
            have hk13 : (kd == 13) = false := by simpa using h13
            obtain ⟨Y0, hY0⟩ : ∃ Y0, Y0 = wr := ⟨_, rfl⟩
            subst hY0
            have HFB := hide HGB.out
            have H13 : Hid ((⟨kd, n, av, wv⟩ : Al).kd = 13 → s2.m 1 ≤ pageN c.b (⟨kd, n, av, wv⟩ : Al).a.toNat) := fun e => absurd e h13
            clear HGB HGI
            have hz0 := HZ.out Y0 HFB.out.bw
            have m0 := hz0.c0
            have m1 := hz0.c1
            have m2 := hz0.c2
            have m3 := hz0.c3
            simp only at m0 m1 m2 m3
            have hbt := HFB.out.bt
            have HDO := hide (does_any hbt HFB.out.wf HCF.out (by omega) ⟨kd, n, av, wv⟩ HXO.out (by simp only; omega))
            have hmk := hl_marks hbt.p
            have hat := mk_at hbt.p.mm 1 1 rfl (by decide) _ rfl
            clear hz0 hbt
            go_wp2_with fail
            refine hmk.mono ?_
            rintro e y ⟨rfl, hy⟩
            replace hy := hy.symm
            subst hy
            go_wp2_with fail
            refine hat.mono ?_
            rintro e y ⟨rfl, hy⟩
            replace hy := hy.symm
            subst hy
            clear hmk hat
            go_wp2_with fail
            refine HDO.out.mono ?_
            rintro e Y ⟨rfl, hq⟩
            obtain ⟨o3, fb3⟩ := HFB.out.step HCF.out _ HXO.out (fun h => H13.out (by first | exact h | trivial)) hq
            have hsafe := stepS_safe HFB.out.wf ⟨kd, n, av, wv⟩
            have hord2 := HFB.out.wf.ord
            clear m0 m1 m2 m3 hq HDO HXO HZ H13 HFB
            generalize stepS c s2 ⟨kd, n, av, wv⟩ = S at *
            obtain ⟨h2a, h2b, h2c, h2d⟩ := hord2
            generalize s2.m 2 = f2 at *
            generalize s2.m 1 = was at *
            clear h2a h2c h2d
            have HKN : Hid (∀ p v, was ≤ p → S.F (p % c.n) = some (p, v) → KWn KW was c.n S.F p = v) := fun p v h1 h2 => by
              unfold KWn
              rw [if_neg (by omega), h2]
            generalize KWn KW was c.n S.F = KX at *
            have HPG : Hid (∀ p, was ≤ p → p < S.m 1 → p ≤ S.P ∧ S.P < p + c.n ∧ p < 64) := fun p h1 h2 => by
              obtain ⟨q1, q2, q3, q4⟩ := fb3.wf.ord
              have q5 := fb3.wf.top
              have q6 := fb3.wf.win
              have q7 := fb3.wf.hp
              have q8 := HCF.out.hs
              omega
            have HF3 := hide fb3
            clear fb3 hsafe h2b
            generalize hM1 : S.m 1 = M1 at *
            go_wp2
            go_loopw [12] (fun vp W => ∃ (p : Nat) (L : Nat → Nat) (V : Nat → Nat → Int), was ≤ p ∧ (p ≤ was ∨ p ≤ M1) ∧ vp = .int .i64 p ∧ FB w a b c g o3 S KX L V W (i + 1) p) (fun vp _ => M1 - (intOf vp).toNat)
            case atStart => exact ⟨was, L2, V2, Nat.le_refl _, .inl (Nat.le_refl _), rfl, HF3.out⟩
            case round =>
              obtain ⟨p, L3, V3, hp1, hp2, rfl, fb4⟩ := hrel
              clear HF3
              have HF4 := hide fb4
              have hmk := hl_marks fb4.bt.p
              have hat := mk_at fb4.bt.p.mm 1 1 rfl (by decide) M1 hM1
              clear fb4
              by_cases hlt : p < M1
              · obtain ⟨g1, g2, g3⟩ := HPG.out p hp1 hlt
                obtain ⟨v, hv⟩ := (HF4.out.wf.pg p).2 ⟨g1, g2⟩
                have hpgs := hl_pages HF4.out.bt.p
                have hpage := hl_pageN HF4.out.bt.p p v hv
                have hkn := HKN.out p v hp1 hv
                have hlt' : (p : Int) < (M1 : Int) := by omega
                clear hv g1 g2
                go_wp2_with fail
                refine hmk.mono ?_
                rintro e y ⟨rfl, hy⟩
                replace hy := hy.symm
                subst hy
                go_wp2_with fail
                refine hat.mono ?_
                rintro e y ⟨rfl, hy⟩
                replace hy := hy.symm
                subst hy
                go_wp2_with fail
                refine hpgs.mono ?_
                rintro e y ⟨rfl, hy⟩
                replace hy := hy.symm
                subst hy
                go_wp2_with fail
                refine hpage.mono ?_
                rintro e Yp ⟨r, rfl, hsl, hr, bp⟩
                have fb5 := HF4.out.below bp
                obtain ⟨hfz, rao, rcap, hrc, -⟩ := fb5.rw'.row p g3
                have HPUT := hide (HF4.out.put bp hsl hr (fun j hj => by rw [hkn]) g3)
                clear hsl fb5 hpage hmk hat hpgs hr bp hkn HF4
                generalize sizeN c.b = sz at *
                go_wp2
                go_roundw
                case rel => exact ⟨p + 1, _, _, by omega, by omega, by go_num, HPUT.out⟩
                case measure => simp [intOf]; omega
              · have HF5 := hide (HF4.out.less (p' := M1) (by omega))
                have hlt' : ¬ (p : Int) < (M1 : Int) := by omega
                clear HF4 HKN HPG
                obtain ⟨Y2, hY2⟩ : ∃ Y2, Y2 = wr := ⟨_, rfl⟩
                subst hY2
                go_wp2_with fail
                refine hmk.mono ?_
                rintro e y ⟨rfl, hy⟩
                replace hy := hy.symm
                subst hy
                go_wp2_with fail
                refine hat.mono ?_
                rintro e y ⟨rfl, hy⟩
                replace hy := hy.symm
                subst hy
                clear hmk hat
                go_wp2
                go_loopw [15] (fun vp W => ∃ q : Nat, q ≤ 64 ∧ vp = .int .i64 q ∧ Below Y2.heap.size Y2 W) (fun vp _ => 64 - (intOf vp).toNat)
                case atStart => exact ⟨0, Nat.zero_le _, rfl, Below.refl _ _⟩
                case round =>
                  obtain ⟨q, hq64, rfl, hbb⟩ := hrel
                  have fb6 := HF5.out.below hbb
                  have HF6 := hide fb6
                  have hmk := hl_marks fb6.bt.p
                  obtain ⟨M2, hM2⟩ : ∃ M2, S.m 2 = M2 := ⟨_, rfl⟩
                  have hat := mk_at fb6.bt.p.mm 2 2 rfl (by decide) M2 hM2
                  clear fb6
                  by_cases hlt2 : q < M2
                  · have hq1 : q < M1 ∧ q < 64 := by
                      obtain ⟨q1, q2, q3, q4⟩ := HF6.out.wf.ord
                      have q5 := HF6.out.wf.top
                      have q7 := HF6.out.wf.hp
                      have q8 := HCF.out.hs
                      omega
                    have hlook := HF6.out.fk.fl q (by rw [hM2]; exact hlt2)
                    have hdev := hl_device HF6.out.bt.p
                    have hpeek := hl_peek HF6.out.bt.p q hq1.2 _ hlook
                    have HBD : Hid (∀ j, j < sizeN c.b → 0 ≤ KX q j ∧ KX q j < 18446744073709551616) := HF6.out.fk.bd q (by rw [hM1]; exact hq1.1)
                    have HUN := hide (unpack_txt c HCF.out.hb q hq1.2 (KX q) HBD.out)
                    have hlt' : (q : Int) < (M2 : Int) := by omega
                    have hsz := sizeN_bounds c.b
                    clear hlook
                    generalize txt c q (KX q) = T at *
                    go_wp2_with fail
                    refine hmk.mono ?_
                    rintro e y ⟨rfl, hy⟩
                    replace hy := hy.symm
                    subst hy
                    go_wp2_with fail
                    refine hat.mono ?_
                    rintro e y ⟨rfl, hy⟩
                    replace hy := hy.symm
                    subst hy
                    go_wp2_with fail
                    refine hdev.mono ?_
                    rintro e y ⟨rfl, hy⟩
                    replace hy := hy.symm
                    subst hy
                    clear hmk hat hdev
                    go_wp2_with fail
                    refine hpeek.mono ?_
                    rintro e Yq ⟨rfl, b1⟩
                    clear hpeek
                    go_wp2_with fail
                    refine (HUN.out _).mono ?_
                    rintro e Yr ⟨ua, rfl, su, b2⟩
                    have b3 := b1.trans (b2.mono b1.size)
                    have fb7 := HF6.out.below b3
                    have HB7 := hide (hbb.trans (b3.mono hbb.size))
                    obtain ⟨-, rao, rcap, hrc, hrv⟩ := fb7.rw'.row q hq1.2
                    obtain ⟨e1, e2⟩ := fb7.kp q hq1.1
                    rw [e1] at hrc hrv
                    have hsame := same_any ua rao (sizeN c.b) (sizeN c.b) (sizeN c.b) rcap (fun j => (KX q j).toNat) (fun j => (KX q j).toNat) true Yr (by omega) (by omega) su (fun j hj => by
                      obtain ⟨q9, off, e3, h3, -, -⟩ := hrv j hj
                      refine ⟨q9, off, e3, ?_⟩
                      rw [h3, e2 j hj]
                      have h4 := HBD.out j hj
                      show some (Value.int .u64 (KX q j)) = some (Value.int .u64 (((KX q j).toNat : Nat) : Int))
                      rw [Int.toNat_of_nonneg h4.1]) (by simp)
                    have hqq : ((q : Int) != (q : Int)) = false := by simp
                    clear HUN HBD su hrv fb7 b1 b2 b3 HF6 e1 e2
                    generalize sizeN c.b = sz at *
                    go_wp2_with fail
                    refine hsame.mono ?_
                    rintro e Ys ⟨rfl, md, rfl⟩
                    clear hsame
                    go_wp2
                    go_roundw
                    case rel => exact ⟨q + 1, by omega, by go_num, below_drewN HB7.out md⟩
                    case measure => simp [intOf]; omega
                  · have hlt' : ¬ (q : Int) < (M2 : Int) := by omega
                    have HG : Hid (FI w a b c g wr (i + 1)) := ⟨o3, S, KX, L3, V3, by rw [hM1]; exact HF6.out⟩
                    clear HF6 HF5
                    obtain ⟨Y3, hY3⟩ : ∃ Y3, Y3 = wr := ⟨_, rfl⟩
                    subst hY3
                    go_wp2_with fail
                    refine hmk.mono ?_
                    rintro e y ⟨rfl, hy⟩
                    replace hy := hy.symm
                    subst hy
                    go_wp2_with fail
                    refine hat.mono ?_
                    rintro e y ⟨rfl, hy⟩
                    replace hy := hy.symm
                    subst hy
                    clear hmk hat
                    go_wp2
                    go_roundw
                    case rel => exact ⟨i + 1, by omega, by go_num, HG.out⟩
                    case measure => simp [intOf]; omega
      · obtain ⟨o2, s2, KW, L2, V2, gb2⟩ := hgi
        have HE := hide gb2.bw
        clear gb2
        by_cases h1 : i < len
        · obtain rfl : i = 120 := by omega
          go_wp2
          go_ret
          exact ⟨rfl, HE.out⟩
        · go_wp2
          go_ret
          exact ⟨rfl, HE.out⟩
  · have HBG := hide (fun x => begin_no x c0 c1 c2 c3 c4 c5 hcf)
    clear hcf HLS
    go_enter Tryz.func4, Tryz.ntmps4
    go_wp2_with fail
    refine (awake15 _).mono ?_
    rintro e x1 ⟨rfl, b1⟩
    have hb : Below w.heap.size w x1 := ((Below.refl _ w).alloc (Nat.le_refl _) _).trans (b1.mono (by simp))
    have hcc : ∀ j, x1.cell? ⟨w.heap.size, j, none⟩ = (#[.int .i64 c0, .int .i64 c1, .int .i64 c2, .int .i64 c3, .int .i64 c4, .int .i64 c5] : Array Value)[j]? := fun j => by
      rw [b1.cell (by simp)]; simp
    have d0 := hcc 0
    have d1 := hcc 1
    have d2 := hcc 2
    have d3 := hcc 3
    have d4 := hcc 4
    have d5 := hcc 5
    simp at d0 d1 d2 d3 d4 d5
    have HB := hide hb
    clear hcc hb b1
    go_wp2_with fail
    refine (HBG.out _).mono ?_
    rintro e x2 ⟨rfl, b2⟩
    have HX := hide (HB.out.trans (b2.mono HB.out.size))
    clear d0 d1 d2 d3 d4 d5 b2 HB HBG
    go_wp2
    go_ret
    exact ⟨rfl, HX.out⟩
end Go.Proofs.YtfghfbmmaclcnaaGreat
