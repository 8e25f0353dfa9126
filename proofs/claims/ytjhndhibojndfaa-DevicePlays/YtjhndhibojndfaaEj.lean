/- The reference: Crash. -/
import Derived.Test.YtjhndhibojndfaaEh
namespace Go.Proofs.Ytjhndhibojndfaa
open Go.RowKit
theorem RefD.turn {w : World} {m k : Nat} {d : Dv} {pk : Nat → Int} {l : List (Bk × ByteArray)} {vi vj : Value} (h : RefD w m ⟨d.off, l, crJ d.jobs k⟩ vi vj) {g : Nat} (hg : vj.ownBlock = some g) (hk : k < d.jobs.length)
    (e : crD d pk (k + 1) = ⟨d.off, l, (crJ d.jobs k).set k { getJ d.jobs k with st := 2 }⟩) (g0 : Good d) :
    RefD (w.setCell ⟨g, k * 6 + 5, none⟩ (.int .i64 2)) m (crD d pk (k + 1)) vi vj ∧ Keeps (fun q => q = g) w (w.setCell ⟨g, k * 6 + 5, none⟩ (.int .i64 2)) := by
  have hgd : Good ⟨d.off, l, (crJ d.jobs k).set k { getJ (crJ d.jobs k) k with st := 2 }⟩ := by
    rw [crJ_get _ _ hk, ← e]
    exact crD_good g0 pk (k + 1) hk
  have := h.setSt hg k (by simp only; rw [crJ_len _ _ (Nat.le_of_lt hk)]; exact hk) 2 hgd
  simp only [crJ_get _ _ hk] at this
  rw [← e] at this
  exact this
theorem torn_steps (was tobe : ByteArray) (n : Nat) (hn : n ≤ tobe.size) (h1 : was.size ≤ 131072) (h2 : tobe.size ≤ 131072) : ∃ T : Nat → ByteArray, T n = tobe.extract 0 n ∧ (∀ q, n ≤ q → q < was.size → T (q + 1) = T q ++ was.extract q (q + 1)) ∧ (∀ q, n ≤ q → was.size ≤ q → (q = n ∨ q ≤ was.size) → T q = tobe.extract 0 n ++ was.extract (min n was.size) was.size) ∧ ∀ q, q ≤ 131072 → (T q).size ≤ 262144 := by
  refine ⟨fun q => tobe.extract 0 n ++ was.extract n q, ?_, fun q h3 h4 => ?_, fun q h3 h4 h5 => ?_, fun q h3 => ?_⟩
  · simp
  · show tobe.extract 0 n ++ was.extract n (q + 1) = tobe.extract 0 n ++ was.extract n q ++ was.extract q (q + 1)
    rw [ByteArray.append_assoc, ByteArray.extract_append_extract, Nat.min_eq_left h3, Nat.max_eq_right (by omega)]
  · rcases h5 with rfl | h5
    · rw [Nat.min_eq_right h4]
      simp
    · have : q = was.size := by omega
      subst this
      rw [Nat.min_eq_left h3]
  · rw [ByteArray.size_append, ByteArray.size_extract, ByteArray.size_extract]
    omega
set_option maxHeartbeats 8000000 in
set_option maxRecDepth 10000 in
theorem ref_crash {w : World} {m : Nat} {d : Dv} {vi vj : Value} (h : RefD w m d vi vj) (po : Option Addr) (np pc : Nat) (z : Nat → Int) (hz : Sl .i64 w po np z) (hzw : ∀ j, j < np → z j ≤ 9223372036854775807) (hnp : np ≤ 9223372036854775807) (hpo : 0 < np → ∀ g off, po = some ⟨g, off, none⟩ → g < m) :
    Calls Try.prog 26 #[.pointer (some ⟨m, 0, none⟩), .slice po np pc] w fun e w' => e = .returned (.int .i64 (crashE d)) ∧ (∃ vi', RefD w' m (crashD d fun i => if i < np then z i else 0) vi' vj) ∧ Keeps (RS m vj) w w' := by
  have c0 := h.c0
  cases ho : d.off with
  | true =>
    rw [ho] at c0
    have e2 : crashE d = 6 := by simp [crashE, ho]
    have e3 : crashD d (fun i => if i < np then z i else 0) = d := by simp [crashD, ho]
    rw [e2, e3]
    have H := hide h
    clear h ho e2 e3 hz hzw hpo
    go_enter Try.func26, Try.ntmps26
    go_wp2
    go_ret
    exact ⟨rfl, ⟨_, H.out⟩, Keeps.refl _ _⟩
  | false =>
    rw [ho] at c0
    have e2 : crashE d = 0 := by simp [crashE, ho]
    rw [e2]
    have HRS := hide (fun (y : World) (K : Keeps (RS m vj) w y) => h.rs K)
    have HZ : Hid (∀ y, Below m w y → Sl .i64 y po np z) := fun y hy j hj => by
      obtain ⟨b, off, h1, h2⟩ := hz j hj
      exact ⟨b, off, h1, by rw [hy.cell (hpo (by omega) b off h1)]; exact h2⟩
    have HP : Hid (∀ i, (fun i => if i < np then z i else 0) i = if i < np then z i else 0) := fun i => rfl
    have HG := hide h.good
    have HEND := hide (crD_end d (fun i => if i < np then z i else 0) ho)
    generalize (fun i => if i < np then z i else 0) = pk at *
    have H0 : Hid (RefD w m (crD d pk 0) vi vj) := by rw [crD_zero]; exact h
    have hfew := h.good.few
    have hm := h.lt
    obtain ⟨g, hgj⟩ : ∃ g, ∀ k, k < d.jobs.length → vj.ownBlock = some g ∧ m + 1 ≤ g := by
      by_cases hJ : 0 < d.jobs.length
      · obtain ⟨ao, cap, hv, hc1, hc2, hjb⟩ := h.job
        obtain ⟨g, -, hgb, -⟩ := hjb 0 hJ
        exact ⟨g, fun _ _ => ⟨hgb, (h.gj hgb).1⟩⟩
      · exact ⟨0, fun k hk => by omega⟩
    have HGJ := hide hgj
    have hjlt : vj.ownBlock = some g → g < w.heap.size := fun e => (h.gj e).2
    have HJLT := hide hjlt
    clear h e2 hz hgj hjlt
    go_enter Try.func26, Try.ntmps26
    go_wp2
    generalize hJJ : d.jobs.length = J at *
    go_loopw [5, 6] (fun va vk y => ∃ k : Nat, k ≤ J ∧ vk = .int .i64 k ∧ va = .int .i64 ((wrs Job.wr (d.jobs.take k)).length : Nat) ∧ (∃ vi', RefD y m (crD d pk k) vi' vj) ∧ Keeps (RS m vj) w y) (fun _ vk _ => J - (intOf vk).toNat)
    case atStart => exact ⟨0, Nat.zero_le _, rfl, rfl, ⟨_, H0.out⟩, Keeps.refl _ _⟩
    case round =>
      clear H0
      obtain ⟨k, hk, rfl, rfl, ⟨vik, hR⟩, hbel⟩ := hrel
      have hA := wrs_few d k
      by_cases hlt : k < J
      · have hkJ : k < d.jobs.length := by omega
        obtain ⟨hgb, hgm⟩ := HGJ.out k hlt
        have hgl := hR.gj hgb
        have hmR := hR.lt
        obtain ⟨ao, cap, hv, hc1, hc2, hjb⟩ := hR.job
        have eJ : (crD d pk k).jobs.length = J := by simp only [crD]; rw [crJ_len _ _ (by omega)]; exact hJJ
        have eG : getJ (crD d pk k).jobs k = getJ d.jobs k := crJ_get _ _ hkJ
        obtain ⟨g', hao, hgb', q0, q1, q2, q3, q4, q5, qf⟩ := hjb k (by rw [eJ]; exact hlt)
        rw [hgb] at hgb'
        cases hgb'
        rw [eG] at q0 q1 q2 q3 q4 q5
        have c2 := hR.c2
        rw [hv, eJ, hao] at c2
        have HVJ : Hid (vj = .slice (some ⟨g, 0, none⟩) J cap) := by rw [hv, eJ, hao]; exact rfl
        have qf5 := qf 5 (by omega)
        have hgood := HG.out.jb _ (List.mem_of_getElem? (getJ_some hkJ))
        have HRR := hide hR
        have HBB := hide hbel
        have HSK := hide (fun hn => crD_skip (pk := pk) hkJ hn)
        have HLF := hide (fun hn => crD_left (pk := pk) hkJ hn)
        have HTU := hide (fun (y : World) (l : List (Bk × ByteArray)) (v' : Value) (hy : RefD y m ⟨d.off, l, crJ d.jobs k⟩ v' vj) e => RefD.turn (pk := pk) hy hgb hkJ e HG.out)
        have HPK := hide (HP.out (wrs Job.wr (d.jobs.take k)).length)
        clear hjb hv hao qf eG eJ hR hbel
        generalize hjj : getJ d.jobs k = jj at *
        generalize hAA : (wrs Job.wr (d.jobs.take k)).length = A at *
        by_cases hn : jj.st = 0 ∧ jj.wr = true
        · obtain ⟨hn1, hn2⟩ := hn
          obtain ⟨eL, eA⟩ := HLF.out ⟨hn1, hn2⟩
          obtain ⟨⟨ja, jn⟩, jw, js, jno, jst⟩ := jj
          simp only at q0 q1 q2 q3 q4 q5 hn1 hn2 hgood eL
          subst hn1 hn2
          have q5' : wr.cell? ⟨g, k * 6 + 5, none⟩ = some (.int .i64 0) := q5
          have hR1 := HRR.out.alloc (.cells #[.int .i64 ja, .int .i64 jn, .bool true, .string js, .bool jno, .int .i64 0] 70)
          have HX1 := hide (Bx6.made wr ja jn true js jno 0)
          have HR1 := hide hR1
          have HB1 := hide (HBB.out.alloc (.cells #[.int .i64 ja, .int .i64 jn, .bool true, .string js, .bool jno, .int .i64 0] 70))
          have hpk := ref_peek hR1 (ja, jn)
          have hwas := look_small hR1.good.it (ja, jn)
          have HC5 : Hid (∀ (y : World) (l : List (Bk × ByteArray)) (v' : Value), RefD y m ⟨d.off, l, crJ d.jobs k⟩ v' vj → y.cell? ⟨g, k * 6 + 5, none⟩ = some (.int .i64 0) ∧ y.frozen? ⟨g, k * 6 + 5, none⟩ = false) := fun y l v' hy => by
            obtain ⟨ao, cap', hv', -, -, hjb⟩ := hy.job
            obtain ⟨g', -, hgb', -, -, -, -, -, r5, rf⟩ := hjb k (by simp only; rw [crJ_len _ _ (by omega)]; omega)
            rw [hgb] at hgb'
            cases hgb'
            simp only [crJ_get _ _ hkJ, hjj] at r5
            exact ⟨r5, rf 5 (by omega)⟩
          have HZA := hide (fun (hin : A < np) => HZ.out _ (HRS.out _ HBB.out) A hin)
          simp only [bkV] at hpk
          clear HSK HLF HRR HBB HP HEND HZ HG hR1 q5
          generalize hWAS : (lookL (crD d pk k).items (ja, jn)).getD ⟨#[]⟩ = was at *
          generalize (lookL (crD d pk k).items (ja, jn)).isSome = wo at *
          by_cases hin : A < np
          · obtain ⟨pb, poff, rfl, cp0⟩ := HZA.out hin
            have cp := cell_alloc cp0 (.cells #[.int .i64 ja, .int .i64 jn, .bool true, .string js, .bool jno, .int .i64 0] 70)
            have hpA : pk A = z A := by rw [HPK.out, if_pos hin]
            have hzA := hzw A hin
            generalize z A = p at *
            by_cases hp0 : p ≤ 0
            · have HP0 : pk A ≤ 0 := by omega
              have hp1 : ¬ p = 1 := by omega
              have HPA := hide hpA
              clear hpA
              go_wp2_with fail
              refine hpk.mono ?_
              rintro e y ⟨rfl, by1⟩
              have hy := HR1.out.below by1
              have hby := HB1.out.trans (Below.keeps (S := RS m vj) by1) (fun _ _ e => e)
              have hbx := HX1.out.keep (Below.keeps (S := fun _ => False) by1) (fun h => h)
              have HY := hide hy
              have HBY := hide hby
              have hlv : leave (pk A) ⟨(ja, jn), true, js, jno, 0⟩ (crD d pk k).items = (crD d pk k).items := by simp only [leave, if_pos HP0]
              have EL : Hid (crD d pk (k + 1) = ⟨d.off, (crD d pk k).items, (crJ d.jobs k).set k ⟨(ja, jn), true, js, jno, 2⟩⟩) := by rw [eL, hlv]; exact rfl
              clear hlv
              clear hy hby hbx by1 HR1 HB1 HX1 hpk eL
              have HEA := hide eA
              have c2y := HY.out.c2
              rw [HVJ.out] at c2y
              obtain ⟨w5, w6⟩ := HC5.out _ _ _ HY.out
              have hT := HTU.out _ _ _ HY.out EL.out
              have HF1 := hide hT.1
              have HF2 := hide (HBY.out.trans hT.2 (fun q _ e => .inr (e ▸ hgb)))
              clear hT HTU HY HBY EL HC5
              go_wp2
              go_roundw
              case rel => exact ⟨k + 1, by omega, by go_num, by rw [HEA.out]; go_num, ⟨_, HF1.out⟩, HF2.out⟩
              case measure => simp [intOf]; omega
            · skip
              by_cases hp1 : p = 1
              · subst hp1
                go_wp2_with fail
                refine hpk.mono ?_
                rintro e y ⟨rfl, by1⟩
                have hy := HR1.out.below by1
                have hby := HB1.out.trans (Below.keeps (S := RS m vj) by1) (fun _ _ e => e)
                have hbx := HX1.out.keep (Below.keeps (S := fun _ => False) by1) (fun h => h)
                have by1s : m ≤ y.heap.size := Nat.le_of_lt hy.lt
                obtain ⟨s0, s1, s2, s3, s4, s5, -, -⟩ := hbx
                simp only at s0 s1 s2 s3 s4 s5
                have hlay := ref_lay hy (ja, jn) js hgood.1 hgood.2
                simp only [bkV] at hlay
                have HEL := hide eL
                have HBY0 := hide hby
                clear hy hby by1 HR1 HB1 HX1 hpk eL
                go_wp2_with fail
                refine hlay.mono ?_
                rintro e y2 ⟨rfl, ⟨v2, hy2, -⟩, k2⟩
                have HY : Hid (RefD y2 m ⟨d.off, lay (ja, jn) js (crD d pk k).items, crJ d.jobs k⟩ v2 vj) := hy2
                have HBY := hide (HBY0.out.trans k2 (fun q _ e => .inl e))
                have EL : Hid (crD d pk (k + 1) = ⟨d.off, lay (ja, jn) js (crD d pk k).items, (crJ d.jobs k).set k ⟨(ja, jn), true, js, jno, 2⟩⟩) := by rw [HEL.out, hpA]; exact rfl
                clear hlay hy2 k2 HBY0 HEL
                have HEA := hide eA
                have c2y := HY.out.c2
                rw [HVJ.out] at c2y
                obtain ⟨w5, w6⟩ := HC5.out _ _ _ HY.out
                have hT := HTU.out _ _ _ HY.out EL.out
                have HF1 := hide hT.1
                have HF2 := hide (HBY.out.trans hT.2 (fun q _ e => .inr (e ▸ hgb)))
                clear hT HTU HY HBY EL HC5
                go_wp2
                go_roundw
                case rel => exact ⟨k + 1, by omega, by go_num, by rw [HEA.out]; go_num, ⟨_, HF1.out⟩, HF2.out⟩
                case measure => simp [intOf]; omega
              · have hp2 : 2 ≤ p := by omega
                have hN : (p - 2).tmod ((js.size : Int) + 1) = (tornN js.size p : Int) := by
                  rw [Int.tmod_eq_emod_of_nonneg (by omega)]
                  unfold tornN
                  have := Int.emod_nonneg (p - 2) (b := (js.size : Int) + 1) (by omega)
                  omega
                have hle := tornN_le js.size p
                have hTS : tornS was js p = js.extract 0 (tornN js.size p) ++ was.extract (min (tornN js.size p) was.size) was.size := rfl
                obtain ⟨T, T0, TS, TE, TZ⟩ := torn_steps was js (tornN js.size p) hle hwas hgood.2
                have HTS : Hid (∀ q, tornN js.size p ≤ q → was.size ≤ q → (q = tornN js.size p ∨ q ≤ was.size) → T q = tornS was js p) := fun q a b c => by rw [hTS]; exact TE q a b c
                have htz := tornS_size (p := p) hwas hgood.2
                have HT0 := hide T0
                have HTT := hide TS
                have HTZ := hide TZ
                clear TE TS TZ T0 hTS
                generalize hNN : tornN js.size p = n at *
                clear hNN
                have hjs := hgood.2
                go_wp2_with fail
                refine hpk.mono ?_
                rintro e y ⟨rfl, by1⟩
                have hy := HR1.out.below by1
                have hby := HB1.out.trans (Below.keeps (S := RS m vj) by1) (fun _ _ e => e)
                have hbx := HX1.out.keep (Below.keeps (S := fun _ => False) by1) (fun h => h)
                have by1s : m ≤ y.heap.size := Nat.le_of_lt hy.lt
                obtain ⟨s0, s1, s2, s3, s4, s5, -, -⟩ := hbx
                simp only at s0 s1 s2 s3 s4 s5
                have hlay := ref_lay hy (ja, jn) (tornS was js p) hgood.1 htz
                simp only [bkV] at hlay
                have HEL := hide eL
                have HBY0 := hide hby
                have HLY := hide hlay
                clear hy hby by1 HR1 HB1 HX1 hpk eL hlay
                go_wp2
                rw [← HT0.out]
                go_loop [12, 13] (fun vs vq => ∃ q : Nat, n ≤ q ∧ (q = n ∨ q ≤ was.size) ∧ q ≤ 131072 ∧ vq = .int .i64 q ∧ vs = .string (T q)) (fun _ vq => 131072 + 1 - (intOf vq).toNat)
                case atStart => exact ⟨n, Nat.le_refl _, .inl rfl, by omega, rfl, rfl⟩
                case round =>
                  obtain ⟨q, hq1, hq2, hq3, rfl, rfl⟩ := hrel
                  by_cases hql : q < was.size
                  · have hz1 := HTT.out q hq1 hql
                    have hz2 := HTZ.out q hq3
                    have hz3 : ¬ 9223372036854775807 < (T q).size + 1 := by omega
                    have hz4 : ¬ 9223372036854775807 < (T q).size + (q + 1 - q) := by omega
                    have HZ1 := hide hz1
                    clear hz1
                    generalize T q = tq at *
                    go_wp2
                    go_round
                    case rel => exact ⟨q + 1, by omega, .inr (by omega), by omega, by go_num, by rw [HZ1.out]⟩
                    case measure => simp [intOf]; omega
                  · rw [HTS.out q hq1 (by omega) hq2]
                    clear HTS HTT HTZ HT0
                    have hlay := HLY.out
                    clear HLY
                    generalize hSS : tornS was js p = ss at *
                    go_wp2_with fail
                    refine hlay.mono ?_
                    rintro e y2 ⟨rfl, ⟨v2, hy2, -⟩, k2⟩
                    have HY : Hid (RefD y2 m ⟨d.off, lay (ja, jn) ss (crD d pk k).items, crJ d.jobs k⟩ v2 vj) := hy2
                    have HBY := hide (HBY0.out.trans k2 (fun q _ e => .inl e))
                    have EL : Hid (crD d pk (k + 1) = ⟨d.off, lay (ja, jn) ss (crD d pk k).items, (crJ d.jobs k).set k ⟨(ja, jn), true, js, jno, 2⟩⟩) := by
                      rw [HEL.out, hpA]
                      unfold leave
                      rw [if_neg (by omega), if_neg hp1, hWAS, hSS]
                      exact rfl
                    clear hlay hy2 k2 HBY0 HEL
                    have HEA := hide eA
                    have c2y := HY.out.c2
                    rw [HVJ.out] at c2y
                    obtain ⟨w5, w6⟩ := HC5.out _ _ _ HY.out
                    have hT := HTU.out _ _ _ HY.out EL.out
                    have HF1 := hide hT.1
                    have HF2 := hide (HBY.out.trans hT.2 (fun q _ e => .inr (e ▸ hgb)))
                    clear hT HTU HY HBY EL HC5
                    go_wp2
                    go_roundw
                    case rel => exact ⟨k + 1, by omega, by go_num, by rw [HEA.out]; go_num, ⟨_, HF1.out⟩, HF2.out⟩
                    case measure => simp [intOf]; omega
          · have hpA : pk A = 0 := by rw [HPK.out, if_neg hin]
            have HP0 : pk A ≤ 0 := by omega
            have HPA := hide hpA
            clear hpA
            go_wp2_with fail
            refine hpk.mono ?_
            rintro e y ⟨rfl, by1⟩
            have hy := HR1.out.below by1
            have hby := HB1.out.trans (Below.keeps (S := RS m vj) by1) (fun _ _ e => e)
            have hbx := HX1.out.keep (Below.keeps (S := fun _ => False) by1) (fun h => h)
            have HY := hide hy
            have HBY := hide hby
            have hlv : leave (pk A) ⟨(ja, jn), true, js, jno, 0⟩ (crD d pk k).items = (crD d pk k).items := by simp only [leave, if_pos HP0]
            have EL : Hid (crD d pk (k + 1) = ⟨d.off, (crD d pk k).items, (crJ d.jobs k).set k ⟨(ja, jn), true, js, jno, 2⟩⟩) := by rw [eL, hlv]; exact rfl
            clear hlv
            clear hy hby hbx by1 HR1 HB1 HX1 hpk eL
            have HEA := hide eA
            have c2y := HY.out.c2
            rw [HVJ.out] at c2y
            obtain ⟨w5, w6⟩ := HC5.out _ _ _ HY.out
            have hT := HTU.out _ _ _ HY.out EL.out
            have HF1 := hide hT.1
            have HF2 := hide (HBY.out.trans hT.2 (fun q _ e => .inr (e ▸ hgb)))
            clear hT HTU HY HBY EL HC5
            go_wp2
            go_roundw
            case rel => exact ⟨k + 1, by omega, by go_num, by rw [HEA.out]; go_num, ⟨_, HF1.out⟩, HF2.out⟩
            case measure => simp [intOf]; omega
        · obtain ⟨eS, eA⟩ := HSK.out hn
          have hT := HTU.out wr (crD d pk k).items vik HRR.out eS
          have hR2 := hT.1.alloc (.cells #[.int .i64 jj.b.1, .int .i64 jj.b.2, .bool jj.wr, .string jj.s, .bool jj.no, .int .i64 (jj.st : Nat)] 70)
          have hB2 := (HBB.out.trans hT.2 (fun q _ e => .inr (e ▸ hgb))).alloc (.cells #[.int .i64 jj.b.1, .int .i64 jj.b.2, .bool jj.wr, .string jj.s, .bool jj.no, .int .i64 (jj.st : Nat)] 70)
          have HF := hide (⟨⟨_, hR2⟩, hB2⟩ : (∃ v', RefD _ m (crD d pk (k + 1)) v' vj) ∧ _)
          have HEA := hide eA
          clear hT hR2 hB2 eS eA HSK HLF HTU HRR HBB HPK HP HEND HZ HG
          obtain ⟨⟨ja, jn⟩, jw, js, jno, jst⟩ := jj
          simp only at q0 q1 q2 q3 q4 q5 hn HF
          by_cases h0 : jst = 0
          · subst h0
            have hw : jw = false := by cases jw <;> simp_all
            subst hw
            have q5' : wr.cell? ⟨g, k * 6 + 5, none⟩ = some (.int .i64 0) := q5
            clear q5 hn
            go_wp2
            go_roundw
            case rel => exact ⟨k + 1, by omega, by go_num, by rw [HEA.out], HF.out.1, HF.out.2⟩
            case measure => simp [intOf]; omega
          · have h0' : ((jst : Int) == 0) = false := by simp; omega
            clear hn
            go_wp2
            go_roundw
            case rel => exact ⟨k + 1, by omega, by go_num, by rw [HEA.out], HF.out.1, HF.out.2⟩
            case measure => simp [intOf]; omega
      · have ek : J = k := by omega
        subst ek
        have gd := crD_good HG.out pk J (by omega)
        have hO := hR.off true ⟨gd.rise, gd.it, gd.jb, gd.fly, gd.few, gd.nn⟩
        have hE := HEND.out
        rw [hE] at hO
        have HF1 := hide hO.1
        have HF2 := hide (hbel.trans ((Keeps.refl (fun k => k = m) _).setCell ⟨m, 0, none⟩ (fun _ => rfl) (.bool true)) (fun q _ e => .inl e))
        obtain ⟨ao, cap, hv, -, -, -⟩ := hR.job
        have eJ : (crD d pk J).jobs.length = J := by simp only [crD]; rw [crJ_len _ _ (by omega)]; exact hJJ
        have c2 := hR.c2
        rw [hv, eJ] at c2
        have c0' := hR.c0
        have f0' := hR.f0
        clear hE hO gd HEND hR hv eJ HG HZ HP HGJ
        go_wp2
        go_ret
        exact ⟨rfl, ⟨_, HF1.out⟩, HF2.out⟩
end Go.Proofs.Ytjhndhibojndfaa
