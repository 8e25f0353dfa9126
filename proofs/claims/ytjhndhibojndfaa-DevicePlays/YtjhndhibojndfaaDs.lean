/- Package device: Crash. -/
import Derived.Test.YtjhndhibojndfaaDr
namespace Go.Proofs.Ytjhndhibojndfaa
open Go.RowKit Go.Maps
theorem Sl.keep {k : IntKind} {w w' : World} {ao : Option Addr} {n : Nat} {z : Nat → Int} {S : Nat → Prop} (h : Sl k w ao n z) (hk : Keeps S w w') (hS : 0 < n → ∀ g off, ao = some ⟨g, off, none⟩ → ¬ S g) : Sl k w' ao n z := by
  intro j hj
  obtain ⟨b, off, h1, h2⟩ := h j hj
  exact ⟨b, off, h1, by rw [hk.cell (World.block_lt_of_cell? w _ h2) (hS (by omega) b off h1)]; exact h2⟩
theorem DvIs.items_eq {w : World} {t : Nat} {d : Dv} {l m : List (Bk × ByteArray)} (h : DvIs w t { d with items := l }) (e : m = l) : DvIs w t { d with items := m } := by rw [e]; exact h
/-- All that was under way is gone. -/
theorem crash_end {w : World} {t : Nat} {d : Dv} {l : List (Bk × ByteArray)} (h : DvIs w t { d with items := l }) :
    ∃ w1, (∀ ty, (Builtin.clear_ #[58] ty #[.map (some (t + 1))]).run Try.prog w = .ok (.tuple #[]) w1) ∧ w1.cell? ⟨t + 3, 4, none⟩ = some (.map (some (t + 2))) ∧
    ∃ w2, (∀ ty, (Builtin.clear_ #[59] ty #[.map (some (t + 2))]).run Try.prog w1 = .ok (.tuple #[]) w2) ∧ (∃ o, w2.cell? ⟨t + 3, 0, none⟩ = some (.bool o)) ∧ w2.frozen? ⟨t + 3, 0, none⟩ = false ∧
      DvIs (w2.setCell ⟨t + 3, 0, none⟩ (.bool false)) t ⟨true, l, d.jobs.map fun j => { j with st := 2 }⟩ ∧ Keeps (InD t) w (w2.setCell ⟨t + 3, 0, none⟩ (.bool false)) := by
  obtain ⟨w1, r1, m1, u1⟩ := h.mf.clear 0
  have k1 := Keeps.turned u1
  obtain ⟨w2, r2, m2, u2⟩ := (h.ma.keep k1 (by simp)).clear 0
  have k2 := Keeps.turned u2
  have K12 : Keeps (fun k => t ≤ k ∧ k ≤ t + 2) w w2 := (k1.wider (T := fun k => t ≤ k ∧ k ≤ t + 2) (fun k _ e => by omega)).trans k2 (fun k _ e => by omega)
  have hlt := h.lt
  have s3 : ¬ (t ≤ t + 3 ∧ t + 3 ≤ t + 2) := by omega
  have k3 : Keeps (fun k => k = t + 3) w2 (w2.setCell ⟨t + 3, 0, none⟩ (.bool false)) := (Keeps.refl (fun k => k = t + 3) w2).setCell ⟨t + 3, 0, none⟩ (fun _ => rfl) _
  have q0 : w2.cell? ⟨t + 3, 0, none⟩ = some (.bool (!d.off)) := by rw [K12.cell hlt s3]; exact h.c0
  refine ⟨w1, fun ty => r1, by rw [k1.cell hlt (by simp)]; exact h.c4, w2, fun ty => r2, ⟨_, q0⟩, by rw [K12.frozen hlt s3]; exact h.f0, ⟨?_, ?_, ?_, ?_, ?_, ?_, ?_, ?_, ?_, ?_, ?_⟩, ?_⟩
  · rw [World.cell?_setCell_same _ _ _ q0]; rfl
  · rw [World.cell?_setCell_other _ _ _ _ (by simp), K12.cell hlt s3]; simpa using h.c1
  · rw [World.cell?_setCell_other _ _ _ _ (by simp), K12.cell hlt s3]; exact h.c2
  · rw [World.cell?_setCell_other _ _ _ _ (by simp), K12.cell hlt s3]; exact h.c3
  · rw [World.cell?_setCell_other _ _ _ _ (by simp), K12.cell hlt s3]; exact h.c4
  · rw [World.frozen?_setCell, K12.frozen hlt s3]; exact h.f0
  · rw [World.frozen?_setCell, K12.frozen hlt s3]; exact h.f1
  · exact (((h.mb.keep k1 (by simp)).keep k2 (by simp)).keep k3 (by simp))
  · exact ((m1.keep k2 (by simp)).keep k3 (by simp)).eq (fun y _ => fl_gone _ y)
  · exact (m2.keep k3 (by simp)).eq (fun y _ => an_gone _ y)
  · have hc := h.good.crash (fun _ => 0)
    refine ⟨h.good.rise, h.good.it, fun j hj => ?_, ?_, by simpa using h.good.few, fun j hj h0 => ?_⟩
    · obtain ⟨i, hi, rfl⟩ := List.mem_map.1 hj
      exact h.good.jb i hi
    · refine Nat.le_trans (tk_sub (m := d.jobs) (fun n => ?_)) h.good.fly
      rintro ⟨k, hk, hk0, hp⟩
      simp only at hk
      rw [jobAt_map] at hk
      obtain ⟨j, -, rfl⟩ := Option.map_eq_some_iff.1 hk
      simp at hk0
    · obtain ⟨i, hi, rfl⟩ := List.mem_map.1 hj
      simp at h0
  · exact (keeps_in K12).trans k3 (fun k _ e => by rw [e]; exact ⟨by omega, by omega⟩)
set_option maxHeartbeats 2000000 in
set_option maxRecDepth 10000 in
theorem device_crash {w : World} {t : Nat} {d : Dv} (h : DvIs w t d) (po : Option Addr) (np pc : Nat) (z : Nat → Int) (hz : Sl .i64 w po np z) (hzw : ∀ j, j < np → z j ≤ 9223372036854775807) (hnp : np ≤ 9223372036854775807) (hpo : 0 < np → ∀ g off, po = some ⟨g, off, none⟩ → ¬ InD t g) :
    Calls Try.prog 18 #[.pointer (some ⟨t + 3, 0, none⟩), .slice po np pc] w fun e w' => e = .returned (.int .i64 (crashE d)) ∧ DvIs w' t (crashD d fun i => if i < np then z i else 0) ∧ Keeps (InD t) w w' := by
  have hp := device_power h
  cases ho : d.off with
  | true =>
    have e1 : powE d = 6 := by simp [powE, ho]
    have e2 : crashE d = 6 := by simp [crashE, ho]
    have e3 : crashD d (fun i => if i < np then z i else 0) = d := by simp [crashD, ho]
    rw [e2, e3]
    rw [e1] at hp
    have H := hide h
    clear h ho e1 e2 e3 hz hzw hpo
    go_enter Try.func18, Try.ntmps18
    go_wp2_with fail
    refine hp.mono ?_
    rintro e w1 ⟨rfl, rfl⟩
    go_wp2
    go_ret
    exact ⟨rfl, H.out, Keeps.refl _ _⟩
  | false =>
    have e1 : powE d = 0 := by simp [powE, ho]
    have e2 : crashE d = 0 := by simp [crashE, ho]
    have e3 : crashD d (fun i => if i < np then z i else 0) = ⟨true, crK (fun i => if i < np then z i else 0) (wrs Job.wr d.jobs) d.items (wrs Job.wr d.jobs).length, d.jobs.map fun j => { j with st := 2 }⟩ := by simp [crashD, ho]
    rw [e2, e3]
    rw [e1] at hp
    have hu := under_way h 34 #[] (fun r => r.wr) enters34 (fun W _ r => crash_fits W r) (tk Job.wr d.jobs) rfl
    obtain ⟨hlen, hjob⟩ := tk_wrs Job.wr d.jobs
    have hn32 : (tk Job.wr d.jobs).length ≤ 1000 := Nat.le_trans (tk_len _ _) h.good.few
    have HJ : Hid (∀ i, i < (tk Job.wr d.jobs).length → ∃ j, (wrs Job.wr d.jobs)[i]? = some j ∧ fl d.jobs (((tk Job.wr d.jobs).getD i 0 : Nat) : Int) = some j.rq ∧ okI (((tk Job.wr d.jobs).getD i 0 : Nat) : Int) ∧ okB j.b = true ∧ j.s.size ≤ 131072) := fun i hi => by
      have hg : (tk Job.wr d.jobs)[i]? = some ((tk Job.wr d.jobs).getD i 0) := by simp [List.getD_eq_getElem?_getD, hi]
      obtain ⟨j, h1, h2⟩ := hjob i _ hg
      have hm := List.mem_of_getElem? hg
      obtain ⟨j', h3, h4, h5⟩ := tk_mem.1 hm
      rw [h2] at h3
      cases h3
      have hl := jobAt_lt h2
      have hf := h.good.few
      exact ⟨j, h1, by unfold fl; rw [h2]; simp [h4], okI_small (by omega) (by omega), h.good.jb j (jobAt_mem h2)⟩
    have HC : Hid (∀ i j, (wrs Job.wr d.jobs)[i]? = some j → crK (fun i => if i < np then z i else 0) (wrs Job.wr d.jobs) d.items (i + 1) = leave (if i < np then z i else 0) j (crK (fun i => if i < np then z i else 0) (wrs Job.wr d.jobs) d.items i)) := fun i j hj => by simp only [crK, hj]
    have H0 : Hid (DvIs w t { d with items := crK (fun i => if i < np then z i else 0) (wrs Job.wr d.jobs) d.items 0 }) := h
    rw [← hlen]
    have hlt := h.lt
    have HH := hide h
    clear h hjob hlen ho e1 e2 e3
    have HP : Hid (∀ i, (fun i => if i < np then z i else 0) i = if i < np then z i else 0) := fun i => rfl
    generalize (fun i => if i < np then z i else 0) = pk at *
    obtain ⟨T, hT⟩ : ∃ T : Nat → Int, T = fun j => (((tk Job.wr d.jobs).getD j 0 : Nat) : Int) := ⟨_, rfl⟩
    have hT' : ∀ i, (((tk Job.wr d.jobs).getD i 0 : Nat) : Int) = T i := fun i => by rw [hT]
    rw [← hT] at hu
    simp only [hT'] at HJ
    have HE : Hid (∀ y, DvIs y t { d with items := crK pk (wrs Job.wr d.jobs) d.items (tk Job.wr d.jobs).length } → _) := fun y hy => crash_end hy
    generalize hW : wrs Job.wr d.jobs = ws at *
    generalize hN : (tk Job.wr d.jobs).length = N at *
    clear hT hT' hW hN
    go_enter Try.func18, Try.ntmps18
    go_wp2_with fail
    refine hp.mono ?_
    rintro e w1 ⟨rfl, rfl⟩
    go_wp2_with fail
    refine hu.mono ?_
    rintro e x1 ⟨wo, wc, rfl, hso, hlo, bx⟩
    have HX := hide (H0.out.below bx)
    have hzx := hz.below bx
    have KX := Below.keeps (S := InD t) bx
    clear hu hp H0 HH
    go_wp2
    go_loopw [19] (fun v wr => ∃ i : Nat, i ≤ N ∧ v = .int .i64 i ∧ DvIs wr t { d with items := crK pk ws d.items i } ∧ Sl .i64 wr wo N T ∧ Sl .i64 wr po np z ∧ Keeps (InD t) w1 wr) (fun v _ => N - (intOf v).toNat)
    case atStart => exact ⟨0, Nat.zero_le _, rfl, HX.out, hso, hzx, KX⟩
    case round =>
      clear hso hzx KX HX
      obtain ⟨i, hi, rfl, hd, hs, hzz, hk⟩ := hrel
      by_cases hlt' : i < N
      · obtain ⟨j, j1, j2, j3, j4, j5⟩ := HJ.out i hlt'
        obtain ⟨gb, off, rfl, ct⟩ := hs i hlt'
        have hl := hd.mf.at j3
        have c3 := hd.c3
        simp only [MF] at hl
        rw [j2] at hl
        simp only [Option.getD_some] at hl
        have hnx := HC.out i j j1
        have hlv := fun p hp => device_leave hd j ⟨j4, j5⟩ p hp
        have e0 := HP.out i
        by_cases hin : i < np
        · obtain ⟨pb, poff, rfl, cp⟩ := hzz i hin
          rw [if_pos hin] at e0
          have hlv' := hlv (z i) (hzw i hin)
          simp only [hin, if_true] at hnx
          have HD := hide hd
          have HS := hide hs
          have HZ := hide hzz
          have HN := hide hnx
          generalize z i = p at *
          generalize T i = tt at *
          generalize rqV j.rq = rv at *
          clear hlv hnx hd hs hzz e0 HJ HC HP HE hzw hz j1 j2 j3
          go_wp2_with fail
          refine hlv'.mono ?_
          rintro e y ⟨rfl, hy, ky⟩
          have s1 := HS.out.keep ky (fun hn g off' e => by cases e; have := hlo hn gb off rfl; intro hin'; have := hin'.2; omega)
          have s2 := HZ.out.keep ky (fun hn g off' e => by cases e; exact hpo hn pb poff rfl)
          have HY := hide hy
          clear hy HD HS HZ hlv'
          go_wp2
          go_roundw
          case rel => exact ⟨i + 1, by omega, by go_num, by rw [HN.out]; exact HY.out, s1, s2, hk.trans ky (fun _ _ h => h)⟩
          case measure => simp [intOf]; omega
        · rw [if_neg hin] at e0
          have hlv' := hlv 0 (by decide)
          simp only [hin, if_false] at hnx
          have HD := hide hd
          have HS := hide hs
          have HZ := hide hzz
          have HN := hide hnx
          generalize T i = tt at *
          generalize rqV j.rq = rv at *
          clear hlv hnx hd hs hzz e0 HJ HC HP HE hzw hz j1 j2 j3
          go_wp2_with fail
          refine hlv'.mono ?_
          rintro e y ⟨rfl, hy, ky⟩
          have s1 := HS.out.keep ky (fun hn g off' e => by cases e; have := hlo hn gb off rfl; intro hin'; have := hin'.2; omega)
          have s2 := HZ.out.keep ky hpo
          have HY := hide hy
          clear hy HD HS HZ hlv'
          go_wp2
          go_roundw
          case rel => exact ⟨i + 1, by omega, by go_num, by rw [HN.out]; exact HY.out, s1, s2, hk.trans ky (fun _ _ h => h)⟩
          case measure => simp [intOf]; omega
      · have e : i = N := by omega
        subst e
        obtain ⟨y1, r1, q4, y2, r2, ⟨o, q0⟩, qf, hD, hK⟩ := HE.out wr hd
        have c3 := hd.c3
        have H := hide hD
        have HK := hide (hk.trans hK (fun _ _ h => h))
        clear hd hs hzz hk hD hK HE HJ HC HP hz hzw
        go_wp2
        go_ret
        exact ⟨rfl, H.out, HK.out⟩
end Go.Proofs.Ytjhndhibojndfaa
