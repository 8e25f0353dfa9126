/- The reference's table of layer 6: Does, Safe. -/
import Derived.Test.YtlmkknlcdcajoaaYf
import Derived.Deep.RegionHeld3
namespace Go.Proofs.Ytlmkknlcdcajoaa
open Go.RowKit
set_option maxHeartbeats 400000 in
theorem rdoes_out {w : World} {m b n now : Nat} {v : Nat → Nat} (h : RefAt w m b n now v) (kd s : Int) (hs : s < 0 ∨ (n : Int) ≤ s) :
    Calls Try.prog 12 #[.pointer (some ⟨m, 0, none⟩), .int .i64 kd, .int .i64 s] w fun e w' => e = .returned (.int .i64 1) ∧ w' = w := by
  have c1 := h.c1
  by_cases h0 : s < 0
  · clear hs
    go_enter Try.func12, Try.ntmps12
    go_wp2
    go_ret
    exact ⟨rfl, rfl⟩
  · have h1 : (n : Int) ≤ s := by omega
    clear hs
    go_enter Try.func12, Try.ntmps12
    go_wp2
    go_ret
    exact ⟨rfl, rfl⟩
set_option maxHeartbeats 400000 in
theorem rdoes_there {w : World} {m b n now : Nat} {v : Nat → Nat} (h : RefAt w m b n now v) (s : Nat) (hs : s < n) (hv : v s ≠ 0) :
    Calls Try.prog 12 #[.pointer (some ⟨m, 0, none⟩), .int .i64 1, .int .i64 (s : Int)] w fun e w' => e = .returned (.int .i64 8) ∧ w' = w := by
  have c1 := h.c1
  have cs := h.cs s hs
  have hs0 : decide ((s : Int) < 0) = false := by simp
  have hsn : decide ((s : Int) ≥ (n : Int)) = false := by simp; omega
  have hvb : 0 < v s := by omega
  clear hv
  generalize v s = z at *
  go_enter Try.func12, Try.ntmps12
  go_wp2
  go_ret
  exact ⟨rfl, rfl⟩
set_option maxHeartbeats 400000 in
theorem rdoes_none {w : World} {m b n now : Nat} {v : Nat → Nat} (h : RefAt w m b n now v) (s : Nat) (hs : s < n) (hv : v s = 0) (kd : Int) (hk : kd ≠ 1) :
    Calls Try.prog 12 #[.pointer (some ⟨m, 0, none⟩), .int .i64 kd, .int .i64 (s : Int)] w fun e w' => e = .returned (.int .i64 7) ∧ w' = w := by
  have c1 := h.c1
  have cs := h.cs s hs
  rw [hv] at cs
  have hs0 : decide ((s : Int) < 0) = false := by simp
  have hsn : decide ((s : Int) ≥ (n : Int)) = false := by simp; omega
  have hk1 : (kd == 1) = false := by simpa using hk
  have hk2 : (kd != 1) = true := by simpa using hk
  clear hv hk
  go_enter Try.func12, Try.ntmps12
  go_wp2
  go_ret
  exact ⟨rfl, rfl⟩
set_option maxHeartbeats 400000 in
theorem rdoes_enter {w : World} {m b n now : Nat} {v : Nat → Nat} (h : RefAt w m b n now v) (s : Nat) (hs : s < n) (hv : v s = 0) :
    Calls Try.prog 12 #[.pointer (some ⟨m, 0, none⟩), .int .i64 1, .int .i64 (s : Int)] w fun e w' => e = .returned (.int .i64 0) ∧ ∃ k, w' = (w.drewN k).setCell ⟨b, s, none⟩ (.int .u64 (now : Int)) := by
  have hne := h.ne
  have c0 := h.c0
  have c1 := h.c1
  have cs := h.cs s hs
  have fs := h.fs s hs
  rw [hv] at cs
  have hs0 : decide ((s : Int) < 0) = false := by simp
  have hsn : decide ((s : Int) ≥ (n : Int)) = false := by simp; omega
  have hs1 : (0 : Int) ≤ (s : Int) := by omega
  have hs2 : (s : Int) < (n : Int) := by omega
  clear hv
  go_enter Try.func12, Try.ntmps12
  go_wp2
  go_region_held3 (fun W => W.cell? ⟨m, 1, none⟩ = some (.slice (some ⟨b, 0, none⟩) n n) ∧ W.cell? ⟨m, 0, none⟩ = some (.int .u64 (now : Int))) (go_keep) (fail)
  go_wp2
  go_ret
  exact ⟨rfl, _, rfl⟩
set_option maxHeartbeats 400000 in
theorem rdoes_turn {w : World} {m b n now : Nat} {v : Nat → Nat} (h : RefAt w m b n now v) (s : Nat) (hs : s < n) (hv : v s ≠ 0) :
    Calls Try.prog 12 #[.pointer (some ⟨m, 0, none⟩), .int .i64 2, .int .i64 (s : Int)] w fun e w' => e = .returned (.int .i64 0) ∧ ∃ k, w' = (w.drewN k).setCell ⟨b, s, none⟩ (.int .u64 (now : Int)) := by
  have hne := h.ne
  have c0 := h.c0
  have c1 := h.c1
  have cs := h.cs s hs
  have fs := h.fs s hs
  have hs0 : decide ((s : Int) < 0) = false := by simp
  have hsn : decide ((s : Int) ≥ (n : Int)) = false := by simp; omega
  have hs1 : (0 : Int) ≤ (s : Int) := by omega
  have hs2 : (s : Int) < (n : Int) := by omega
  have hvb : 0 < v s := by omega
  clear hv
  generalize v s = z at *
  go_enter Try.func12, Try.ntmps12
  go_wp2
  go_region_held3 (fun W => W.cell? ⟨m, 1, none⟩ = some (.slice (some ⟨b, 0, none⟩) n n) ∧ W.cell? ⟨m, 0, none⟩ = some (.int .u64 (now : Int))) (go_keep) (fail)
  go_wp2
  go_ret
  exact ⟨rfl, _, rfl⟩
set_option maxHeartbeats 400000 in
theorem rdoes_leave {w : World} {m b n now : Nat} {v : Nat → Nat} (h : RefAt w m b n now v) (s : Nat) (hs : s < n) (hv : v s ≠ 0) :
    Calls Try.prog 12 #[.pointer (some ⟨m, 0, none⟩), .int .i64 3, .int .i64 (s : Int)] w fun e w' => e = .returned (.int .i64 0) ∧ ∃ k, w' = ((w.drewN k).setCell ⟨b, s, none⟩ (.int .u64 (now : Int))).setCell ⟨b, s, none⟩ (.int .u64 0) := by
  have hne := h.ne
  have c0 := h.c0
  have c1 := h.c1
  have cs := h.cs s hs
  have fs := h.fs s hs
  have hs0 : decide ((s : Int) < 0) = false := by simp
  have hsn : decide ((s : Int) ≥ (n : Int)) = false := by simp; omega
  have hs1 : (0 : Int) ≤ (s : Int) := by omega
  have hs2 : (s : Int) < (n : Int) := by omega
  have hvb : 0 < v s := by omega
  clear hv
  generalize v s = z at *
  go_enter Try.func12, Try.ntmps12
  go_wp2
  go_region_held3 (fun W => W.cell? ⟨m, 1, none⟩ = some (.slice (some ⟨b, 0, none⟩) n n) ∧ W.cell? ⟨m, 0, none⟩ = some (.int .u64 (now : Int))) (go_keep) (fail)
  go_wp2
  go_ret
  exact ⟨rfl, _, rfl⟩
theorem rdoes_any {w : World} {m b n now : Nat} {v : Nat → Nat} (h : RefAt w m b n now v) (kd s : Int) (hkd : kd = 1 ∨ kd = 2 ∨ kd = 3) :
    Calls Try.prog 12 #[.pointer (some ⟨m, 0, none⟩), .int .i64 kd, .int .i64 s] w fun e w' => e = .returned (.int .i64 (doesE n v kd s)) ∧ RefAt w' m b n now (doesV n now v kd s) ∧ Apart b (b + 1) w w' := by
  by_cases hs : s < 0 ∨ (n : Int) ≤ s
  · refine (rdoes_out h kd s hs).mono ?_
    rintro e w' ⟨rfl, rfl⟩
    exact ⟨by rw [doesE_out hs], by rw [doesV_out hs]; exact h, Apart.refl _ _ _⟩
  · obtain ⟨s, rfl⟩ := Int.eq_ofNat_of_zero_le (show 0 ≤ s by omega)
    have hs : s < n := by omega
    by_cases hv : v s = 0
    · by_cases h1 : kd = 1
      · subst h1
        refine (rdoes_enter h s hs hv).mono ?_
        rintro e w' ⟨rfl, k, rfl⟩
        have he : doesE n v 1 (s : Int) = 0 := by rw [doesE_in hs]; simp [hv]
        refine ⟨by rw [he], ?_, ((Apart.refl b (b + 1) w).drewN k).setCell ⟨b, s, none⟩ ⟨Nat.le_refl b, Nat.lt_succ_self b⟩ _⟩
        have e2 : doesV n now v 1 (s : Int) = updN v s now := by simp [doesV, he]
        rw [e2]
        exact (h.drew k).word s hs now
      · refine (rdoes_none h s hs hv kd h1).mono ?_
        rintro e w' ⟨rfl, rfl⟩
        have he : doesE n v kd (s : Int) = 7 := by rw [doesE_in hs]; simp [hv, h1]
        exact ⟨by rw [he], by simpa [doesV, he] using h, Apart.refl _ _ _⟩
    · rcases hkd with rfl | rfl | rfl
      · refine (rdoes_there h s hs hv).mono ?_
        rintro e w' ⟨rfl, rfl⟩
        have he : doesE n v 1 (s : Int) = 8 := by rw [doesE_in hs]; simp [hv]
        exact ⟨by rw [he], by simpa [doesV, he] using h, Apart.refl _ _ _⟩
      · refine (rdoes_turn h s hs hv).mono ?_
        rintro e w' ⟨rfl, k, rfl⟩
        have he : doesE n v 2 (s : Int) = 0 := by rw [doesE_in hs]; simp [hv]
        refine ⟨by rw [he], ?_, ((Apart.refl b (b + 1) w).drewN k).setCell ⟨b, s, none⟩ ⟨Nat.le_refl b, Nat.lt_succ_self b⟩ _⟩
        have e2 : doesV n now v 2 (s : Int) = updN v s now := by simp [doesV, he]
        rw [e2]
        exact (h.drew k).word s hs now
      · refine (rdoes_leave h s hs hv).mono ?_
        rintro e w' ⟨rfl, k, rfl⟩
        have he : doesE n v 3 (s : Int) = 0 := by rw [doesE_in hs]; simp [hv]
        refine ⟨by rw [he], ?_, (((Apart.refl b (b + 1) w).drewN k).setCell ⟨b, s, none⟩ ⟨Nat.le_refl b, Nat.lt_succ_self b⟩ _).setCell ⟨b, s, none⟩ ⟨Nat.le_refl b, Nat.lt_succ_self b⟩ _⟩
        have e2 : doesV n now v 3 (s : Int) = updN (updN v s now) s 0 := by rw [updN_twice]; simp [doesV, he]
        rw [e2]
        exact ((h.drew k).word s hs now).word s hs 0
theorem TabAt.under {w w' : World} {t r1 b1 r2 b2 n now : Nat} {v : Nat → Nat} {won lost : Int} {C : Nat} (h : TabAt w t r1 b1 r2 b2 n now v won lost) (hb : Below C w w') (h1 : t < C) (h2 : r1 < C) (h3 : b1 < C) (h4 : r2 < C) (h5 : b2 < C) : TabAt w' t r1 b1 r2 b2 n now v won lost := by
  have hr : ∀ {r b k : Nat} {x : Nat → Int} {o l : Int}, r < C → b < C → RowIs w r b k x o l → RowIs w' r b k x o l := fun a1 a2 g =>
    ⟨g.ne, by rw [hb.cell a1]; exact g.c0, by rw [hb.cell a1]; exact g.c1, by rw [hb.frozen a1]; exact g.f1, by rw [hb.cell a1]; exact g.c2, by rw [hb.frozen a1]; exact g.f2,
      fun i hi => by rw [hb.cell a2]; exact g.cs i hi, fun i hi => by rw [hb.frozen a2]; exact g.fs i hi⟩
  exact ⟨by rw [hb.cell h1]; exact h.c0, by rw [hb.cell h1]; exact h.c1, hr h2 h3 h.one, hr h4 h5 h.saw, h.n1, h.n2, h.n3, h.n4, h.n5, h.n6, h.n7⟩
theorem TabIs.under {w w' : World} {B C t n now : Nat} {v : Nat → Nat} {k : Nat} (h : TabIs w B C t n now v k) (hb : Below C w w') : TabIs w' B C t n now v k := by
  obtain ⟨r1, b1, r2, b2, won, lost, h, hB, rest⟩ := h
  exact ⟨r1, b1, r2, b2, won, lost, h.under hb hB.1.2 hB.2.1.2 hB.2.2.1.2 hB.2.2.2.1.2 hB.2.2.2.2.2, hB, rest⟩
set_option maxHeartbeats 800000 in
theorem rsafe_any {w : World} {m b n now : Nat} {v : Nat → Nat} (h : RefAt w m b n now v) (hn : n ≤ 8) (hnow : 1 ≤ now ∧ now ≤ 1000000) :
    Calls Try.prog 17 #[.pointer (some ⟨m, 0, none⟩)] w fun e w' => e = .returned (.int .u64 ((leastN now v n - 1 : Nat) : Int)) ∧ w' = w := by
  obtain ⟨q, hq⟩ : ∃ q, q = leastN now v n - 1 := ⟨_, rfl⟩
  rw [← hq]
  have HQ := hide hq
  have c0 := h.c0
  have c1 := h.c1
  have HC := hide h.cs
  have HP : Hid (∀ i, 1 ≤ leastN now v i ∧ leastN now v i ≤ now) := fun i => ⟨leastN_pos now v i hnow.1, leastN_le_now now v i⟩
  clear hq
  go_enter Try.func17, Try.ntmps17
  go_wp2
  go_loop [3, 4] (fun a i => ∃ k f : Nat, k ≤ n ∧ i = .int .i64 k ∧ a = .int .u64 (f : Int) ∧ Hid (f + 1 = leastN now v k))
    (fun _ i => n - (intOf i).toNat)
  case atStart => exact ⟨0, now - 1, Nat.zero_le _, rfl, by congr 1; omega, by show now - 1 + 1 = now; omega⟩
  case round =>
    obtain ⟨k, f, hk, rfl, rfl, HF⟩ := hrel
    obtain ⟨p1, p2⟩ := HP.out k
    rw [← HF.out] at p1 p2
    by_cases hlt : k < n
    · have cs := HC.out k hlt
      have hst : leastN now v (k + 1) = if v k = 0 then leastN now v k else min (leastN now v k) (v k) := rfl
      rw [← HF.out] at hst
      have HST := hide hst
      clear hst
      generalize v k = z at *
      by_cases hz : z = 0
      · subst hz
        go_wp2
        go_round
        case rel => exact ⟨k + 1, f, by omega, by go_num, rfl, by rw [HST.out, if_pos rfl]; rfl⟩
        case measure => simp [intOf]; omega
      · have hz1 : 0 < z := by omega
        by_cases hzf : z ≤ f
        · have hzf' : f - z + z = f := by omega
          have HN := hide hz
          clear hz hzf'
          go_wp2
          go_round
          case rel => exact ⟨k + 1, z - 1, by omega, by go_num, by congr 1; omega, by rw [HST.out, if_neg HN.out]; show z - 1 + 1 = _; omega⟩
          case measure => simp [intOf]; omega
        · have HN := hide hz
          clear hz
          go_wp2
          go_round
          case rel => exact ⟨k + 1, f, by omega, by go_num, rfl, by rw [HST.out, if_neg HN.out]; show f + 1 = _; omega⟩
          case measure => simp [intOf]; omega
    · have e : k = n := by omega
      subst e
      have hq : q = f := by rw [HQ.out, ← HF.out]; omega
      subst hq
      go_wp2
      go_ret
      exact ⟨rfl, rfl⟩
end Go.Proofs.Ytlmkknlcdcajoaa
