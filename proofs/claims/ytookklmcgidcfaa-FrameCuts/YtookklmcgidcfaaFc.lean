/- The walks of frame: opened, Unpack, Word. -/
import Derived.Test.YtookklmcgidcfaaFb
namespace Go.Proofs.Ytookklmcgidcfaa
open Go.RowKit
set_option maxHeartbeats 400000 in
theorem opened_no (t : List UInt8) (w : World) (hl : t.length ≤ 1000000) (h : ¬ (24 ≤ t.length ∧ t.length % 8 = 0 ∧ Opens t)) :
    Calls Try.prog 21 #[.string (strL t)] w fun e w' => e = .returned (.tuple #[.slice none 0 0, .int .i64 4]) ∧ Below w.heap.size w w' := by
  by_cases h8 : t.length < 8
  · have hs : (strL t).size < 8 := by rw [strL_size]; exact h8
    go_enter Try.func21, Try.ntmps21
    go_wp2_with fail
    refine (open_short _ _ hs).mono ?_
    rintro e x ⟨rfl, rfl⟩
    go_wp2
    go_ret2
    exact ⟨rfl, Below.refl _ _⟩
  · by_cases ho : Opens t
    · have HO := hide (fun w => open_yes t w (by omega) hl ho)
      have hsz : (strL (t.take (t.length - 8))).size = t.length - 8 := by rw [strL_size, List.length_take]; omega
      generalize strL (t.take (t.length - 8)) = T at *
      generalize strL t = s at *
      have hc : T.size < 16 ∨ T.size % 8 ≠ 0 := by
        by_cases h1 : 24 ≤ t.length
        · right; intro h2; exact h ⟨h1, by omega, ho⟩
        · left; omega
      have hm : T.size ≤ 1000000 := by omega
      clear h ho hsz
      by_cases h1 : T.size < 16
      · go_enter Try.func21, Try.ntmps21
        go_wp2_with fail
        refine (HO.out _).mono ?_
        rintro e x ⟨rfl, b⟩
        go_wp2
        go_ret2
        exact ⟨rfl, b⟩
      · have h2 : ((T.size : Int) % 8 != 0) = true := by rw [bne_iff_ne]; omega
        clear hc
        go_enter Try.func21, Try.ntmps21
        go_wp2_with fail
        refine (HO.out _).mono ?_
        rintro e x ⟨rfl, b⟩
        go_wp2
        go_ret2
        exact ⟨rfl, b⟩
    · have HO := hide (fun w => open_no t w (by omega) hl ho)
      go_enter Try.func21, Try.ntmps21
      go_wp2_with fail
      refine (HO.out _).mono ?_
      rintro e x ⟨rfl, b⟩
      go_wp2
      go_ret2
      exact ⟨rfl, b⟩
set_option maxHeartbeats 400000 in
theorem opened_yes (t : List UInt8) (N : Nat) (w : World) (hl : t.length ≤ 1000000) (h1 : 24 ≤ t.length) (h2 : t.length = 8 * N + 8) (ho : Opens t) :
    Calls Try.prog 21 #[.string (strL t)] w fun e w' => ∃ g, e = .returned (.tuple #[.slice (some ⟨g, 0, none⟩) N N, .int .i64 0]) ∧
      (∀ j, j < N → w'.cell? ⟨g, j, none⟩ = some (.int .u64 (wordAt t j : Int))) ∧ Below w.heap.size w w' := by
  have HO := hide (fun w => open_yes t w (by omega) hl ho)
  have hsz : (strL (t.take (t.length - 8))).size = 8 * N := by rw [strL_size, List.length_take]; omega
  have HW : Hid (∀ w, Calls Try.prog 29 #[.string (strL (t.take (t.length - 8)))] w fun e w' => ∃ g, e = .returned (.slice (some ⟨g, 0, none⟩) N N) ∧ (∀ j, j < N → w'.cell? ⟨g, j, none⟩ = some (.int .u64 (wordAt t j : Int))) ∧ Below w.heap.size w w') := fun w => by
    have := words_any (strL (t.take (t.length - 8))) w (by omega)
    rw [hsz, show wordsFor (8 * N) = N by unfold wordsFor; omega] at this
    refine this.mono ?_
    rintro e w' ⟨g, rfl, o, b⟩
    refine ⟨g, rfl, fun j hj => ?_, b⟩
    rw [own_cellsU o (wordsL_length _ _) j hj, wordsL_get _ _ _ hj, strL_toList, wordAt_take _ _ _ (by omega)]
    rfl
  generalize strL (t.take (t.length - 8)) = T at *
  generalize strL t = s at *
  have hs0 : ¬ T.size < 16 := by omega
  have hs1 : ((T.size : Int) % 8 != 0) = false := by rw [bne_eq_false_iff_eq]; omega
  have hm : T.size ≤ 1000000 := by omega
  clear hsz h1 h2 ho
  go_enter Try.func21, Try.ntmps21
  go_wp2_with fail
  refine (HO.out _).mono ?_
  rintro e x ⟨rfl, b⟩
  go_wp2_with fail
  refine (HW.out _).mono ?_
  rintro e x2 ⟨g, rfl, hc, b2⟩
  replace b2 := b.trans (b2.mono b.size)
  go_wp2
  go_ret2
  exact ⟨g, rfl, hc, b2⟩
set_option maxHeartbeats 1000000 in
theorem unpack_yes (t : List UInt8) (n p : Nat) (w : World) (h : FrOK t) (hn : t.length = 8 * n + 24) (hp : wordAt t 0 = p) :
    Calls Try.prog 9 #[.string (strL t)] w fun e w' => ∃ ao, e = .returned (.tuple #[.int .i64 (p : Int), .slice ao n n, .int .i64 0]) ∧
      Sl .u64 w' ao n (fun j => ((wordAt t (j + 2) : Nat) : Int)) ∧ Below w.heap.size w w' := by
  have h1 := h.long
  have h5 := h.count
  have h6 := h.most
  have h4 := h.page
  rw [hp] at h4
  have HO : Hid (∀ w, Calls Try.prog 21 #[.string (strL t)] w fun e w' => ∃ g, e = .returned (.tuple #[.slice (some ⟨g, 0, none⟩) (n + 2) (n + 2), .int .i64 0]) ∧
      (∀ j, j < n + 2 → w'.cell? ⟨g, j, none⟩ = some (.int .u64 (wordAt t j : Int))) ∧ Below w.heap.size w w') := fun w => opened_yes t (n + 2) w (by omega) (by omega) (by omega) h.opens
  have n1 : 1 ≤ n := by omega
  have n2 : n ≤ 512 := by omega
  have hq : Hid (wordAt t 1 = n) := by unfold Hid; omega
  clear h h5 h6 hn h1
  generalize strL t = s at *
  have HP := hide hp
  clear hp
  have hnn : ((n : Int) != (n : Int)) = false := by simp
  have hp6 : decide ((64 : Int) ≤ (p : Int)) = false := by simp; omega
  go_enter Try.func9, Try.ntmps9
  go_wp2_with fail
  refine (HO.out _).mono ?_
  rintro e x ⟨g, rfl, hc, b⟩
  have c0 := hc 0 (by omega)
  have c1 := hc 1 (by omega)
  rw [HP.out] at c0
  rw [hq.out] at c1
  have HC := hide hc
  clear hc
  go_wp2_with fail
  all_goals
    refine (count_yes _ _ (by omega) (by omega)).mono ?_
    rintro e x2 ⟨rfl, rfl⟩
    go_wp2
    go_ret3
    exact ⟨_, rfl, fun j hj => ⟨g, 2, rfl, by rw [Nat.add_comm 2 j]; exact HC.out (j + 2) (by omega)⟩, b⟩
set_option maxHeartbeats 1000000 in
theorem unpack_no (t : List UInt8) (w : World) (hl : t.length ≤ 1000000) (h : ¬ FrOK t) :
    Calls Try.prog 9 #[.string (strL t)] w fun e w' => e = .returned (.tuple #[.int .i64 0, .slice none 0 0, .int .i64 4]) ∧ Below w.heap.size w w' := by
  by_cases h0 : 24 ≤ t.length ∧ t.length % 8 = 0 ∧ Opens t
  · obtain ⟨h1, h2, h3⟩ := h0
    obtain ⟨n, hn⟩ : ∃ n, t.length = 8 * n + 24 := ⟨(t.length - 24) / 8, by omega⟩
    have HO : Hid (∀ w, Calls Try.prog 21 #[.string (strL t)] w fun e w' => ∃ g, e = .returned (.tuple #[.slice (some ⟨g, 0, none⟩) (n + 2) (n + 2), .int .i64 0]) ∧
      (∀ j, j < n + 2 → w'.cell? ⟨g, j, none⟩ = some (.int .u64 (wordAt t j : Int))) ∧ Below w.heap.size w w') := fun w => opened_yes t (n + 2) w (by omega) (by omega) (by omega) h3
    have hc : ¬ (1 ≤ n ∧ n ≤ 512) ∨ (1 ≤ n ∧ n ≤ 512) ∧ wordAt t 1 ≠ n ∨ (1 ≤ n ∧ n ≤ 512) ∧ wordAt t 1 = n ∧ ¬ wordAt t 0 < 64 := by
      by_cases a1 : 1 ≤ n ∧ n ≤ 512
      · by_cases a2 : wordAt t 1 = n
        · exact .inr (.inr ⟨a1, a2, fun a3 => h ⟨by omega, h2, h3, a3, by omega, by omega⟩⟩)
        · exact .inr (.inl ⟨a1, a2⟩)
      · exact .inl a1
    have hnm : n ≤ 1000000 := by omega
    clear h h1 h2 h3 hn hl
    generalize strL t = s at *
    rcases hc with a | ⟨a, a2⟩ | ⟨a, a2, a3⟩
    · go_enter Try.func9, Try.ntmps9
      go_wp2_with fail
      refine (HO.out _).mono ?_
      rintro e x ⟨g, rfl, hc, b⟩
      clear hc
      go_wp2_with fail
      all_goals
        refine (count_no _ _ (by omega)).mono ?_
        rintro e x2 ⟨rfl, rfl⟩
        go_wp2
        go_ret3
        exact ⟨rfl, b⟩
    · obtain ⟨n1, n2⟩ := a
      have hne : ((wordAt t 1 : Int) != (n : Int)) = true := by rw [bne_iff_ne]; omega
      clear a2
      go_enter Try.func9, Try.ntmps9
      go_wp2_with fail
      refine (HO.out _).mono ?_
      rintro e x ⟨g, rfl, hc, b⟩
      have c1 := hc 1 (by omega)
      clear hc
      generalize wordAt t 1 = q at *
      go_wp2_with fail
      all_goals
        refine (count_yes _ _ (by omega) (by omega)).mono ?_
        rintro e x2 ⟨rfl, rfl⟩
        go_wp2
        go_ret3
        exact ⟨rfl, b⟩
    · obtain ⟨n1, n2⟩ := a
      have hnn : ((n : Int) != (n : Int)) = false := by simp
      have hp6 : decide ((64 : Int) ≤ (wordAt t 0 : Int)) = true := by simp; omega
      have HQ := hide a2
      clear a2 a3
      go_enter Try.func9, Try.ntmps9
      go_wp2_with fail
      refine (HO.out _).mono ?_
      rintro e x ⟨g, rfl, hc, b⟩
      have c0 := hc 0 (by omega)
      have c1 := hc 1 (by omega)
      rw [HQ.out] at c1
      clear hc
      generalize wordAt t 0 = q at *
      go_wp2_with fail
      all_goals
        refine (count_yes _ _ (by omega) (by omega)).mono ?_
        rintro e x2 ⟨rfl, rfl⟩
        go_wp2
        go_ret3
        exact ⟨rfl, b⟩
  · have HO := hide (fun w => opened_no t w hl h0)
    go_enter Try.func9, Try.ntmps9
    go_wp2_with fail
    refine (HO.out _).mono ?_
    rintro e x ⟨rfl, b⟩
    go_wp2
    go_ret3
    exact ⟨rfl, b⟩
set_option maxHeartbeats 1000000 in
theorem word_yes (t : List UInt8) (n a : Nat) (w : World) (h : FrOK t) (hn : t.length = 8 * n + 24) (ha : a < n) :
    Calls Try.prog 10 #[.string (strL t), .int .i64 (a : Int)] w fun e w' => e = .returned (.tuple #[.int .u64 (wordAt t (a + 2) : Int), .int .i64 0]) ∧ Below w.heap.size w w' := by
  have HU := hide (fun w => unpack_yes t n _ w h hn rfl)
  have hm : n ≤ 512 := by have := h.most; omega
  clear h hn
  generalize strL t = s at *
  obtain ⟨q, HQ⟩ : ∃ q, Hid (wordAt t (a + 2) = q) := ⟨_, rfl⟩
  rw [HQ.out]
  go_enter Try.func10, Try.ntmps10
  go_wp2_with fail
  refine (HU.out _).mono ?_
  rintro e x ⟨ao, rfl, hs, b⟩
  obtain ⟨bb, off, rfl, hc⟩ := hs a ha
  replace hc : x.cell? ⟨bb, off + a, none⟩ = some (.int .u64 (wordAt t (a + 2) : Int)) := hc
  rw [HQ.out] at hc
  clear hs HU
  go_wp2
  go_ret2
  exact ⟨rfl, b⟩
set_option maxHeartbeats 1000000 in
theorem word_no (t : List UInt8) (n : Nat) (a : Int) (w : World) (h : FrOK t) (hn : t.length = 8 * n + 24) (ha : a < 0 ∨ (n : Int) ≤ a) :
    Calls Try.prog 10 #[.string (strL t), .int .i64 a] w fun e w' => e = .returned (.tuple #[.int .u64 0, .int .i64 1]) ∧ Below w.heap.size w w' := by
  have HU := hide (fun w => unpack_yes t n _ w h hn rfl)
  have hm : n ≤ 512 := by have := h.most; omega
  clear h hn
  generalize strL t = s at *
  by_cases h1 : a < 0
  · go_enter Try.func10, Try.ntmps10
    go_wp2_with fail
    refine (HU.out _).mono ?_
    rintro e x ⟨ao, rfl, hs, b⟩
    clear hs HU
    go_wp2
    go_ret2
    exact ⟨rfl, b⟩
  · have h2 : (n : Int) ≤ a := by omega
    clear ha
    go_enter Try.func10, Try.ntmps10
    go_wp2_with fail
    refine (HU.out _).mono ?_
    rintro e x ⟨ao, rfl, hs, b⟩
    clear hs HU
    go_wp2
    go_ret2
    exact ⟨rfl, b⟩
end Go.Proofs.Ytookklmcgidcfaa
