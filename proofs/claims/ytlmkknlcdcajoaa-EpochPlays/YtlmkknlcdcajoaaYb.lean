/- Package epoch at a table that is there: Enter, turn, Refresh, Leave. -/
import Derived.Test.YtlmkknlcdcajoaaYa
import Derived.Deep.RegionHeld3
namespace Go.Proofs.Ytlmkknlcdcajoaa
open Go.RowKit
theorem tcas_hit {w : World} {t r1 b1 r2 b2 n now : Nat} {v : Nat → Nat} {won lost : Int} (h : TabAt w t r1 b1 r2 b2 n now v won lost) (s : Nat) (hs : s < n) (hv : v s = 0) (y : Nat) (hw : 0 ≤ won ∧ won ≤ 1000000) :
    Calls Try.prog 27 #[.pointer (some ⟨r2, 0, none⟩), .int .i64 (s : Int), .int .u64 0, .int .u64 (y : Int)] w fun e w' => e = .returned (.tuple #[.bool true, .int .i64 0]) ∧ TabAt w' t r1 b1 r2 b2 n now (updN v s y) (won + 1) lost ∧ ∀ B C, (B ≤ r2 ∧ r2 < C) → (B ≤ b2 ∧ b2 < C) → Apart B C w w' := by
  have hc := h.saw.cs s hs
  simp only [hv] at hc
  refine (cas_hit r2 b2 n n s 0 (y : Int) won hs h.saw.ne hw w h.saw.c0 hc (h.saw.fs s hs) h.saw.c1 h.saw.f1).mono ?_
  rintro e w' ⟨rfl, rfl⟩
  exact ⟨rfl, (h.word s hs y).wins _, fun B C hr hb => ((Apart.refl _ _ _).setCell _ hb _).setCell _ hr _⟩
theorem tcas_miss {w : World} {t r1 b1 r2 b2 n now : Nat} {v : Nat → Nat} {won lost : Int} (h : TabAt w t r1 b1 r2 b2 n now v won lost) (s : Nat) (hs : s < n) (hv : v s ≠ 0) (y : Nat) (hw : 0 ≤ lost ∧ lost ≤ 1000000) :
    Calls Try.prog 27 #[.pointer (some ⟨r2, 0, none⟩), .int .i64 (s : Int), .int .u64 0, .int .u64 (y : Int)] w fun e w' => e = .returned (.tuple #[.bool false, .int .i64 0]) ∧ TabAt w' t r1 b1 r2 b2 n now v won (lost + 1) ∧ ∀ B C, (B ≤ r2 ∧ r2 < C) → Apart B C w w' := by
  refine (cas_miss r2 b2 n n s (v s : Int) 0 (y : Int) lost hs hw w h.saw.c0 (h.saw.cs s hs) (h.saw.fs s hs) (by omega) h.saw.c2 h.saw.f2).mono ?_
  rintro e w' ⟨rfl, rfl⟩
  exact ⟨rfl, h.loses _, fun B C hr => (Apart.refl _ _ _).setCell _ hr _⟩
theorem apart_drew1 {B C : Nat} {w x : World} (h : Apart B C (w.drewN 1) x) : Apart B C w x := ((Apart.refl B C w).drewN 1).trans h
set_option maxHeartbeats 400000 in
theorem enter_new_at {w : World} {t r1 b1 r2 b2 n now : Nat} {v : Nat → Nat} {won lost : Int} (h : TabAt w t r1 b1 r2 b2 n now v won lost) (s : Nat) (hs : s < n) (hv : v s = 0) (hw : 0 ≤ won ∧ won ≤ 1000000) :
    Calls Try.prog 20 #[.pointer (some ⟨t, 0, none⟩), .int .i64 (s : Int)] w fun e w' => e = .returned (.int .i64 0) ∧ TabAt w' t r1 b1 r2 b2 n now (updN v s now) (won + 1) lost ∧ ∀ B C, (B ≤ r2 ∧ r2 < C) → (B ≤ b2 ∧ b2 < C) → Apart B C w w' := by
  have c1 := h.c1
  have HV := hide hv
  clear hv
  go_enter Try.func20, Try.ntmps20
  go_wp2_with fail
  go_region_held3 (fun W => W.cell? ⟨t, 1, none⟩ = some (.pointer (some ⟨r2, 0, none⟩))) (first | go_keep | exact TabAt.c1 (by assumption)) (first | (go_at_call 15; refine (now_at (h.drew 1)).mono ?_; rintro e x ⟨rfl, rfl⟩) | (go_at_call 27; refine (tcas_hit (h.drew 1) s hs HV.out now hw).mono ?_; rintro e x ⟨rfl, hx, hB⟩))
  all_goals
    go_wp2
    go_ret
    exact ⟨rfl, hx, fun B C h1 h2 => apart_drew1 (hB B C h1 h2)⟩
set_option maxHeartbeats 400000 in
theorem enter_there_at {w : World} {t r1 b1 r2 b2 n now : Nat} {v : Nat → Nat} {won lost : Int} (h : TabAt w t r1 b1 r2 b2 n now v won lost) (s : Nat) (hs : s < n) (hv : v s ≠ 0) (hw : 0 ≤ lost ∧ lost ≤ 1000000) :
    Calls Try.prog 20 #[.pointer (some ⟨t, 0, none⟩), .int .i64 (s : Int)] w fun e w' => e = .returned (.int .i64 8) ∧ TabAt w' t r1 b1 r2 b2 n now v won (lost + 1) ∧ ∀ B C, (B ≤ r2 ∧ r2 < C) → Apart B C w w' := by
  have c1 := h.c1
  have HV := hide hv
  clear hv
  go_enter Try.func20, Try.ntmps20
  go_wp2_with fail
  go_region_held3 (fun W => W.cell? ⟨t, 1, none⟩ = some (.pointer (some ⟨r2, 0, none⟩))) (first | go_keep | exact TabAt.c1 (by assumption)) (first | (go_at_call 15; refine (now_at (h.drew 1)).mono ?_; rintro e x ⟨rfl, rfl⟩) | (go_at_call 27; refine (tcas_miss (h.drew 1) s hs HV.out now hw).mono ?_; rintro e x ⟨rfl, hx, hB⟩))
  all_goals
    go_wp2
    go_ret
    exact ⟨rfl, hx, fun B C h1 => apart_drew1 (hB B C h1)⟩
set_option maxHeartbeats 400000 in
theorem enter_no_at {w : World} {t r1 b1 r2 b2 n now : Nat} {v : Nat → Nat} {won lost : Int} (h : TabAt w t r1 b1 r2 b2 n now v won lost) (s : Int) (hs : s < 0 ∨ (n : Int) ≤ s) :
    Calls Try.prog 20 #[.pointer (some ⟨t, 0, none⟩), .int .i64 s] w fun e w' => e = .returned (.int .i64 1) ∧ ∃ k, w' = w.drewN k := by
  have c1 := h.c1
  go_enter Try.func20, Try.ntmps20
  go_wp2_with fail
  go_quiet ((first | (go_at_call 15; exact Calls.quiet_of_same (now_at (h.drew _))) | (go_at_call 27; exact Calls.quiet_of_same (cas_no r2 _ n n s 0 (now : Int) hs _ (h.drew _).saw.c0))))
  go_wp2
  go_ret
  exact ⟨rfl, _, rfl⟩
set_option maxHeartbeats 400000 in
theorem turn_yes_at {w : World} {t r1 b1 r2 b2 n now : Nat} {v : Nat → Nat} {won lost : Int} (h : TabAt w t r1 b1 r2 b2 n now v won lost) (s : Nat) (hs : s < n) (hv : v s ≠ 0) (y : Nat) :
    Calls Try.prog 26 #[.pointer (some ⟨t, 0, none⟩), .int .i64 (s : Int), .int .u64 (y : Int)] w fun e w' => e = .returned (.int .i64 0) ∧ TabAt w' t r1 b1 r2 b2 n now (updN v s y) won lost ∧ ∀ B C, (B ≤ b2 ∧ b2 < C) → Apart B C w w' := by
  have c1 := h.c1
  have hv' : ((v s : Int) == 0) = false := by simp; omega
  have hs0 : decide ((s : Int) < 0) = false := by simp
  have hsn : decide ((s : Int) ≥ (n : Int)) = false := by simp; omega
  clear hv
  go_enter Try.func26, Try.ntmps26
  go_wp2_with fail
  refine (len_any r2 _ n n _ h.saw.c0).mono ?_
  rintro e x ⟨rfl, rfl⟩
  go_wp2_with fail
  refine (rload h.saw s hs (v s : Int) rfl).mono ?_
  rintro e x ⟨rfl, rfl⟩
  go_wp2_with fail
  refine (store_yes r2 b2 n n s _ (y : Int) hs _ h.saw.c0 (h.saw.cs s hs) (h.saw.fs s hs)).mono ?_
  rintro e x ⟨rfl, rfl⟩
  go_wp2
  go_ret
  exact ⟨rfl, h.word s hs y, fun B C hb => (Apart.refl _ _ _).setCell _ hb _⟩
set_option maxHeartbeats 400000 in
theorem turn_none_at {w : World} {t r1 b1 r2 b2 n now : Nat} {v : Nat → Nat} {won lost : Int} (h : TabAt w t r1 b1 r2 b2 n now v won lost) (s : Nat) (hs : s < n) (hv : v s = 0) (y : Int) :
    Calls Try.prog 26 #[.pointer (some ⟨t, 0, none⟩), .int .i64 (s : Int), .int .u64 y] w fun e w' => e = .returned (.int .i64 7) ∧ w' = w := by
  have c1 := h.c1
  have hl := rload h.saw s hs 0 (by rw [hv]; rfl)
  have hs0 : decide ((s : Int) < 0) = false := by simp
  have hsn : decide ((s : Int) ≥ (n : Int)) = false := by simp; omega
  clear hv
  go_enter Try.func26, Try.ntmps26
  go_wp2_with fail
  refine (len_any r2 _ n n _ h.saw.c0).mono ?_
  rintro e x ⟨rfl, rfl⟩
  go_wp2_with fail
  refine hl.mono ?_
  rintro e x ⟨rfl, rfl⟩
  go_wp2
  go_ret
  exact ⟨rfl, rfl⟩
set_option maxHeartbeats 400000 in
theorem turn_no_at {w : World} {t r1 b1 r2 b2 n now : Nat} {v : Nat → Nat} {won lost : Int} (h : TabAt w t r1 b1 r2 b2 n now v won lost) (s : Int) (hs : s < 0 ∨ (n : Int) ≤ s) (y : Int) :
    Calls Try.prog 26 #[.pointer (some ⟨t, 0, none⟩), .int .i64 s, .int .u64 y] w fun e w' => e = .returned (.int .i64 1) ∧ w' = w := by
  have c1 := h.c1
  by_cases h0 : s < 0
  · clear hs
    go_enter Try.func26, Try.ntmps26
    go_wp2
    go_ret
    exact ⟨rfl, rfl⟩
  · have h1 : (n : Int) ≤ s := by omega
    clear hs
    go_enter Try.func26, Try.ntmps26
    go_wp2_with fail
    refine (len_any r2 _ n n _ h.saw.c0).mono ?_
    rintro e x ⟨rfl, rfl⟩
    go_wp2
    go_ret
    exact ⟨rfl, rfl⟩
set_option maxHeartbeats 400000 in
theorem refresh_at {w : World} {t r1 b1 r2 b2 n now : Nat} {v : Nat → Nat} {won lost : Int} (h : TabAt w t r1 b1 r2 b2 n now v won lost) (s : Int) (c : Int) (Q : World → Prop)
    (ht : Calls Try.prog 26 #[.pointer (some ⟨t, 0, none⟩), .int .i64 s, .int .u64 (now : Int)] w (fun e w' => e = .returned (.int .i64 c) ∧ Q w')) :
    Calls Try.prog 19 #[.pointer (some ⟨t, 0, none⟩), .int .i64 s] w (fun e w' => e = .returned (.int .i64 c) ∧ Q w') := by
  go_enter Try.func19, Try.ntmps19
  go_wp2_with fail
  refine (now_at h).mono ?_
  rintro e x ⟨rfl, rfl⟩
  go_wp2_with fail
  refine ht.mono ?_
  rintro e x ⟨rfl, hx⟩
  go_wp2
  go_ret
  exact ⟨rfl, hx⟩
set_option maxHeartbeats 400000 in
theorem leave_at {w : World} {t : Nat} (s : Int) (c : Int) (Q : World → Prop)
    (ht : Calls Try.prog 26 #[.pointer (some ⟨t, 0, none⟩), .int .i64 s, .int .u64 0] w (fun e w' => e = .returned (.int .i64 c) ∧ Q w')) :
    Calls Try.prog 18 #[.pointer (some ⟨t, 0, none⟩), .int .i64 s] w (fun e w' => e = .returned (.int .i64 c) ∧ Q w') := by
  go_enter Try.func18, Try.ntmps18
  go_wp2_with fail
  refine ht.mono ?_
  rintro e x ⟨rfl, hx⟩
  go_wp2
  go_ret
  exact ⟨rfl, hx⟩
/-- What a call answers: 1 Enter, 2 Refresh, 3 Leave. -/
def doesE (n : Nat) (v : Nat → Nat) (kind s : Int) : Int :=
  if s < 0 ∨ (n : Int) ≤ s then 1 else if kind = 1 then (if v s.toNat = 0 then 0 else 8) else (if v s.toNat = 0 then 7 else 0)
/-- What each saw behind it. -/
def doesV (n now : Nat) (v : Nat → Nat) (kind s : Int) : Nat → Nat :=
  if doesE n v kind s = 0 then updN v s.toNat (if kind = 3 then 0 else now) else v
theorem doesE_out {n : Nat} {v : Nat → Nat} {kind s : Int} (h : s < 0 ∨ (n : Int) ≤ s) : doesE n v kind s = 1 := by simp [doesE, h]
theorem doesV_out {n now : Nat} {v : Nat → Nat} {kind s : Int} (h : s < 0 ∨ (n : Int) ≤ s) : doesV n now v kind s = v := by simp [doesV, doesE_out h]
theorem doesE_in {n : Nat} {v : Nat → Nat} {kind : Int} {s : Nat} (h : s < n) : doesE n v kind (s : Int) = if kind = 1 then (if v s = 0 then 0 else 8) else (if v s = 0 then 7 else 0) := by
  rw [doesE, if_neg (by omega)]; simp
/-- What the three promise together. -/
def DoesIt (w : World) (B C t n now : Nat) (v : Nat → Nat) (k : Nat) (kind s : Int) (e : Ending) (w' : World) : Prop :=
  e = .returned (.int .i64 (doesE n v kind s)) ∧ (TabIs w' B C t n now (doesV n now v kind s) (k + 1) ∧ Apart B C w w')
theorem TabIs.step {w' : World} {B C t n now k : Nat} {v u : Nat → Nat} {r1 b1 r2 b2 : Nat} {won lost won' lost' : Int} (h : TabAt w' t r1 b1 r2 b2 n now u won' lost') (hB : (B ≤ t ∧ t < C) ∧ (B ≤ r1 ∧ r1 < C) ∧ (B ≤ b1 ∧ b1 < C) ∧ (B ≤ r2 ∧ r2 < C) ∧ (B ≤ b2 ∧ b2 < C))
    (h1 : 0 ≤ won ∧ won ≤ (k : Int)) (h2 : 0 ≤ lost ∧ lost ≤ (k : Int)) (h3 : n ≤ 8) (h4 : 1 ≤ now ∧ now ≤ k + 1) (e1 : won' = won ∨ won' = won + 1) (e2 : lost' = lost ∨ lost' = lost + 1) (hu : u = v) : TabIs w' B C t n now v (k + 1) := by
  subst hu
  exact ⟨r1, b1, r2, b2, won', lost', h, hB, by omega, by omega, h3, by omega⟩
theorem enter_any {w : World} {B C t n now : Nat} {v : Nat → Nat} {k : Nat} (h : TabIs w B C t n now v k) (hk : k ≤ 1000000) (s : Int) :
    Calls Try.prog 20 #[.pointer (some ⟨t, 0, none⟩), .int .i64 s] w (DoesIt w B C t n now v k 1 s) := by
  obtain ⟨r1, b1, r2, b2, won, lost, h, hB, hw, hl, hn, hnow⟩ := h
  by_cases hs : s < 0 ∨ (n : Int) ≤ s
  · refine (enter_no_at h s hs).mono ?_
    rintro e w' ⟨rfl, m, rfl⟩
    exact ⟨by rw [doesE_out hs], TabIs.step (h.drew m) hB hw hl hn hnow (.inl rfl) (.inl rfl) (doesV_out hs).symm, (Apart.refl _ _ _).drewN _⟩
  · obtain ⟨s, rfl⟩ := Int.eq_ofNat_of_zero_le (show 0 ≤ s by omega)
    have hs : s < n := by omega
    by_cases hv : v s = 0
    · refine (enter_new_at h s hs hv (by omega)).mono ?_
      rintro e w' ⟨rfl, h', hb⟩
      have he : doesE n v 1 (s : Int) = 0 := by rw [doesE_in hs]; simp [hv]
      exact ⟨by rw [he], TabIs.step h' hB hw hl hn hnow (.inr rfl) (.inl rfl) (by simp [doesV, he]), hb B C hB.2.2.2.1 hB.2.2.2.2⟩
    · refine (enter_there_at h s hs hv (by omega)).mono ?_
      rintro e w' ⟨rfl, h', hb⟩
      have he : doesE n v 1 (s : Int) = 8 := by rw [doesE_in hs]; simp [hv]
      exact ⟨by rw [he], TabIs.step h' hB hw hl hn hnow (.inl rfl) (.inr rfl) (by simp [doesV, he]), hb B C hB.2.2.2.1⟩
theorem turn_any {w : World} {B C t n now : Nat} {v : Nat → Nat} {k : Nat} (h : TabIs w B C t n now v k) (s : Int) (kind : Int) (h1 : kind ≠ 1) (y : Nat) (hy : y = if kind = 3 then 0 else now) :
    Calls Try.prog 26 #[.pointer (some ⟨t, 0, none⟩), .int .i64 s, .int .u64 (y : Int)] w (DoesIt w B C t n now v k kind s) := by
  obtain ⟨r1, b1, r2, b2, won, lost, h, hB, hw, hl, hn, hnow⟩ := h
  by_cases hs : s < 0 ∨ (n : Int) ≤ s
  · refine (turn_no_at h s hs y).mono ?_
    rintro e w' ⟨rfl, rfl⟩
    exact ⟨by rw [doesE_out hs], TabIs.step h hB hw hl hn hnow (.inl rfl) (.inl rfl) (doesV_out hs).symm, Apart.refl _ _ _⟩
  · obtain ⟨s, rfl⟩ := Int.eq_ofNat_of_zero_le (show 0 ≤ s by omega)
    have hs : s < n := by omega
    by_cases hv : v s = 0
    · refine (turn_none_at h s hs hv y).mono ?_
      rintro e w' ⟨rfl, rfl⟩
      have he : doesE n v kind (s : Int) = 7 := by rw [doesE_in hs]; simp [hv, h1]
      exact ⟨by rw [he], TabIs.step h hB hw hl hn hnow (.inl rfl) (.inl rfl) (by simp [doesV, he]), Apart.refl _ _ _⟩
    · refine (turn_yes_at h s hs hv y).mono ?_
      rintro e w' ⟨rfl, h', hb⟩
      have he : doesE n v kind (s : Int) = 0 := by rw [doesE_in hs]; simp [hv, h1]
      exact ⟨by rw [he], TabIs.step h' hB hw hl hn hnow (.inl rfl) (.inl rfl) (by simp [doesV, he, hy]), hb B C hB.2.2.2.2⟩
theorem refresh_any {w : World} {B C t n now : Nat} {v : Nat → Nat} {k : Nat} (h : TabIs w B C t n now v k) (s : Int) :
    Calls Try.prog 19 #[.pointer (some ⟨t, 0, none⟩), .int .i64 s] w (DoesIt w B C t n now v k 2 s) := by
  have h0 := turn_any h s 2 (by decide) now rfl
  obtain ⟨r1, b1, r2, b2, won, lost, h, rest⟩ := h
  exact refresh_at h s _ _ h0
theorem leave_any {w : World} {B C t n now : Nat} {v : Nat → Nat} {k : Nat} (h : TabIs w B C t n now v k) (s : Int) :
    Calls Try.prog 18 #[.pointer (some ⟨t, 0, none⟩), .int .i64 s] w (DoesIt w B C t n now v k 3 s) :=
  leave_at s _ _ (turn_any h s 3 (by decide) 0 rfl)
theorem bump_any {w : World} {B C t n now : Nat} {v : Nat → Nat} {k : Nat} (h : TabIs w B C t n now v k) (hk : k ≤ 100000) :
    Calls Try.prog 10 #[.pointer (some ⟨t, 0, none⟩)] w fun e w' => e = .returned (.tuple #[.int .u64 (now : Int), .int .i64 0]) ∧ TabIs w' B C t n (now + 1) v (k + 1) ∧ Apart B C w w' := by
  obtain ⟨r1, b1, r2, b2, won, lost, h, hB, hw, hl, hn, hnow⟩ := h
  refine (bump_at h (by omega)).mono ?_
  rintro e w' ⟨rfl, rfl⟩
  exact ⟨rfl, ⟨r1, b1, r2, b2, won, lost, h.bump _, hB, by omega, by omega, hn, by omega⟩, (Apart.refl _ _ _).setCell _ hB.2.2.1 _⟩
theorem now_any {w : World} {B C t n now : Nat} {v : Nat → Nat} {k : Nat} (h : TabIs w B C t n now v k) :
    Calls Try.prog 15 #[.pointer (some ⟨t, 0, none⟩)] w fun e w' => e = .returned (.int .u64 (now : Int)) ∧ w' = w := by
  obtain ⟨r1, b1, r2, b2, won, lost, h, rest⟩ := h
  exact now_at h
theorem seen_any {w : World} {B C t n now : Nat} {v : Nat → Nat} {k : Nat} (h : TabIs w B C t n now v k) (s : Nat) (hs : s < n) :
    Calls Try.prog 14 #[.pointer (some ⟨t, 0, none⟩), .int .i64 (s : Int)] w fun e w' => e = .returned (.int .u64 (v s : Int)) ∧ w' = w := by
  obtain ⟨r1, b1, r2, b2, won, lost, h, rest⟩ := h
  exact seen_at h s hs
theorem seen_no {w : World} {B C t n now : Nat} {v : Nat → Nat} {k : Nat} (h : TabIs w B C t n now v k) (s : Int) (hs : s < 0 ∨ (n : Int) ≤ s) :
    Calls Try.prog 14 #[.pointer (some ⟨t, 0, none⟩), .int .i64 s] w fun e w' => e = .returned (.int .u64 0) ∧ w' = w := by
  obtain ⟨r1, b1, r2, b2, won, lost, h, rest⟩ := h
  exact seen_no_at h s hs
end Go.Proofs.Ytlmkknlcdcajoaa
