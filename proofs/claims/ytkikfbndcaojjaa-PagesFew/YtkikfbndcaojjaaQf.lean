/- The law's does: Open, Close, and what is no call. -/
import Derived.Test.YtkikfbndcaojjaaQe
namespace Go.Proofs.Ytkikfbndcaojjaa
open Go.RowKit
section
variable {B D t m n : Nat} {bits : Int} {c : Nat} {F : Nat → Option Pg} {K : List (Nat × Nat)} {V : Nat → Nat → Int} {w : World}
/-- What is behind a call of does. -/
def DoesE (B t m n : Nat) (bits : Int) (c : Nat) (w : World) (e : Ending) (w' : World) : Prop := e = .returned (.bool true) ∧ (∃ D' F' K' V', Bo B D' t m n bits (c + 1) F' K' V' w') ∧ Below B w w'
def actO (x : AcP) : Obj := .cells #[.int .i64 x.kd, .int .i64 x.pg, .int .u64 (x.a : Int), .int .i64 x.n, .int .u64 x.old, .int .u64 x.wd, .slice x.lo x.ll x.lc] 35
theorem act_made (w : World) (x : AcP) : ActAt (w.alloc (actO x)) w.heap.size 0 x := ⟨by simp [actO], by simp [actO], by simp [actO], by simp [actO], by simp [actO], by simp [actO], by simp [actO]⟩
/-- An address whose page is in, or not. -/
theorem ad_or (n : Nat) (bits : Int) (F : Nat → Option Pg) (a : Nat) : (∃ v, a ≤ 281474976710655 ∧ F (pageN bits a % n) = some (pageN bits a, v)) ∨ (a ≤ 281474976710655 → ∀ v, F (pageN bits a % n) ≠ some (pageN bits a, v)) := by
  by_cases h : ∃ v, a ≤ 281474976710655 ∧ F (pageN bits a % n) = some (pageN bits a, v)
  · exact .inl h
  · exact .inr (fun h1 v h2 => h ⟨v, h1, h2⟩)
theorem run_any (h : Bo B D t m n bits c F K V w) (a : Nat) (ha : a < 18446744073709551616) (k : Int) : Calls Try.prog 26 #[.pointer (some ⟨m, 0, none⟩), .int .u64 (a : Int), .int .i64 k] w fun e w' => ∃ i at' er : Int, e = .returned (.tuple #[.int .i64 i, .int .i64 at', .int .i64 er]) ∧ w' = w := by
  obtain ⟨S, M, vl, h, l⟩ := h
  rcases ad_or n bits F a with ⟨v, h1, h2⟩ | hno
  · obtain ⟨i, hi, e1, e2, -⟩ := l.here h2
    cases hf : fitsB bits a k
    · refine (rb_run_arg h.rb a h1 i hi e1 e2 k hf).mono ?_
      rintro e w' ⟨rfl, rfl⟩; exact ⟨_, _, _, rfl, rfl⟩
    · refine (rb_run_yes h.rb a h1 i hi e1 e2 k hf).mono ?_
      rintro e w' ⟨rfl, rfl⟩; exact ⟨_, _, _, rfl, rfl⟩
  · refine (rb_run_no h.rb a ha (fun hM j hj e => l.goneN (hno hM) j hj e) k).mono ?_
    rintro e w' ⟨rfl, rfl⟩; exact ⟨_, _, _, rfl, rfl⟩
set_option maxRecDepth 10000 in
set_option maxHeartbeats 2000000 in
theorem does_1 (h : Bo B D t m n bits c F K V w) (x : AcP) (hx : AcPOk w x) (hk : x.kd = 1) :
    Calls Try.prog 9 #[.pointer (some ⟨t, 0, none⟩), .pointer (some ⟨m, 0, none⟩), .agg #[.int .i64 x.kd, .int .i64 x.pg, .int .u64 (x.a : Int), .int .i64 x.n, .int .u64 x.old, .int .u64 x.wd, .slice x.lo x.ll x.lc]] w (DoesE B t m n bits c w) := by
  have hB := h.size
  have h1 := h.other (actO x)
  have a1 := act_made w x
  have hb1 := (Below.refl w.heap.size w).alloc (Nat.le_refl _) (actO x)
  have hrun := run_any h1 x.a hx.a 1
  obtain ⟨er, Hf, k1, k2⟩ := open_both (h1.below (below_drewN (Below.refl _ _) 1)) x.pg hx.pg.2
  have hD : ¬ Ow B w.heap.size w.heap.size := fun e => e.2 rfl
  have a1d := a1.below (below_drewN (Below.refl _ _) 1)
  clear hx
  obtain ⟨kd, pg, a, nn, old, wd, lo, ll, lc, z⟩ := x
  simp only at hk hrun k1 k2
  subst hk
  simp only [actO] at *
  have HA := hide a1d
  have HB1 := hide hb1
  obtain ⟨c0, cc1, c2, -, -, -, -⟩ := a1
  simp only [Nat.zero_add] at c0 cc1 c2
  clear h h1 a1d hb1
  unfold DoesE
  go_enter Try.func9, Try.ntmps9
  go_wp2_with fail
  refine hrun.mono ?_
  rintro e y ⟨i, at', er0, rfl, rfl⟩
  go_wp2
  go_region_held3 (fun W => W.cell? ⟨w.heap.size, 1, none⟩ = some (.int .i64 pg)) (first | assumption | go_keep) (first | (go_at_call 15; refine k1.mono ?_; rintro e y1 ⟨rfl, hf1, kk1⟩; have HA1 := hide (HA.out.keep kk1 hD); have q1 := HA1.out.c1; simp only [Nat.zero_add] at q1) | (go_at_call 27; refine (k2 _ hf1).mono ?_; rintro e y2 ⟨rfl, hbo, kk2⟩; have HA2 := hide (HA1.out.keep kk2 hD); have q2 := HA2.out.c1; simp only [Nat.zero_add] at q2))
  all_goals
    have hw : Below B w y2 := (HB1.out.mono hB).trans ((below_drewN (Below.refl _ _) 1).trans ((kk1.below (by simp; omega) (fun k hk => hk.1)).trans (kk2.below (by have := kk1.size; simp at this; omega) (fun k hk => hk.1))))
    obtain ⟨F', K', V', hbo⟩ := hbo
    have hbo2 := hbo.more (Nat.le_succ c)
    go_wp2
    go_ret
    exact ⟨ret_bool (by simp), ⟨_, _, _, _, hbo2⟩, hw⟩
set_option maxRecDepth 10000 in
set_option maxHeartbeats 2000000 in
theorem does_2 (h : Bo B D t m n bits c F K V w) (x : AcP) (hx : AcPOk w x) (hk : x.kd = 2) :
    Calls Try.prog 9 #[.pointer (some ⟨t, 0, none⟩), .pointer (some ⟨m, 0, none⟩), .agg #[.int .i64 x.kd, .int .i64 x.pg, .int .u64 (x.a : Int), .int .i64 x.n, .int .u64 x.old, .int .u64 x.wd, .slice x.lo x.ll x.lc]] w (DoesE B t m n bits c w) := by
  have hB := h.size
  have h1 := h.other (actO x)
  have a1 := act_made w x
  have hb1 := (Below.refl w.heap.size w).alloc (Nat.le_refl _) (actO x)
  have hrun := run_any h1 x.a hx.a 1
  obtain ⟨er, Hf, k1, k2⟩ := close_both (h1.below (below_drewN (Below.refl _ _) 1)) x.pg hx.pg.2
  have hD : ¬ Ow B w.heap.size w.heap.size := fun e => e.2 rfl
  have a1d := a1.below (below_drewN (Below.refl _ _) 1)
  clear hx
  obtain ⟨kd, pg, a, nn, old, wd, lo, ll, lc, z⟩ := x
  simp only at hk hrun k1 k2
  subst hk
  simp only [actO] at *
  have HA := hide a1d
  have HB1 := hide hb1
  obtain ⟨c0, cc1, c2, -, -, -, -⟩ := a1
  simp only [Nat.zero_add] at c0 cc1 c2
  clear h h1 a1d hb1
  unfold DoesE
  go_enter Try.func9, Try.ntmps9
  go_wp2_with fail
  refine hrun.mono ?_
  rintro e y ⟨i, at', er0, rfl, rfl⟩
  go_wp2
  go_region_held3 (fun W => W.cell? ⟨w.heap.size, 1, none⟩ = some (.int .i64 pg)) (first | assumption | go_keep) (first | (go_at_call 16; refine k1.mono ?_; rintro e y1 ⟨rfl, hf1, kk1⟩; have HA1 := hide (HA.out.keep kk1 hD); have q1 := HA1.out.c1; simp only [Nat.zero_add] at q1) | (go_at_call 28; refine (k2 _ hf1).mono ?_; rintro e y2 ⟨rfl, hbo, kk2⟩; have HA2 := hide (HA1.out.keep kk2 hD); have q2 := HA2.out.c1; simp only [Nat.zero_add] at q2))
  all_goals
    have hw : Below B w y2 := (HB1.out.mono hB).trans ((below_drewN (Below.refl _ _) 1).trans ((kk1.below (by simp; omega) (fun k hk => hk.1)).trans (kk2.below (by have := kk1.size; simp at this; omega) (fun k hk => hk.1))))
    obtain ⟨F', K', V', hbo⟩ := hbo
    have hbo2 := hbo.more (Nat.le_succ c)
    go_wp2
    go_ret
    exact ⟨ret_bool (by simp), ⟨_, _, _, _, hbo2⟩, hw⟩
set_option maxRecDepth 10000 in
set_option maxHeartbeats 2000000 in
theorem does_0 (h : Bo B D t m n bits c F K V w) (x : AcP) (hx : AcPOk w x) (hk : ¬ (1 ≤ x.kd ∧ x.kd ≤ 8)) :
    Calls Try.prog 9 #[.pointer (some ⟨t, 0, none⟩), .pointer (some ⟨m, 0, none⟩), .agg #[.int .i64 x.kd, .int .i64 x.pg, .int .u64 (x.a : Int), .int .i64 x.n, .int .u64 x.old, .int .u64 x.wd, .slice x.lo x.ll x.lc]] w (DoesE B t m n bits c w) := by
  have hB := h.size
  have h1 := h.other (actO x)
  have a1 := act_made w x
  have hb1 := (Below.refl w.heap.size w).alloc (Nat.le_refl _) (actO x)
  have hrun := run_any h1 x.a hx.a 1
  have a1d := a1.below (below_drewN (Below.refl _ _) 1)
  clear hx
  obtain ⟨kd, pg, a, nn, old, wd, lo, ll, lc, z⟩ := x
  simp only at hk hrun
  have e1 : (kd == 1) = false := by simp; omega
  have e2 : (kd == 2) = false := by simp; omega
  have e3 : (kd == 3) = false := by simp; omega
  have e4 : (kd == 4) = false := by simp; omega
  have e5 : (kd == 5) = false := by simp; omega
  have e6 : (kd == 6) = false := by simp; omega
  have e7 : (kd == 7) = false := by simp; omega
  have e8 : (kd == 8) = false := by simp; omega
  clear hk
  simp only [actO] at *
  have HA := hide a1d
  have HB1 := hide hb1
  obtain ⟨c0, cc1, c2, -, -, -, -⟩ := a1
  simp only [Nat.zero_add] at c0 cc1 c2
  have HO := hide (h1.more (Nat.le_succ c))
  clear h h1 a1d hb1
  unfold DoesE
  go_enter Try.func9, Try.ntmps9
  go_wp2_with fail
  refine hrun.mono ?_
  rintro e y ⟨i, at', er0, rfl, rfl⟩
  go_wp2
  go_ret
  exact ⟨rfl, ⟨_, _, _, _, HO.out⟩, HB1.out.mono hB⟩
end
end Go.Proofs.Ytkikfbndcaojjaa
