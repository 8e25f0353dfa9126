/- Parts of the proof: Vu Vv. -/
import Derived.Test.YtfghfbmmaclcnaaGreatJ24
namespace Go.Proofs.YtfghfbmmaclcnaaGreat
set_option maxRecDepth 20000
variable {c : Cf} {s : Hs} {k : Nat}
theorem Wf.more (h : Wf c s k) {k' : Nat} (hk : k ≤ k') : Wf c s k' := ⟨h.ord, h.top, h.hp, h.win, h.pg, h.wd, h.off, h.tks, h.tk, h.pgs, h.pl, h.fly, h.fp, Nat.le_trans h.few hk, h.len, h.act⟩
theorem Wf.tailO (h : Wf c s k) (O : Nat) : Wf c { s with O := O } k := ⟨h.ord, h.top, h.hp, h.win, h.pg, h.wd, h.off, h.tks, h.tk, h.pgs, h.pl, h.fly, h.fp, h.few, h.len, h.act⟩
theorem Wf.table (h : Wf c s k) (now : Nat) (v : Nat → Nat) : Wf c { s with now := now, v := v } k := ⟨h.ord, h.top, h.hp, h.win, h.pg, h.wd, h.off, h.tks, h.tk, h.pgs, h.pl, h.fly, h.fp, h.few, h.len, h.act⟩
theorem Wf.marks (h : Wf c s k) {m' : Nat → Nat} (ho : OrdM m') (ht : m' 0 ≤ s.P) (hg : ∀ j, s.m j ≤ m' j) (h2 : m' 2 = s.m 2) : Wf c { s with m := m' } k :=
  ⟨ho, ht, h.hp, by have := h.win; have := hg 4; show s.P < m' 4 + c.n; omega, h.pg, h.wd, h.off, h.tks, h.tk, h.pgs, fun y hy => by have := h.pl y hy; have := hg 1; show 0 ≤ y.p ∧ y.p < (m' 1 : Int); omega, h.fly, fun y hy hl => by show (m' 2 : Int) ≤ y.p; rw [h2]; exact h.fp y hy hl, h.few, h.len, h.act⟩
theorem raise_cases (m : Nat → Nat) (i : Nat) (to T : Int) : raiseV m (i : Int) to T = m ∨ ∃ y : Nat, to = (y : Int) ∧ m i < y ∧ (y : Int) ≤ mostK m i T ∧ raiseV m (i : Int) to T = upM m i y := by
  unfold raiseV
  split
  · rename_i h
    unfold raiseE at h
    simp only [Int.toNat_natCast] at h ⊢
    split at h; · omega
    split at h; · omega
    split at h; · omega
    exact .inr ⟨to.toNat, by omega, by omega, by omega, rfl⟩
  · exact .inl rfl
/-- What a raise keeps. -/
structure Rs (P : Nat) (m m' : Nat → Nat) : Prop where
  ord : OrdM m'
  top : m' 0 ≤ P
  up : ∀ j, m j ≤ m' j
  two : m' 2 = m 2
theorem raise_rs {P : Nat} {m : Nat → Nat} (ho : OrdM m) (ht : m 0 ≤ P) (i : Nat) (hi : i = 0 ∨ i = 1 ∨ i = 3 ∨ i = 4) (to : Int) : Rs P m (raiseV m (i : Int) to (P : Int)) := by
  rcases raise_cases m i to (P : Int) with e | ⟨y, rfl, h1, h2, e⟩
  · rw [e]; exact ⟨ho, ht, fun _ => Nat.le_refl _, rfl⟩
  · rw [e]
    unfold OrdM at ho
    refine ⟨?_, ?_, fun j => ?_, ?_⟩
    · unfold OrdM
      rcases hi with rfl | rfl | rfl | rfl
      all_goals
        simp [mostK] at h2
        simp [upM]
        omega
    · rcases hi with rfl | rfl | rfl | rfl
      all_goals
        simp [mostK] at h2
        simp [upM]
        omega
    · unfold upM
      split
      · rename_i e; subst e; omega
      · exact Nat.le_refl _
    · rcases hi with rfl | rfl | rfl | rfl <;> rfl
theorem settle_rs {P : Nat} {m : Nat → Nat} (ho : OrdM m) (ht : m 0 ≤ P) (l : List A3) : Rs P m (settleM P m l) := by
  induction l using snoc_ind with
  | h0 => exact ⟨ho, ht, fun _ => Nat.le_refl _, rfl⟩
  | h1 l x ih =>
    rw [settleM_snoc]
    have h1 : Rs P (settleM P m l) (raiseV (settleM P m l) (if x.k = 1 then 1 else 4) x.p (P : Int)) := by
      split
      · exact raise_rs ih.ord ih.top 1 (by omega) x.p
      · exact raise_rs ih.ord ih.top 4 (by omega) x.p
    exact ⟨h1.ord, h1.top, fun j => Nat.le_trans (ih.up j) (h1.up j), by rw [h1.two, ih.two]⟩
theorem Wf.settle (h : Wf c s k) : Wf c (settleS c s) k := by
  have hs := settle_rs h.ord h.top (readyL (safeN c s : Int) s.due)
  have h1 := h.marks hs.ord hs.top hs.up hs.two
  exact ⟨h1.ord, h1.top, h1.hp, h1.win, h1.pg, h1.wd, h1.off, h1.tks, h1.tk, h1.pgs, h1.pl, h1.fly, h1.fp, h1.few, Nat.le_trans (restL_length _ _) h.len, fun x hx => h.act x (List.mem_filter.1 hx).1⟩
theorem Wf.shift (h : Wf c s k) (hs : c.sp ≤ 64) (mk kd page : Int) (hm : (mk = 0 ∧ kd = 1) ∨ (mk = 3 ∧ kd = 2)) : Wf c (shiftS c s mk kd page) k := by
  unfold shiftS
  split
  · rename_i he
    unfold shiftE at he
    split at he; · omega
    rename_i hl
    have hpp := shift_page h hs mk page (by omega) he
    have hr : Rs s.P s.m (raiseV s.m mk page (s.P : Int)) := by
      rcases hm with ⟨rfl, -⟩ | ⟨rfl, -⟩
      · exact raise_rs h.ord h.top 0 (by omega) page
      · exact raise_rs h.ord h.top 3 (by omega) page
    have h1 := h.marks hr.ord hr.top hr.up hr.two
    have h2 : Wf c (bumpS s mk kd page) k := ⟨h1.ord, h1.top, h1.hp, h1.win, h1.pg, h1.wd, h1.off, h1.tks, h1.tk, h1.pgs, h1.pl, h1.fly, h1.fp, h1.few, by simp [bumpS]; omega, fun x hx => by
      rcases List.mem_append.1 hx with hx | hx
      · exact h.act x hx
      · rw [List.mem_singleton.1 hx]
        exact ⟨by simp only; omega, hpp⟩⟩
    exact h2.settle
  · exact h
theorem pgW_some {p : Int} {v : Nat → Int} (h : pgW c s p = some v) : 0 ≤ p ∧ s.F (p.toNat % c.n) = some (p.toNat, v) := by
  unfold pgW at h
  split at h
  · cases h
  · refine ⟨by omega, ?_⟩
    split at h
    · rename_i x hx
      split at h
      · rename_i e
        cases h
        rw [hx]
        obtain ⟨x1, x2⟩ := x
        simp only at e
        rw [e]
      · cases h
    · cases h
theorem ask_app {d : Dv} {b : Bk} {s : ByteArray} (h : askE d b true s = 0) : askD d b true s = { d with jobs := d.jobs ++ [⟨b, true, s, false, 0⟩] } := by unfold askD; rw [if_pos h]
theorem Wf.flush (h : Wf c s k) (p : Int) : Wf c (flushS c s p) (k + 1) := by
  unfold flushS
  split
  · rename_i he
    cases hp : pgW c s p with
    | none => exact h.more (Nat.le_succ k)
    | some v =>
      have he' := he
      unfold flushE at he
      split at he; · omega
      rename_i g0
      split at he; · omega
      rename_i g1
      split at he; · omega
      rename_i g2
      rw [hp] at he
      simp only at he
      have g1' : ¬ p < (s.m 2 : Int) ∧ ¬ sentB s.L p = true := ⟨fun e => g1 (.inl e), fun e => g1 (.inr e)⟩
      simp only
      rw [ask_app he]
      refine ⟨h.ord, h.top, h.hp, h.win, h.pg, h.wd, h.off, ?_, ?_, ?_, ?_, ?_, ?_, ?_, h.len, h.act⟩
      · refine List.pairwise_append.2 ⟨h.tks, by simp, fun x hx y hy => ?_⟩
        rw [List.mem_singleton.1 hy]
        have := h.tk x hx
        simp only; omega
      · intro y hy
        simp only [List.length_append, List.length_singleton]
        rcases List.mem_append.1 hy with hy | hy
        · have := h.tk y hy; omega
        · rw [List.mem_singleton.1 hy]; simp only; omega
      · refine List.pairwise_append.2 ⟨h.pgs, by simp, fun x hx y hy => ?_⟩
        rw [List.mem_singleton.1 hy]
        exact fun e => g1'.2 (sentB_iff.2 ⟨x, hx, e⟩)
      · intro y hy
        rcases List.mem_append.1 hy with hy | hy
        · exact h.pl y hy
        · rw [List.mem_singleton.1 hy]; simp only; omega
      · intro y hy hl
        simp only
        rcases List.mem_append.1 hy with hy | hy
        · obtain ⟨j, h1, h2, h3⟩ := h.fly y hy hl
          refine ⟨j, ?_, h2, h3⟩
          rw [jobAt_snoc, if_neg (by have := h.tk y hy; omega)]
          exact h1
        · rw [List.mem_singleton.1 hy]
          refine ⟨⟨(0, p), true, txt c p.toNat v, false, 0⟩, ?_, .inl rfl, rfl, rfl⟩
          simp only
          rw [jobAt_snoc, if_pos rfl]
      · intro y hy hl
        rcases List.mem_append.1 hy with hy | hy
        · exact h.fp y hy hl
        · rw [List.mem_singleton.1 hy]; simp only; omega
      · simp only [List.length_append, List.length_singleton]
        have := h.few; omega
  · exact h.more (Nat.le_succ k)
theorem Wf.help (h : Wf c s k) (hs : c.sp ≤ 64) : Wf c (helpR c s).2 (k + 1) := by
  unfold helpR
  split
  · exact h.more (Nat.le_succ k)
  split
  · exact h.more (Nat.le_succ k)
  split
  · exact (h.shift hs 3 2 _ (.inr ⟨rfl, rfl⟩)).more (Nat.le_succ k)
  split
  · split
    · exact h.flush _
    · exact h.more (Nat.le_succ k)
  split
  · exact (h.shift hs 0 1 _ (.inl ⟨rfl, rfl⟩)).more (Nat.le_succ k)
  · exact h.more (Nat.le_succ k)
theorem Wf.next (h : Wf c s k) (hl : ¬ c.sp ≤ s.P + 1) (hg : ¬ s.m 4 < needN c s) (hn : 2 ≤ c.n) : Wf c (nextS c s) k := by
  have hne : needN c s = s.P + 2 - c.n := rfl
  have hmod : ∀ p, (s.P + 1) % c.n = p % c.n → s.P + 1 < p + c.n → p ≤ s.P + 1 → p = s.P + 1 := fun p e h1 h2 => by
    have h3 : (s.P + 1 - p) % c.n = 0 := (Nat.sub_mod_eq_zero_of_mod_eq e)
    rw [Nat.mod_eq_of_lt (by omega)] at h3
    omega
  refine ⟨h.ord, by have := h.top; show s.m 0 ≤ s.P + 1; omega, by show s.P + 1 < c.sp; omega, by show s.P + 1 < s.m 4 + c.n; omega, fun p => ?_, fun i p v hi hF j hj => ?_, h.off, h.tks, h.tk, h.pgs, h.pl, h.fly, h.fp, h.few, h.len, h.act⟩
  · show (∃ v, updF s.F ((s.P + 1) % c.n) (some (s.P + 1, fun _ => 0)) (p % c.n) = some (p, v)) ↔ p ≤ s.P + 1 ∧ s.P + 1 < p + c.n
    by_cases e : p % c.n = (s.P + 1) % c.n
    · rw [e, updF_same]
      constructor
      · rintro ⟨v, hv⟩
        cases hv
        omega
      · rintro ⟨h1, h2⟩
        have := hmod p e.symm h2 h1
        subst this
        exact ⟨_, rfl⟩
    · rw [updF_other _ _ e]
      rw [h.pg p]
      constructor
      · rintro ⟨h1, h2⟩
        refine ⟨by omega, ?_⟩
        by_cases e2 : s.P + 1 = p + c.n
        · exact absurd (by rw [e2, Nat.add_mod_right]) e
        · omega
      · rintro ⟨h1, h2⟩
        refine ⟨?_, by omega⟩
        by_cases e2 : p = s.P + 1
        · exact absurd (by rw [e2]) e
        · omega
  · have hF' : updF s.F ((s.P + 1) % c.n) (some (s.P + 1, fun _ => 0)) i = some (p, v) := hF
    by_cases e : i = (s.P + 1) % c.n
    · subst e
      rw [updF_same] at hF'
      cases hF'
      exact (show (0 : Int) ≤ 0 ∧ (0 : Int) < 18446744073709551616 by omega)
    · rw [updF_other _ _ e] at hF'
      exact h.wd i p v hi hF' j hj
theorem Wf.go (h : Wf c s k) (hc : CfOk c) : Wf c (goS c s) (k + 1) := by
  unfold goS
  split
  · exact h.more (Nat.le_succ k)
  split
  · exact h.help hc.hs.2
  · rename_i h1 h2
    exact (h.next h1 h2 hc.hn.1).more (Nat.le_succ k)
theorem Wf.turn (h : Wf c s k) (hc : CfOk c) : Wf c (turnHS c s) (k + 1) := by
  unfold turnHS
  split
  · exact h.more (Nat.le_succ k)
  · exact h.go hc
theorem Wf.close (h : Wf c s k) (hc : CfOk c) : Wf c (closeHS c s) (k + 1) := by
  unfold closeHS
  split
  · exact h.more (Nat.le_succ k)
  · exact h.go hc
/-- What a call does to the device's jobs. -/
theorem takeD_len (d : Dv) (t : Int) : (takeD d t).jobs.length = d.jobs.length := by
  unfold takeD
  split
  · rfl
  split
  · rfl
  split
  · simp
  · rfl
theorem takeD_off (d : Dv) (t : Int) : (takeD d t).off = d.off := by
  unfold takeD
  split
  · rfl
  split
  · rfl
  split <;> rfl
theorem dvK_keep (Y : List Fy) : ∀ (d : Dv), (dvK d Y).jobs.length = d.jobs.length ∧ (dvK d Y).off = d.off := by
  induction Y with
  | nil => intro d; exact ⟨rfl, rfl⟩
  | cons y Y ih =>
    intro d
    have := ih (takeD d y.t)
    rw [takeD_len, takeD_off] at this
    exact this
theorem takeD_busyJob {d : Dv} {t u : Int} {j : Job} (h : jobAt d.jobs t = some j) (h0 : j.st = 0) : jobAt (takeD d u).jobs t = some j := by
  unfold takeD
  split
  · exact h
  split
  · exact h
  · rename_i j' hj'
    split
    · rename_i h1
      obtain ⟨g1, g2, -⟩ := jobAt_lt hj'
      simp only
      rw [jobAt_set _ _ _ g1 g2]
      split
      · rename_i e
        subst e
        rw [h] at hj'
        cases hj'
        omega
      · exact h
    · exact h
theorem dvK_busyJob {t : Int} {j : Job} (h0 : j.st = 0) (Y : List Fy) : ∀ (d : Dv), jobAt d.jobs t = some j → jobAt (dvK d Y).jobs t = some j := by
  induction Y with
  | nil => intro d h; exact h
  | cons y Y ih => intro d h; exact ih _ (takeD_busyJob h h0)
theorem upTo_le (L : List Fy) (M : Nat) (hM : ∀ p : Nat, isL L (p : Int) true = true → p < M) : ∀ (f a : Nat), a ≤ M → upTo L a f ≤ M ∧ a ≤ upTo L a f
  | 0, a, h => ⟨h, Nat.le_refl _⟩
  | f + 1, a, h => by
    unfold upTo
    split
    · rename_i e
      have := upTo_le L M hM f (a + 1) (hM a e)
      omega
    · exact ⟨h, Nat.le_refl _⟩
theorem upTo_in (L : List Fy) : ∀ (f a : Nat) (p : Nat), a ≤ p → p < upTo L a f → isL L (p : Int) true = true
  | 0, a, p, h1, h2 => by unfold upTo at h2; omega
  | f + 1, a, p, h1, h2 => by
    unfold upTo at h2
    split at h2
    · rename_i e
      by_cases e2 : p = a
      · subst e2; exact e
      · exact upTo_in L f (a + 1) p (by omega) h2
    · omega
theorem landL_from {d : Dv} {L : List Fy} {y : Fy} (h : y ∈ landL d L) : ∃ z ∈ L, z.t = y.t ∧ z.p = y.p ∧ (y.l = false → z.l = false ∧ tookB d z = false) := by
  unfold landL at h
  obtain ⟨z, hz, rfl⟩ := List.mem_map.1 h
  unfold landY
  cases e : tookB d z with
  | true => exact ⟨z, hz, rfl, rfl, fun h => by simp at h⟩
  | false => exact ⟨z, hz, rfl, rfl, fun h => ⟨by simpa using h, e⟩⟩
theorem Wf.land (h : Wf c s k) (hs : c.sp ≤ 64) : Wf c (landS s) k := by
  have hm1 : s.m 1 ≤ 64 := by have := h.ord; unfold OrdM at this; have := h.top; have := h.hp; omega
  have hle : ∀ p : Nat, isL (landL s.dv s.L) (p : Int) true = true → p < s.m 1 := fun p e => by
    obtain ⟨y, hy, h1, -⟩ := isL_iff.1 e
    obtain ⟨z, hz, -, h2, -⟩ := landL_from hy
    have := h.pl z hz
    omega
  have hord := h.ord
  unfold OrdM at hord
  obtain ⟨hu1, hu2⟩ := upTo_le (landL s.dv s.L) (s.m 1) hle 64 (s.m 2) (by omega)
  have hui := upTo_in (landL s.dv s.L) 64 (s.m 2)
  have hk := dvK_keep (flyL s.L) s.dv
  have hD : landD s.dv s.L = dvK s.dv (flyL s.L) := landD_is _ _
  refine ⟨?_, h.top, h.hp, h.win, h.pg, h.wd, ?_, landL_tks h.tks, ?_, ?_, ?_, ?_, ?_, ?_, h.len, h.act⟩
  · show OrdM (upM s.m 2 _)
    unfold OrdM
    simp [upM]
    omega
  · show (landD s.dv s.L).off = false
    rw [hD, hk.2]; exact h.off
  · intro y hy
    obtain ⟨z, hz, h1, -, -⟩ := landL_from hy
    show 1 ≤ y.t ∧ y.t ≤ ((landD s.dv s.L).jobs.length : Int)
    rw [hD, hk.1, ← h1]
    exact h.tk z hz
  · show (landL s.dv s.L).Pairwise _
    unfold landL
    rw [List.pairwise_map]
    refine h.pgs.imp (fun {x y} e => ?_)
    unfold landY
    split <;> split <;> exact e
  · intro y hy
    obtain ⟨z, hz, -, h2, -⟩ := landL_from hy
    rw [← h2]
    exact h.pl z hz
  · intro y hy hl
    obtain ⟨z, hz, h1, -, h3⟩ := landL_from hy
    obtain ⟨hz1, hz2⟩ := h3 hl
    obtain ⟨j, g1, g2, g3⟩ := h.fly z hz hz1
    have hst : j.st = 0 := by
      rcases g2 with g2 | g2
      · exact g2
      · exfalso
        have e2 : takeE s.dv z.t = 0 := by
          unfold takeE
          rw [if_neg (by rw [h.off]; decide)]
          have e3 : fl s.dv.jobs z.t = none := by unfold fl; rw [g1]; simp [g2]
          have e4 : an s.dv.jobs z.t = some j.s := by unfold an; rw [g1]; simp [g2, g3.1]
          rw [e3, e4]; rfl
        unfold tookB at hz2
        rw [hz1, e2] at hz2
        simp at hz2
    refine ⟨j, ?_, .inl hst, g3⟩
    show jobAt (landD s.dv s.L).jobs y.t = some j
    rw [hD, ← h1]
    exact dvK_busyJob hst _ _ g1
  · intro y hy hl
    obtain ⟨z, hz, h1, h2, h3⟩ := landL_from hy
    show ((upM s.m 2 (upTo (landL s.dv s.L) (s.m 2) 64) 2 : Nat) : Int) ≤ y.p
    rw [upM_same]
    have hp := h.fp z hz (h3 hl).1
    have h0 := (h.pl z hz).1
    by_cases e : y.p < (upTo (landL s.dv s.L) (s.m 2) 64 : Nat)
    · exfalso
      have hin := hui y.p.toNat (by omega) (by omega)
      obtain ⟨u, hu, q1, q2⟩ := isL_iff.1 hin
      have q3 : u.p = y.p := by omega
      have : u = y := by
        have hpg : (landL s.dv s.L).Pairwise (fun x y => x.p ≠ y.p) := by
          unfold landL
          rw [List.pairwise_map]
          refine h.pgs.imp (fun {x y} e => ?_)
          unfold landY
          split <;> split <;> exact e
        rcases List.mem_iff_getElem.1 hu with ⟨i, hi, rfl⟩
        rcases List.mem_iff_getElem.1 hy with ⟨j, hj, rfl⟩
        rw [List.pairwise_iff_getElem] at hpg
        rcases Nat.lt_trichotomy i j with e' | e' | e'
        · exact absurd q3 (hpg i j hi hj e')
        · subst e'; rfl
        · exact absurd q3.symm (hpg j i hj hi e')
      rw [this, hl] at q2
      cases q2
    · omega
  · show (landD s.dv s.L).jobs.length ≤ k
    rw [hD, hk.1]; exact h.few
end Go.Proofs.YtfghfbmmaclcnaaGreat
namespace Go.Proofs.YtfghfbmmaclcnaaGreat
set_option maxRecDepth 20000
variable {c : Cf} {s : Hs} {k : Nat}
theorem Wf.new (hc : CfOk c) : Wf c (hs0 c dv0) 0 := by
  have hn := hc.hn
  refine ⟨by unfold OrdM; exact ⟨Nat.le_refl _, Nat.le_refl _, Nat.le_refl _, Nat.le_refl _⟩, Nat.le_refl _, by have := hc.hs; show 0 < c.sp; omega, by show 0 < 0 + c.n; omega, fun p => ?_, fun i p v hi hF j hj => ?_, rfl, List.Pairwise.nil, (fun y hy => by cases hy), List.Pairwise.nil, (fun y hy => by cases hy), (fun y hy => by cases hy), (fun y hy => by cases hy), Nat.le_refl _, Nat.zero_le _, (fun x hx => by cases hx)⟩
  · show (∃ v, updF (fun _ => none) (0 % c.n) (some (0, fun _ => 0)) (p % c.n) = some (p, v)) ↔ p ≤ 0 ∧ 0 < p + c.n
    by_cases e : p % c.n = 0 % c.n
    · rw [e, updF_same]
      constructor
      · rintro ⟨v, hv⟩
        cases hv
        omega
      · rintro ⟨h1, -⟩
        have : p = 0 := by omega
        subst this
        exact ⟨_, rfl⟩
    · rw [updF_other _ _ e]
      constructor
      · rintro ⟨v, hv⟩; cases hv
      · rintro ⟨h1, -⟩
        have : p = 0 := by omega
        exact absurd (by rw [this]) e
  · have hF' : updF (fun _ => none) (0 % c.n) (some (0, fun _ => 0)) i = some (p, v) := hF
    unfold updF at hF'
    split at hF'
    · cases hF'
      exact (show (0 : Int) ≤ 0 ∧ (0 : Int) < 18446744073709551616 by omega)
    · cases hF'
theorem doD_len (d : Dv) (x : Int) : (doD d x).jobs.length = d.jobs.length := by
  unfold doD
  split
  · rfl
  split
  · rfl
  split
  · simp
  · rfl
theorem doD_off (d : Dv) (x : Int) : (doD d x).off = d.off := by
  unfold doD
  split
  · rfl
  split
  · rfl
  split <;> rfl
theorem doD_job (d : Dv) (x t : Int) : jobAt (doD d x).jobs t = jobAt d.jobs t ∨ (t = x ∧ ∃ j, jobAt d.jobs t = some j ∧ j.st = 0 ∧ jobAt (doD d x).jobs t = some (doneJ d j)) := by
  unfold doD
  split
  · exact .inl rfl
  split
  · exact .inl rfl
  · rename_i j hj
    split
    · rename_i h0
      obtain ⟨g1, g2, -⟩ := jobAt_lt hj
      simp only
      rw [jobAt_set _ _ _ g1 g2]
      by_cases e : t = x
      · subst e
        rw [if_pos rfl]
        exact .inr ⟨rfl, j, hj, h0, rfl⟩
      · rw [if_neg e]
        exact .inl rfl
    · exact .inl rfl
theorem Wf.do (h : Wf c s k) (x : Int) : Wf c { s with dv := doD s.dv x } k := by
  refine ⟨h.ord, h.top, h.hp, h.win, h.pg, h.wd, by show (doD s.dv x).off = false; rw [doD_off]; exact h.off, h.tks, fun y hy => ?_, h.pgs, h.pl, fun y hy hl => ?_, h.fp, ?_, h.len, h.act⟩
  · show 1 ≤ y.t ∧ y.t ≤ ((doD s.dv x).jobs.length : Int)
    rw [doD_len]; exact h.tk y hy
  · obtain ⟨j, g1, g2, g3, g4⟩ := h.fly y hy hl
    show ∃ j, jobAt (doD s.dv x).jobs y.t = some j ∧ (j.st = 0 ∨ j.st = 1) ∧ j.no = false ∧ j.wr = true
    rcases doD_job s.dv x y.t with e | ⟨-, j', e1, -, e2⟩
    · rw [e]; exact ⟨j, g1, g2, g3, g4⟩
    · rw [g1] at e1
      cases e1
      rw [e2]
      refine ⟨_, rfl, .inr ?_, ?_, ?_⟩
      · unfold doneJ; split <;> rfl
      · unfold doneJ; rw [if_pos g4]; exact g3
      · unfold doneJ; rw [if_pos g4]; exact g4
  · show (doD s.dv x).jobs.length ≤ k
    rw [doD_len]; exact h.few
theorem Wf.store (h : Wf c s k) {i p : Nat} {v : Nat → Int} (hi : i < c.n) (hF : s.F i = some (p, v)) (hpi : p % c.n = i) (j : Nat) (x : Int) (hx : 0 ≤ x ∧ x < 18446744073709551616) : Wf c { s with F := updF s.F i (some (p, updV v j x)) } k := by
  refine ⟨h.ord, h.top, h.hp, h.win, fun q => ?_, fun i' p' v' hi' hF' j' hj' => ?_, h.off, h.tks, h.tk, h.pgs, h.pl, h.fly, h.fp, h.few, h.len, h.act⟩
  · show (∃ u, updF s.F i (some (p, updV v j x)) (q % c.n) = some (q, u)) ↔ _
    rw [← h.pg q]
    by_cases e : q % c.n = i
    · rw [e, updF_same]
      constructor
      · rintro ⟨u, hu⟩; cases hu; exact ⟨v, hF⟩
      · rintro ⟨u, hu⟩; rw [hF] at hu; cases hu; exact ⟨_, rfl⟩
    · rw [updF_other _ _ e]
  · have hF2 : updF s.F i (some (p, updV v j x)) i' = some (p', v') := hF'
    by_cases e : i' = i
    · subst e
      rw [updF_same] at hF2
      cases hF2
      unfold updV
      split
      · exact hx
      · exact h.wd _ p v hi hF j' hj'
    · rw [updF_other _ _ e] at hF2
      exact h.wd i' p' v' hi' hF2 j' hj'
end Go.Proofs.YtfghfbmmaclcnaaGreat
