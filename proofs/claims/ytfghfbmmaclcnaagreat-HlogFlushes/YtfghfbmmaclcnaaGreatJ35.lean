/- Parts of the proof: Lb. -/
import Derived.Test.YtfghfbmmaclcnaaGreatJ32
namespace Go.Proofs.YtfghfbmmaclcnaaGreat
set_option maxRecDepth 20000
variable {c : Cf} {s : Hs} {k : Nat} {KW KW' : Nat → Nat → Int}
theorem jobAt_some {l : List Job} {t : Int} (h1 : 1 ≤ t) (h2 : t ≤ l.length) : ∃ j, jobAt l t = some j := by
  unfold jobAt
  rw [if_pos h1, List.getElem?_eq_getElem (by omega)]
  exact ⟨_, rfl⟩
/-- What a Take leaves of a job. -/
def SmJ (d d' : Dv) : Prop := d'.items = d.items ∧ ∀ u j', jobAt d'.jobs u = some j' → ∃ j, jobAt d.jobs u = some j ∧ j'.b = j.b ∧ j'.wr = j.wr ∧ j'.s = j.s ∧ (j'.st = 0 ↔ j.st = 0)
theorem SmJ.refl (d : Dv) : SmJ d d := ⟨rfl, fun _ j h => ⟨j, h, rfl, rfl, rfl, Iff.rfl⟩⟩
theorem SmJ.trans {d1 d2 d3 : Dv} (h : SmJ d1 d2) (g : SmJ d2 d3) : SmJ d1 d3 := by
  refine ⟨g.1.trans h.1, fun u j hj => ?_⟩
  obtain ⟨j2, e2, b2, w2, s2, t2⟩ := g.2 u j hj
  obtain ⟨j1, e1, b1, w1, s1, t1⟩ := h.2 u j2 e2
  exact ⟨j1, e1, b2.trans b1, w2.trans w1, s2.trans s1, t2.trans t1⟩
theorem takeD_sm (d : Dv) (t : Int) : SmJ d (takeD d t) := by
  unfold takeD
  split
  · exact SmJ.refl d
  split
  · exact SmJ.refl d
  · rename_i j hj
    split
    · rename_i h1
      obtain ⟨g1, g2, -⟩ := jobAt_lt hj
      refine ⟨rfl, fun u j' hj' => ?_⟩
      simp only at hj'
      rw [jobAt_set _ _ _ g1 g2] at hj'
      split at hj'
      · rename_i e
        subst e
        cases hj'
        exact ⟨j, hj, rfl, rfl, rfl, by simp only; omega⟩
      · exact ⟨j', hj', rfl, rfl, rfl, Iff.rfl⟩
    · exact SmJ.refl d
theorem dvK_sm (Y : List Fy) : ∀ d, SmJ d (dvK d Y) := by
  induction Y with
  | nil => intro d; exact SmJ.refl d
  | cons y Y ih => intro d; exact (takeD_sm d y.t).trans (ih _)
theorem txt_congr {p : Nat} {v v' : Nat → Int} (h : ∀ j, j < sizeN c.b → v j = v' j) : txt c p v = txt c p v' := by
  have key : ∀ n, n ≤ sizeN c.b → listN (fun j => (v j).toNat) n = listN (fun j => (v' j).toNat) n := fun n hn => by
    unfold listN
    refine List.map_congr_left (fun j hj => ?_)
    rw [h j (by have := List.mem_range.1 hj; omega)]
  unfold txt
  rw [key _ (Nat.le_refl _)]
/-- KW tells of each safe page its words. -/
structure Fk (c : Cf) (s : Hs) (KW : Nat → Nat → Int) : Prop where
  pg : ∀ p v, p < s.m 1 → s.F (p % c.n) = some (p, v) → ∀ j, j < sizeN c.b → v j = KW p j
  bd : ∀ p, p < s.m 1 → ∀ j, j < sizeN c.b → 0 ≤ KW p j ∧ KW p j < 18446744073709551616
  jy : ∀ t jb, jobAt s.dv.jobs t = some jb → ∃ y ∈ s.L, y.t = t
  yj : ∀ y ∈ s.L, ∀ jb, jobAt s.dv.jobs y.t = some jb → jb.wr = true ∧ jb.b = (0, y.p) ∧ (jb.st = 0 → jb.s = txt c y.p.toNat (KW y.p.toNat)) ∧ (jb.st ≠ 0 → lookL s.dv.items (0, y.p) = some (txt c y.p.toNat (KW y.p.toNat)))
  ld : ∀ y ∈ s.L, y.l = true → lookL s.dv.items (0, y.p) = some (txt c y.p.toNat (KW y.p.toNat))
  fl : ∀ p : Nat, p < s.m 2 → lookL s.dv.items (0, (p : Int)) = some (txt c p (KW p))
/-- Other words of pages that are not safe. -/
theorem Fk.congr (h : Fk c s KW) (hw : Wf c s k) (e : ∀ p, p < s.m 1 → ∀ j, j < sizeN c.b → KW' p j = KW p j) : Fk c s KW' := by
  have ho := hw.ord
  unfold OrdM at ho
  have te : ∀ y ∈ s.L, txt c y.p.toNat (KW' y.p.toNat) = txt c y.p.toNat (KW y.p.toNat) := fun y hy => txt_congr (e _ (by have := hw.pl y hy; omega))
  refine ⟨fun p v hp hF j hj => ?_, fun p hp j hj => ?_, h.jy, fun y hy jb hj => ?_, fun y hy hl => ?_, fun p hp => ?_⟩
  · rw [e p hp j hj]; exact h.pg p v hp hF j hj
  · rw [e p hp j hj]; exact h.bd p hp j hj
  · rw [te y hy]; exact h.yj y hy jb hj
  · rw [te y hy]; exact h.ld y hy hl
  · rw [txt_congr (e p (by omega))]; exact h.fl p hp
/-- What does not touch pages, device and writes under way; the mark of what is safe may rise. -/
theorem Fk.marks (h : Fk c s KW) {s' : Hs} (e2 : s'.m 2 = s.m 2) (eF : s'.F = s.F) (ed : s'.dv = s.dv) (eL : s'.L = s.L) (hpg : ∀ p v, s.m 1 ≤ p → p < s'.m 1 → s.F (p % c.n) = some (p, v) → ∀ j, j < sizeN c.b → v j = KW p j)
    (hbd : ∀ p, s.m 1 ≤ p → p < s'.m 1 → ∀ j, j < sizeN c.b → 0 ≤ KW p j ∧ KW p j < 18446744073709551616) : Fk c s' KW := by
  refine ⟨fun p v hp hF j hj => ?_, fun p hp j hj => ?_, by rw [ed, eL]; exact h.jy, by rw [ed, eL]; exact h.yj, by rw [ed, eL]; exact h.ld, by rw [e2, ed]; exact h.fl⟩
  · rw [eF] at hF
    by_cases g : p < s.m 1
    · exact h.pg p v g hF j hj
    · exact hpg p v (by omega) hp hF j hj
  · by_cases g : p < s.m 1
    · exact h.bd p g j hj
    · exact hbd p (by omega) hp j hj
/-- Other pages, where none is safe. -/
theorem Fk.pages (h : Fk c s KW) {s' : Hs} (em : s'.m = s.m) (ed : s'.dv = s.dv) (eL : s'.L = s.L) (eF : ∀ p v, p < s.m 1 → s'.F (p % c.n) = some (p, v) → s.F (p % c.n) = some (p, v)) : Fk c s' KW :=
  ⟨by rw [em]; exact fun p v hp hF j hj => h.pg p v hp (eF p v hp hF) j hj, by rw [em]; exact h.bd, by rw [ed, eL]; exact h.jy, by rw [ed, eL]; exact h.yj, by rw [ed, eL]; exact h.ld, by rw [em, ed]; exact h.fl⟩
theorem Fk.next (h : Fk c s KW) (hw : Wf c s k) : Fk c (nextS c s) KW := by
  have h1 := hw.ord
  have h2 := hw.top
  unfold OrdM at h1
  refine h.pages rfl rfl rfl (fun p v hp hF => ?_)
  have hF' : updF s.F ((s.P + 1) % c.n) (some (s.P + 1, fun _ => 0)) (p % c.n) = some (p, v) := hF
  by_cases e : p % c.n = (s.P + 1) % c.n
  · rw [e, updF_same] at hF'
    cases hF'
    omega
  · rw [updF_other _ _ e] at hF'
    exact hF'
theorem Fk.word (h : Fk c s KW) (A : Nat) (W : Int) (hA : s.m 1 ≤ pageN c.b A) : Fk c (wordS c s A W) KW := by
  unfold wordS
  split
  · refine h.pages rfl rfl rfl (fun p v hp hF => ?_)
    rename_i v0 _
    have hF' : updF s.F (pageN c.b A % c.n) (some (pageN c.b A, updV v0 (offN c.b A) W)) (p % c.n) = some (p, v) := hF
    by_cases e : p % c.n = pageN c.b A % c.n
    · rw [e, updF_same] at hF'
      cases hF'
      omega
    · rw [updF_other _ _ e] at hF'
      exact hF'
  · exact h
theorem Fk.flush (h : Fk c s KW) (hw : Wf c s k) (p : Int) : Fk c (flushS c s p) KW := by
  unfold flushS
  split
  · rename_i he
    cases hp : pgW c s p with
    | none => exact h
    | some v =>
      obtain ⟨p0, hF⟩ := pgW_some hp
      unfold flushE at he
      split at he; · omega
      split at he; · omega
      split at he; · omega
      rename_i g2
      rw [hp] at he
      simp only at he
      have e1 : txt c p.toNat v = txt c p.toNat (KW p.toNat) := txt_congr (h.pg p.toNat v (by omega) hF)
      simp only
      rw [ask_app he]
      refine ⟨h.pg, h.bd, fun t jb hj => ?_, fun y hy jb hj => ?_, fun y hy hl => ?_, h.fl⟩
      · simp only at hj ⊢
        rw [jobAt_snoc] at hj
        split at hj
        · rename_i e
          exact ⟨_, List.mem_append_right _ (List.mem_singleton.2 rfl), e.symm⟩
        · obtain ⟨y, hy, e⟩ := h.jy t jb hj
          exact ⟨y, List.mem_append_left _ hy, e⟩
      · simp only at hj ⊢
        rw [jobAt_snoc] at hj
        rcases List.mem_append.1 hy with hy | hy
        · rw [if_neg (by have := hw.tk y hy; omega)] at hj
          exact h.yj y hy jb hj
        · have hy := List.mem_singleton.1 hy
          subst hy
          simp only at hj ⊢
          rw [if_pos trivial] at hj
          cases hj
          exact ⟨rfl, rfl, fun _ => e1, fun e => absurd rfl e⟩
      · simp only at hl ⊢
        rcases List.mem_append.1 hy with hy | hy
        · exact h.ld y hy hl
        · rw [List.mem_singleton.1 hy] at hl; cases hl
  · exact h
theorem Fk.do (h : Fk c s KW) (hw : Wf c s k) (x : Int) : Fk c { s with dv := doD s.dv x } KW := by
  unfold doD
  split
  · exact h
  split
  · exact h
  · rename_i j hj
    split
    · rename_i h0
      obtain ⟨g1, g2, -⟩ := jobAt_lt hj
      obtain ⟨y, hy, hyt⟩ := h.jy x j hj
      obtain ⟨k1, k2, k3, -⟩ := h.yj y hy j (by rw [hyt]; exact hj)
      have k4 := k3 h0
      have hpl := hw.pl y hy
      have keep : ∀ p : Int, 0 ≤ p → lookL s.dv.items (0, p) = some (txt c p.toNat (KW p.toNat)) → lookL (if j.wr = true then lay j.b j.s s.dv.items else s.dv.items) (0, p) = some (txt c p.toNat (KW p.toNat)) := fun p hp e => by
        rw [if_pos k1, lookL_lay, k2]
        split
        · rename_i e2
          cases e2
          rw [k4]
        · exact e
      refine ⟨h.pg, h.bd, fun t jb ht => ?_, fun z hz jb ht => ?_, fun z hz hl => keep _ (hw.pl z hz).1 (h.ld z hz hl), fun p hp => ?_⟩
      · simp only at ht
        rw [jobAt_set _ _ _ g1 g2] at ht
        split at ht
        · rename_i e; exact ⟨y, hy, by rw [hyt, e]⟩
        · exact h.jy t jb ht
      · simp only at ht ⊢
        rw [jobAt_set _ _ _ g1 g2] at ht
        split at ht
        · rename_i e
          obtain ⟨q1, q2, q3, -⟩ := h.yj z hz j (by rw [e]; exact hj)
          cases ht
          refine ⟨?_, ?_, fun e => ?_, fun _ => ?_⟩
          · unfold doneJ; rw [if_pos k1]; exact k1
          · unfold doneJ; rw [if_pos k1]; exact q2
          · unfold doneJ at e; rw [if_pos k1] at e; simp at e
          · rw [if_pos k1, lookL_lay, if_pos q2.symm, q3 h0]
        · obtain ⟨q1, q2, q3, q4⟩ := h.yj z hz jb ht
          exact ⟨q1, q2, q3, fun e => keep _ (hw.pl z hz).1 (q4 e)⟩
      · have := keep (p : Int) (by omega) (h.fl p hp)
        simpa using this
    · exact h
theorem Fk.land (h : Fk c s KW) (hw : Wf c s k) : Fk c (landS s) KW := by
  have hsm := dvK_sm (flyL s.L) s.dv
  rw [← landD_is] at hsm
  have e1 : (landS s).m 1 = s.m 1 := upM_other s.m 2 1 (upTo (landL s.dv s.L) (s.m 2) 64) (by decide)
  have hld : ∀ y ∈ landL s.dv s.L, y.l = true → lookL s.dv.items (0, y.p) = some (txt c y.p.toNat (KW y.p.toNat)) := fun y hy hl => by
    obtain ⟨z, hz, z1, z2, z3⟩ := landL_mem.1 ⟨y, hy, rfl, rfl, rfl⟩
    rw [← z3]
    rw [hl, Bool.or_eq_true] at z2
    rcases z2 with g | g
    · exact h.ld z hz g
    · unfold tookB at g
      rw [Bool.and_eq_true] at g
      have g2 := of_decide_eq_true g.2
      obtain ⟨t1, t2⟩ := hw.tk z hz
      obtain ⟨jb, hj⟩ := jobAt_some t1 t2
      refine (h.yj z hz jb hj).2.2.2 (fun e0 => ?_)
      unfold takeE at g2
      rw [if_neg (by rw [hw.off]; decide)] at g2
      have : (Go.Proofs.YtfghfbmmaclcnaaGreat.fl s.dv.jobs z.t).isSome = true := by unfold Go.Proofs.YtfghfbmmaclcnaaGreat.fl; rw [hj]; simp [e0]
      rw [if_pos this] at g2
      omega
  refine ⟨by rw [e1]; exact h.pg, by rw [e1]; exact h.bd, fun t jb hj => ?_, fun y hy jb hj => ?_, fun y hy hl => ?_, fun p hp => ?_⟩
  · obtain ⟨jb0, hj0, -⟩ := hsm.2 t jb hj
    obtain ⟨y, hy, e⟩ := h.jy t jb0 hj0
    obtain ⟨y', hy', q1, -, -⟩ := landL_mem.2 ⟨y, hy, rfl, rfl, rfl⟩
    exact ⟨y', hy', q1.trans e⟩
  · obtain ⟨jb0, hj0, b1, b2, b3, b4⟩ := hsm.2 y.t jb hj
    obtain ⟨z, hz, z1, -, z3⟩ := landL_mem.1 ⟨y, hy, rfl, rfl, rfl⟩
    rw [← z1] at hj0
    obtain ⟨q1, q2, q3, q4⟩ := h.yj z hz jb0 hj0
    rw [← z3, b1, b2, b3]
    refine ⟨q1, q2, fun e => q3 (b4.1 e), fun e => ?_⟩
    show lookL (landD s.dv s.L).items (0, z.p) = _
    rw [hsm.1]
    exact q4 (fun e2 => e (b4.2 e2))
  · show lookL (landD s.dv s.L).items (0, y.p) = _
    rw [hsm.1]
    exact hld y hy hl
  · show lookL (landD s.dv s.L).items (0, (p : Int)) = _
    rw [hsm.1]
    have hp' : p < upTo (landL s.dv s.L) (s.m 2) 64 := by
      have e2 : (landS s).m 2 = upTo (landL s.dv s.L) (s.m 2) 64 := upM_same s.m 2 _
      rw [e2] at hp; exact hp
    by_cases g : p < s.m 2
    · exact h.fl p g
    · obtain ⟨y, hy, q1, q2⟩ := isL_iff.1 (upTo_in _ _ _ p (by omega) hp')
      have := hld y hy q2
      rw [q1] at this
      simpa using this
/-- What is kept behind a call that left these frames. -/
def KWn (KW : Nat → Nat → Int) (m1 n : Nat) (F : Nat → Option Pg) : Nat → Nat → Int := fun p => if p < m1 then KW p else match F (p % n) with
  | some x => x.2
  | none => fun _ => 0
theorem Fk.same (h : Fk c s KW) (hw : Wf c s k) (F : Nat → Option Pg) : Fk c s (KWn KW (s.m 1) c.n F) := h.congr hw (fun p hp j _ => by unfold KWn; rw [if_pos hp])
/-- Behind settling and shifting. -/
theorem Fk.safe (h : Fk c s KW) (hw : Wf c s k) (hn : 2 ≤ c.n) {s' : Hs} {k' : Nat} (hw' : Wf c s' k') (e2 : s'.m 2 = s.m 2) (eP : s'.P = s.P) (eF : s'.F = s.F) (ed : s'.dv = s.dv) (eL : s'.L = s.L) : Fk c s' (KWn KW (s.m 1) c.n s'.F) := by
  have hk := h.same hw s'.F
  have ho := hw.ord
  have ho' := hw'.ord
  have ht' := hw'.top
  have hn' := hw'.win
  unfold OrdM at ho ho'
  refine hk.marks e2 eF ed eL (fun p v h1 h2 hF j hj => ?_) (fun p h1 h2 j hj => ?_)
  · unfold KWn
    rw [if_neg (by omega), eF, hF]
  · obtain ⟨v, hv⟩ := (hw'.pg p).2 ⟨by omega, by omega⟩
    unfold KWn
    rw [if_neg (by omega), hv]
    exact hw'.wd _ p v (Nat.mod_lt _ (by omega)) hv j hj
theorem settle_L (c : Cf) (s : Hs) : (settleS c s).F = s.F ∧ (settleS c s).dv = s.dv ∧ (settleS c s).L = s.L ∧ (settleS c s).P = s.P := ⟨rfl, rfl, rfl, rfl⟩
theorem Fk.settle (h : Fk c s KW) (hw : Wf c s k) (hn : 2 ≤ c.n) : Fk c (settleS c s) (KWn KW (s.m 1) c.n (settleS c s).F) := by
  have hs := settle_rs hw.ord hw.top (readyL (safeN c s : Int) s.due)
  exact h.safe hw hn hw.settle hs.two rfl rfl rfl rfl
theorem Fk.shift (h : Fk c s KW) (hw : Wf c s k) (hn : 2 ≤ c.n) (hsp : c.sp ≤ 64) (mk kd page : Int) (hm : (mk = 0 ∧ kd = 1) ∨ (mk = 3 ∧ kd = 2)) : Fk c (shiftS c s mk kd page) (KWn KW (s.m 1) c.n (shiftS c s mk kd page).F) := by
  have hw' := hw.shift hsp mk kd page hm
  unfold shiftS at hw' ⊢
  split
  · rename_i he
    rw [if_pos he] at hw'
    have hr : Rs s.P s.m (raiseV s.m mk page (s.P : Int)) := by
      rcases hm with ⟨rfl, -⟩ | ⟨rfl, -⟩
      · exact raise_rs hw.ord hw.top 0 (by omega) page
      · exact raise_rs hw.ord hw.top 3 (by omega) page
    have hs := settle_rs (P := s.P) hr.ord hr.top (readyL (safeN c (bumpS s mk kd page) : Int) (bumpS s mk kd page).due)
    exact h.safe hw hn hw' (hs.two.trans hr.two) rfl rfl rfl rfl
  · exact h.same hw _
theorem Fk.help (h : Fk c s KW) (hw : Wf c s k) (hn : 2 ≤ c.n) (hsp : c.sp ≤ 64) : Fk c (helpR c s).2 (KWn KW (s.m 1) c.n (helpR c s).2.F) := by
  unfold helpR
  split
  · exact h.same hw _
  split
  · exact h.same hw _
  split
  · exact h.shift hw hn hsp 3 2 _ (.inr ⟨rfl, rfl⟩)
  split
  · split
    · exact (h.flush hw _).congr (hw.flush _) (fun p hp j _ => by
        have e : (flushS c s (firstU s.L (s.m 2) (needN c s - s.m 2) : Nat)).m = s.m := by
          unfold flushS
          split
          · split <;> rfl
          · rfl
        rw [e] at hp
        unfold KWn; rw [if_pos hp])
    · exact h.same hw _
  split
  · exact h.shift hw hn hsp 0 1 _ (.inl ⟨rfl, rfl⟩)
  · exact h.same hw _
theorem Fk.go (h : Fk c s KW) (hw : Wf c s k) (hc : CfOk c) : Fk c (goS c s) (KWn KW (s.m 1) c.n (goS c s).F) := by
  unfold goS
  split
  · exact h.same hw _
  split
  · exact h.help hw hc.hn.1 hc.hs.2
  · rename_i h1 h2
    exact (h.next hw).congr (hw.next h1 h2 hc.hn.1) (fun p hp j _ => by unfold KWn; rw [if_pos (show p < s.m 1 from hp)])
theorem Fk.turn (h : Fk c s KW) (hw : Wf c s k) (hc : CfOk c) : Fk c (turnHS c s) (KWn KW (s.m 1) c.n (turnHS c s).F) := by
  unfold turnHS
  split
  · exact h.same hw _
  · exact h.go hw hc
theorem Fk.close (h : Fk c s KW) (hw : Wf c s k) (hc : CfOk c) : Fk c (closeHS c s) (KWn KW (s.m 1) c.n (closeHS c s).F) := by
  unfold closeHS
  split
  · exact h.same hw _
  · exact h.go hw hc
end Go.Proofs.YtfghfbmmaclcnaaGreat
