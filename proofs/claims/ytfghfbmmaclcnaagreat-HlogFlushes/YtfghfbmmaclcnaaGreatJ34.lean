/- Parts of the proof: La. -/
import Derived.Test.YtfghfbmmaclcnaaGreatJ31
import Derived.Test.YtfghfbmmaclcnaaGreatJ32
namespace Go.Proofs.YtfghfbmmaclcnaaGreat
set_option maxRecDepth 20000
variable {c : Cf} {s : Hs} {k : Nat} {H : Nat → Nat}
/-- H tells of each session the head when it was seen last. -/
structure Gd (c : Cf) (s : Hs) (H : Nat → Nat) : Prop where
  hd : ∀ a ∈ s.due, a.k ≠ 1 → a.p ≤ (s.m 3 : Int)
  ep : ∀ i, s.v i ≤ s.now
  lo : ∀ i, s.v i ≠ 0 → s.m 4 ≤ H i ∧ ∀ a ∈ s.due, a.k ≠ 1 → a.p ≤ (H i : Int) ∨ (s.v i : Int) ≤ a.e
  out : ∀ i, c.ns ≤ i → s.v i = 0
theorem Gd.same (h : Gd c s H) {s' : Hs} (e3 : s'.m 3 = s.m 3) (e4 : s'.m 4 = s.m 4) (ed : s'.due = s.due) (en : s'.now = s.now) (ev : s'.v = s.v) : Gd c s' H :=
  ⟨by rw [ed, e3]; exact h.hd, by rw [en, ev]; exact h.ep, by rw [ed, e4, ev]; exact h.lo, by rw [ev]; exact h.out⟩
theorem settle_four {P : Nat} {m : Nat → Nat} {l : List A3} {H : Nat} (h : m 4 ≤ H) (hl : ∀ a ∈ l, a.k ≠ 1 → a.p ≤ (H : Int)) : settleM P m l 4 ≤ H := by
  induction l using snoc_ind with
  | h0 => exact h
  | h1 l x ih =>
    have h1 := ih (fun a ha => hl a (List.mem_append_left _ ha))
    have h2 := hl x (by simp)
    rw [settleM_snoc]
    split
    · rw [raiseV_other _ _ _ _ _ (by decide)]; exact h1
    · rename_i hk
      have h3 := h2 hk
      rcases raise_cases (settleM P m l) 4 x.p (P : Int) with e | ⟨y, e1, -, -, e⟩
      · exact Nat.le_trans (Nat.le_of_eq (congrFun e 4)) h1
      · exact Nat.le_trans (Nat.le_of_eq (congrFun e 4)) (by rw [upM_same]; omega)
theorem settle_three {P : Nat} {m : Nat → Nat} {l : List A3} : settleM P m l 3 = m 3 := by
  induction l using snoc_ind with
  | h0 => rfl
  | h1 l x ih =>
    rw [settleM_snoc, raiseV_other _ _ _ _ _ (by split <;> decide), ih]
theorem Gd.settle (h : Gd c s H) : Gd c (settleS c s) H := by
  refine ⟨fun a ha hk => ?_, h.ep, fun i hi => ?_, h.out⟩
  · have h1 := h.hd a (List.mem_filter.1 ha).1 hk
    show a.p ≤ (settleM s.P s.m (readyL (safeN c s : Int) s.due) 3 : Int)
    rw [settle_three]; exact h1
  · obtain ⟨h1, h2⟩ := h.lo i hi
    refine ⟨settle_four h1 (fun a ha hk => ?_), fun a ha hk => h2 a (List.mem_filter.1 ha).1 hk⟩
    obtain ⟨ha1, ha2⟩ := List.mem_filter.1 ha
    have h3 := of_decide_eq_true ha2
    have hin : i < c.ns := by
      rcases Nat.lt_or_ge i c.ns with g | g
      · exact g
      · exact absurd (h.out i g) hi
    have h4 := leastN_le s.now s.v c.ns i hin hi
    unfold safeN at h3
    have hi2 : s.v i ≠ 0 := hi
    rcases h2 a ha1 hk with h5 | h5
    · exact h5
    · omega
theorem Gd.shift (h : Gd c s H) (mk kd page : Int) (hm : (mk = 0 ∧ kd = 1) ∨ (mk = 3 ∧ kd = 2)) : Gd c (shiftS c s mk kd page) H := by
  unfold shiftS
  split
  · rename_i he
    unfold shiftE at he
    split at he; · omega
    have key : Gd c (bumpS s mk kd page) H := by
      have hv : ∀ i, s.v i ≤ s.now + 1 := fun i => Nat.le_succ_of_le (h.ep i)
      rcases hm with ⟨rfl, rfl⟩ | ⟨rfl, rfl⟩
      · have e3 : raiseV s.m 0 page (s.P : Int) 3 = s.m 3 := raiseV_other _ _ _ _ _ (by decide)
        have e4 : raiseV s.m 0 page (s.P : Int) 4 = s.m 4 := raiseV_other _ _ _ _ _ (by decide)
        refine ⟨fun a ha hk => ?_, hv, fun i hi => ?_, h.out⟩
        · show a.p ≤ (raiseV s.m 0 page (s.P : Int) 3 : Int)
          rw [e3]
          rcases List.mem_append.1 ha with g | g
          · exact h.hd a g hk
          · rw [List.mem_singleton.1 g] at hk; exact absurd rfl hk
        · obtain ⟨h1, h2⟩ := h.lo i hi
          refine ⟨by show raiseV s.m 0 page (s.P : Int) 4 ≤ H i; rw [e4]; exact h1, fun a ha hk => ?_⟩
          rcases List.mem_append.1 ha with g | g
          · exact h2 a g hk
          · rw [List.mem_singleton.1 g] at hk; exact absurd rfl hk
      · have e4 : raiseV s.m 3 page (s.P : Int) 4 = s.m 4 := raiseV_other _ _ _ _ _ (by decide)
        have e3 : (s.m 3 : Int) ≤ (raiseV s.m 3 page (s.P : Int) 3 : Int) ∧ page ≤ (raiseV s.m 3 page (s.P : Int) 3 : Int) := by
          unfold raiseV
          rw [if_pos he]
          rw [show (3 : Int).toNat = 3 from rfl, upM_same]
          unfold raiseE at he
          rw [show (3 : Int).toNat = 3 from rfl] at he
          split at he; · omega
          split at he; · omega
          omega
        refine ⟨fun a ha hk => ?_, hv, fun i hi => ?_, h.out⟩
        · show a.p ≤ (raiseV s.m 3 page (s.P : Int) 3 : Int)
          rcases List.mem_append.1 ha with g | g
          · have := h.hd a g hk; omega
          · rw [List.mem_singleton.1 g]; exact e3.2
        · obtain ⟨h1, h2⟩ := h.lo i hi
          refine ⟨by show raiseV s.m 3 page (s.P : Int) 4 ≤ H i; rw [e4]; exact h1, fun a ha hk => ?_⟩
          rcases List.mem_append.1 ha with g | g
          · exact h2 a g hk
          · rw [List.mem_singleton.1 g]
            exact .inr (by have := h.ep i; show (s.v i : Int) ≤ (s.now : Int); omega)
    exact key.settle
  · exact h
theorem Gd.flush (h : Gd c s H) (p : Int) : Gd c (flushS c s p) H := by
  unfold flushS
  split
  · split
    · exact h.same rfl rfl rfl rfl rfl
    · exact h
  · exact h
theorem Gd.help (h : Gd c s H) : Gd c (helpR c s).2 H := by
  unfold helpR
  split
  · exact h
  split
  · exact h
  split
  · exact h.shift 3 2 _ (.inr ⟨rfl, rfl⟩)
  split
  · split
    · exact h.flush _
    · exact h
  split
  · exact h.shift 0 1 _ (.inl ⟨rfl, rfl⟩)
  · exact h
theorem Gd.go (h : Gd c s H) : Gd c (goS c s) H := by
  unfold goS
  split
  · exact h
  split
  · exact h.help
  · exact h.same rfl rfl rfl rfl rfl
theorem Gd.turn (h : Gd c s H) : Gd c (turnHS c s) H := by
  unfold turnHS
  split
  · exact h
  · exact h.go
theorem Gd.close (h : Gd c s H) : Gd c (closeHS c s) H := by
  unfold closeHS
  split
  · exact h
  · exact h.go
theorem Gd.land (h : Gd c s H) : Gd c (landS s) H := h.same (upM_other s.m 2 3 (upTo (landL s.dv s.L) (s.m 2) 64) (by decide)) (upM_other s.m 2 4 (upTo (landL s.dv s.L) (s.m 2) 64) (by decide)) rfl rfl rfl
theorem Gd.word (h : Gd c s H) (A : Nat) (W : Int) : Gd c (wordS c s A W) H := by
  unfold wordS
  split
  · exact h.same rfl rfl rfl rfl rfl
  · exact h
/-- The head is seen anew. -/
theorem Gd.fresh (h : Gd c s H) (ho : OrdM s.m) (i : Nat) : Gd c s (updN H i (s.m 3)) := by
  refine ⟨h.hd, h.ep, fun j hj => ?_, h.out⟩
  by_cases e : j = i
  · subst e
    rw [updN_same]
    exact ⟨ho.2.2.2, fun a ha hk => .inl (h.hd a ha hk)⟩
  · rw [updN_other _ _ _ _ e]
    exact h.lo j hj
theorem Gd.leave (h : Gd c s H) (i : Nat) : Gd c { s with v := updN s.v i 0 } H := by
  refine ⟨h.hd, fun j => ?_, fun j hj => ?_, fun j hj => ?_⟩
  · show updN s.v i 0 j ≤ s.now
    by_cases e : j = i
    · subst e; rw [updN_same]; omega
    · rw [updN_other _ _ _ _ e]; exact h.ep j
  · have hj' : updN s.v i 0 j ≠ 0 := hj
    show s.m 4 ≤ H j ∧ ∀ a ∈ s.due, a.k ≠ 1 → a.p ≤ (H j : Int) ∨ (updN s.v i 0 j : Int) ≤ a.e
    by_cases e : j = i
    · subst e; rw [updN_same] at hj'; exact absurd rfl hj'
    · rw [updN_other _ _ _ _ e] at hj' ⊢; exact h.lo j hj'
  · show updN s.v i 0 j = 0
    by_cases e : j = i
    · subst e; rw [updN_same]
    · rw [updN_other _ _ _ _ e]; exact h.out j hj
theorem Gd.enter (h : Gd c s H) (ho : OrdM s.m) (i : Nat) (hi : i < c.ns) : Gd c { s with v := updN s.v i s.now } (updN H i (s.m 3)) := by
  refine ⟨h.hd, fun j => ?_, fun j hj => ?_, fun j hj => ?_⟩
  · show updN s.v i s.now j ≤ s.now
    by_cases e : j = i
    · subst e; rw [updN_same]; omega
    · rw [updN_other _ _ _ _ e]; exact h.ep j
  · have hj' : updN s.v i s.now j ≠ 0 := hj
    show s.m 4 ≤ updN H i (s.m 3) j ∧ ∀ a ∈ s.due, a.k ≠ 1 → a.p ≤ (updN H i (s.m 3) j : Int) ∨ (updN s.v i s.now j : Int) ≤ a.e
    by_cases e : j = i
    · subst e
      simp only [updN_same]
      exact ⟨ho.2.2.2, fun a ha hk => .inl (h.hd a ha hk)⟩
    · rw [updN_other _ _ _ _ e] at hj'
      simp only [updN_other _ _ _ _ e]
      exact h.lo j hj'
  · show updN s.v i s.now j = 0
    by_cases e : j = i
    · omega
    · rw [updN_other _ _ _ _ e]; exact h.out j hj
/-- A call of the table: where the session sees the epoch of now behind it, its head is the one of now. -/
theorem Gd.table (h : Gd c s H) (ho : OrdM s.m) (kd n : Int) (hkd : kd = 1 ∨ kd = 2 ∨ kd = 3) : Gd c (epS c s kd n) (if (kd = 1 ∨ kd = 2) ∧ 0 ≤ n ∧ (epS c s kd n).v n.toNat = s.now then updN H n.toNat (s.m 3) else H) := by
  unfold epS doesV
  by_cases e : doesE c.ns s.v kd n = 0
  · simp only [if_pos e]
    have hin : 0 ≤ n ∧ n.toNat < c.ns := by
      unfold doesE at e
      split at e; · omega
      omega
    by_cases e3 : kd = 3
    · subst e3
      rw [if_pos rfl, if_neg (by omega)]
      exact h.leave _
    · rw [if_neg e3]
      rw [updN_same]
      rw [if_pos ⟨by omega, hin.1, rfl⟩]
      exact h.enter ho _ hin.2
  · simp only [if_neg e]
    split
    · exact h.fresh ho _
    · exact h
end Go.Proofs.YtfghfbmmaclcnaaGreat
