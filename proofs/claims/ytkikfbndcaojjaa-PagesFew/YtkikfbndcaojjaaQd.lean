/- A buffer's frames and the reference's list of pages: what holds between them. -/
import Derived.Test.YtkikfbndcaojjaaQc
namespace Go.Proofs.Ytkikfbndcaojjaa
open Go.RowKit
/-- The frames F and the list K (its words by V) have the same pages. -/
structure Lk (n s : Nat) (F : Nat → Option Pg) (K : List (Nat × Nat)) (V : Nat → Nat → Int) : Prop where
  n0 : 0 < n
  srt : K.Pairwise (fun a b => a.1 < b.1)
  fwd : ∀ x ∈ K, ∃ v, F (x.1 % n) = some (x.1, v) ∧ ∀ j, j < s → v j = V x.2 j
  bwd : ∀ i, i < n → ∀ p v, F i = some (p, v) → p % n = i ∧ ∃ x ∈ K, x.1 = p
theorem Lk.empty {n s : Nat} (hn : 0 < n) (V : Nat → Nat → Int) : Lk n s (fun _ => none) [] V := ⟨hn, List.Pairwise.nil, fun x hx => by simp at hx, fun i hi p v e => by cases e⟩
section
variable {n s : Nat} {F : Nat → Option Pg} {K : List (Nat × Nat)} {V : Nat → Nat → Int}
theorem mem_getK {x : Nat × Nat} (h : x ∈ K) : ∃ i, i < K.length ∧ getK K i = x := by
  obtain ⟨i, hi, e⟩ := List.getElem_of_mem h
  exact ⟨i, hi, by simp [getK, List.getD_eq_getElem?_getD, hi, e]⟩
theorem srt_lt (h : K.Pairwise (fun a b => a.1 < b.1)) {i j : Nat} (hij : i < j) (hj : j < K.length) : (getK K i).1 < (getK K j).1 := by
  have h1 := List.pairwise_iff_getElem.1 h i j (by omega) hj hij
  have e1 : getK K i = K[i] := by simp [getK, List.getD_eq_getElem?_getD, (show i < K.length by omega)]
  have e2 : getK K j = K[j] := by simp [getK, List.getD_eq_getElem?_getD, hj]
  rw [e1, e2]; exact h1
/-- A page that is in, and where. -/
theorem Lk.here (h : Lk n s F K V) {P : Nat} {v : Nat → Int} (hP : F (P % n) = some (P, v)) : ∃ i, i < K.length ∧ (getK K i).1 = P ∧ (∀ j, j < i → (getK K j).1 ≠ P) ∧ ∀ j, j < s → v j = V (getK K i).2 j := by
  obtain ⟨-, x, hx, e⟩ := h.bwd _ (Nat.mod_lt _ h.n0) P v hP
  obtain ⟨i, hi, ei⟩ := mem_getK hx
  refine ⟨i, hi, by rw [ei, e], fun j hj e' => ?_, fun j hj => ?_⟩
  · have := srt_lt h.srt hj hi
    rw [ei, e] at this
    omega
  · obtain ⟨v', h1, h2⟩ := h.fwd x hx
    rw [e, hP] at h1
    cases h1
    rw [ei]; exact h2 j hj
/-- A page that isn't in. -/
theorem Lk.gone (h : Lk n s F K V) {page : Int} (hno : ∀ P : Nat, page = (P : Int) → ∀ v, F (P % n) ≠ some (P, v)) : ∀ j, j < K.length → ((getK K j).1 : Int) ≠ page := by
  intro j hj e
  obtain ⟨v, h1, -⟩ := h.fwd _ (getK_mem hj)
  exact hno _ e.symm v h1
theorem Lk.goneN (h : Lk n s F K V) {P : Nat} (hno : ∀ v, F (P % n) ≠ some (P, v)) : ∀ j, j < K.length → (getK K j).1 ≠ P := by
  intro j hj e
  obtain ⟨v, h1, -⟩ := h.fwd _ (getK_mem hj)
  rw [e] at h1
  exact hno v h1
theorem mem_inF {F : Nat → Option Pg} {m : Nat} {x : Int} : x ∈ inF F m ↔ ∃ i, i < m ∧ ∃ p v, F i = some (p, v) ∧ x = (p : Int) := by
  induction m with
  | zero => simp [inF]
  | succ m ih =>
    cases hF : F m with
    | none =>
      rw [inF_none hF, ih]
      constructor
      · rintro ⟨i, hi, r⟩; exact ⟨i, by omega, r⟩
      · rintro ⟨i, hi, p, v, e, r⟩
        by_cases e1 : i = m
        · subst e1; rw [hF] at e; cases e
        · exact ⟨i, by omega, p, v, e, r⟩
    | some y =>
      obtain ⟨q, u⟩ := y
      rw [inF_some hF, List.mem_append, ih]
      constructor
      · rintro (⟨i, hi, r⟩ | hx)
        · exact ⟨i, by omega, r⟩
        · exact ⟨m, by omega, q, u, hF, by simpa using hx⟩
      · rintro ⟨i, hi, p, v, e, r⟩
        by_cases e1 : i = m
        · subst e1; rw [hF] at e; cases e; exact .inr (by simpa using r)
        · exact .inl ⟨i, by omega, p, v, e, r⟩
theorem nodup_inF {F : Nat → Option Pg} {n : Nat} (h : ∀ i, i < n → ∀ p v, F i = some (p, v) → p % n = i) (m : Nat) (hm : m ≤ n) : (inF F m).Nodup := by
  induction m with
  | zero => simp [inF]
  | succ m ih =>
    cases hF : F m with
    | none => rw [inF_none hF]; exact ih (by omega)
    | some y =>
      obtain ⟨q, u⟩ := y
      rw [inF_some hF, List.nodup_append]
      refine ⟨ih (by omega), by simp, fun a ha b hb e => ?_⟩
      obtain ⟨i, hi, p, v, e1, rfl⟩ := mem_inF.1 ha
      simp at hb
      subst hb
      have h1 := h i (by omega) p v e1
      have h2 := h m (by omega) q u hF
      have : p = q := by omega
      subst this
      omega
theorem Lk.sorted (h : Lk n s F K V) : (inF F n).mergeSort (fun x y => decide (x ≤ y)) = (K.map Prod.fst).map fun (p : Nat) => (p : Int) := by
  refine sort_isI (nodup_inF (fun i hi p v e => (h.bwd i hi p v e).1) n (Nat.le_refl _)) ?_ (fun x => ?_)
  · rw [List.pairwise_map]; exact h.srt
  · rw [mem_inF]
    constructor
    · rintro ⟨i, hi, p, v, e, rfl⟩
      obtain ⟨-, x, hx, e1⟩ := h.bwd i hi p v e
      exact List.mem_map.2 ⟨p, List.mem_map.2 ⟨x, hx, e1⟩, rfl⟩
    · intro hx
      obtain ⟨p, hp, rfl⟩ := List.mem_map.1 hx
      obtain ⟨x, hx2, rfl⟩ := List.mem_map.1 hp
      obtain ⟨v, h1, -⟩ := h.fwd x hx2
      exact ⟨_, Nat.mod_lt _ h.n0, _, v, h1, rfl⟩
theorem Lk.few (h : Lk n s F K V) : K.length ≤ n := by
  have h1 := congrArg List.length h.sorted
  rw [List.length_mergeSort, List.length_map, List.length_map] at h1
  rw [← h1]
  exact inF_length F n
/-- A page is opened. -/
theorem Lk.opens (h : Lk n s F K V) {P lb : Nat} (hP : F (P % n) = none) (hlb : ∀ x ∈ K, x.2 ≠ lb) : Lk n s (updF F (P % n) (some (P, fun _ => 0))) (insL (P, lb) K) (fun b j => if b = lb then 0 else V b j) := by
  have hperm := insL_perm (P, lb) K
  have hne : ∀ x ∈ K, x.1 % n ≠ P % n := fun x hx e => by
    obtain ⟨v, h1, -⟩ := h.fwd x hx
    rw [e, hP] at h1; cases h1
  refine ⟨h.n0, ?_, fun x hx => ?_, fun i hi p v e => ?_⟩
  · obtain ⟨l1, l2, e1, e2, e3, e4⟩ := insL_is (P, lb) K
    rw [e2]
    have hs := h.srt
    rw [e1] at hs
    obtain ⟨s1, s2, s3⟩ := List.pairwise_append.1 hs
    have hl1 : ∀ y ∈ l1, y.1 < P := fun y hy => by
      have h1 := e3 y hy
      have h2 := hne y (by rw [e1]; exact List.mem_append_left _ hy)
      simp only at h1
      rcases Nat.lt_or_eq_of_le h1 with h3 | h3
      · exact h3
      · exact absurd (by rw [h3]) h2
    have hl2 : ∀ y ∈ l2, P < y.1 := fun y hy => by
      cases l2 with
      | nil => simp at hy
      | cons z l3 =>
        have h1 := e4 z l3 rfl
        simp only at h1
        rcases List.mem_cons.1 hy with rfl | hy
        · exact h1
        · have := (List.pairwise_cons.1 s2).1 y hy; omega
    refine List.pairwise_append.2 ⟨s1, List.pairwise_cons.2 ⟨fun y hy => hl2 y hy, s2⟩, fun a ha b hb => ?_⟩
    rcases List.mem_cons.1 hb with rfl | hb
    · exact hl1 a ha
    · exact s3 a ha b hb
  · rcases List.mem_cons.1 (hperm.mem_iff.1 hx) with rfl | hx
    · exact ⟨fun _ => 0, updF_same _ _ _, fun j _ => by simp⟩
    · obtain ⟨v, h1, h2⟩ := h.fwd x hx
      exact ⟨v, by rw [updF_other _ _ (hne x hx)]; exact h1, fun j hj => by rw [if_neg (hlb x hx)]; exact h2 j hj⟩
  · by_cases e1 : i = P % n
    · subst e1
      rw [updF_same] at e; cases e
      exact ⟨rfl, (P, lb), hperm.mem_iff.2 (by simp), rfl⟩
    · rw [updF_other _ _ e1] at e
      obtain ⟨h1, x, hx, h2⟩ := h.bwd i hi p v e
      exact ⟨h1, x, hperm.mem_iff.2 (List.mem_cons_of_mem _ hx), h2⟩
theorem mem_erase {i : Nat} (hs : K.Pairwise (fun a b => a.1 < b.1)) {x : Nat × Nat} (hi : i < K.length) : x ∈ K.eraseIdx i ↔ x ∈ K ∧ x.1 ≠ (getK K i).1 := by
  rw [List.mem_eraseIdx_iff_getElem?]
  constructor
  · rintro ⟨j, hj, e⟩
    have hjl := (List.getElem?_eq_some_iff.1 e).1
    have e' : getK K j = x := by simp [getK, List.getD_eq_getElem?_getD, e]
    refine ⟨List.mem_of_getElem? e, fun h1 => ?_⟩
    rw [← e'] at h1
    rcases Nat.lt_or_gt_of_ne hj with h | h
    · have := srt_lt hs h hi; omega
    · have := srt_lt hs h hjl; omega
  · rintro ⟨h1, h2⟩
    obtain ⟨j, hj, e⟩ := mem_getK h1
    exact ⟨j, fun e' => h2 (by rw [← e, e']), by rw [getK_some hj, e]⟩
/-- A page is closed. -/
theorem Lk.closes (h : Lk n s F K V) {P i : Nat} (hi : i < K.length) (hP : (getK K i).1 = P) : Lk n s (updF F (P % n) none) (K.eraseIdx i) V := by
  refine ⟨h.n0, h.srt.sublist (List.eraseIdx_sublist K i), fun x hx => ?_, fun j hj p v e => ?_⟩
  · obtain ⟨h1, h2⟩ := (mem_erase h.srt hi).1 hx
    obtain ⟨v, h3, h4⟩ := h.fwd x h1
    obtain ⟨u, h5, -⟩ := h.fwd _ (getK_mem hi)
    rw [hP] at h2 h5
    refine ⟨v, ?_, h4⟩
    rw [updF_other _ _ (fun e => ?_)]
    · exact h3
    · rw [e, h5] at h3
      cases h3
      exact h2 rfl
  · by_cases e1 : j = P % n
    · subst e1; rw [updF_same] at e; cases e
    · rw [updF_other _ _ e1] at e
      obtain ⟨h1, x, hx, h2⟩ := h.bwd j hj p v e
      refine ⟨h1, x, (mem_erase h.srt hi).2 ⟨hx, fun e2 => e1 ?_⟩, h2⟩
      rw [← h1, ← h2, e2, hP]
def updB (V : Nat → Nat → Int) (b : Nat) (v : Nat → Int) : Nat → Nat → Int := fun b' => if b' = b then v else V b'
/-- A page's words are others. -/
theorem Lk.writes (h : Lk n s F K V) {P i : Nat} {v v' u : Nat → Int} (hi : i < K.length) (hP : (getK K i).1 = P) (hF : F (P % n) = some (P, v)) (hnd : (K.map Prod.snd).Nodup) (hu : ∀ j, j < s → u j = v' j) : Lk n s (updF F (P % n) (some (P, v'))) K (updB V (getK K i).2 u) := by
  have huniq : ∀ x ∈ K, x.1 % n = P % n → x = getK K i := fun x hx e => by
    obtain ⟨w, h1, -⟩ := h.fwd x hx
    rw [e, hF] at h1
    cases h1
    obtain ⟨j, hj, ej⟩ := mem_getK hx
    rcases Nat.lt_trichotomy i j with hij | hij | hij
    · have := srt_lt h.srt hij hj; rw [ej] at this; omega
    · rw [hij, ej]
    · have := srt_lt h.srt hij hi; rw [ej] at this; omega
  refine ⟨h.n0, h.srt, fun x hx => ?_, fun j hj p w e => ?_⟩
  · by_cases e : x.1 % n = P % n
    · have := huniq x hx e
      subst this
      rw [hP]
      exact ⟨v', updF_same _ _ _, fun j hj => by simp [updB, hu j hj]⟩
    · obtain ⟨w, h1, h2⟩ := h.fwd x hx
      refine ⟨w, by rw [updF_other _ _ e]; exact h1, fun j hj => ?_⟩
      have hb : x.2 ≠ (getK K i).2 := fun e2 => by
        obtain ⟨k, hk, ek⟩ := mem_getK hx
        have hki : k ≠ i := fun e3 => e (by rw [← ek, e3, hP])
        have := List.nodup_iff_pairwise_ne.1 hnd
        have h3 := List.pairwise_iff_getElem.1 this
        have g1 : getK K k = K[k] := by simp [getK, List.getD_eq_getElem?_getD, hk]
        have g2 : getK K i = K[i] := by simp [getK, List.getD_eq_getElem?_getD, hi]
        rcases Nat.lt_or_gt_of_ne hki with h4 | h4
        · have := h3 k i (by simpa using hk) (by simpa using hi) h4
          simp only [List.getElem_map] at this
          rw [← g1, ← g2, ek] at this
          exact this e2
        · have := h3 i k (by simpa using hi) (by simpa using hk) h4
          simp only [List.getElem_map] at this
          rw [← g1, ← g2, ek] at this
          exact this e2.symm
      simp only [updB, if_neg hb]
      exact h2 j hj
  · by_cases e1 : j = P % n
    · subst e1
      rw [updF_same] at e; cases e
      exact ⟨rfl, getK K i, getK_mem hi, hP⟩
    · rw [updF_other _ _ e1] at e
      exact h.bwd j hj p w e
end
end Go.Proofs.Ytkikfbndcaojjaa
