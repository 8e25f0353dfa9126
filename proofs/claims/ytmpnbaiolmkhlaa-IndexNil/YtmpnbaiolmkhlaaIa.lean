/- The plain model of an index: chains of buckets, their slots, what a look tells. No Go in sight. -/
import Derived.Test.YtmpnbaiolmkhlaaNa
namespace Go.Proofs.Ytmpnbaiolmkhlaa
set_option maxRecDepth 20000
def ixUpd (g : Nat → Nat) (i x : Nat) : Nat → Nat := fun j => if j = i then x else g j
theorem ixUpd_same (g : Nat → Nat) (i x : Nat) : ixUpd g i x i = x := by simp [ixUpd]
theorem ixUpd_ne {g : Nat → Nat} {i x j : Nat} (h : j ≠ i) : ixUpd g i x j = g j := by simp [ixUpd, h]
/-- The chain from a bucket on, to one that links to none. -/
inductive IxPath (g : Nat → Nat) : Nat → List Nat → Prop
  | last {b : Nat} (h : g (8 * b + 7) = 0) : IxPath g b [b]
  | next {b c : Nat} {l : List Nat} (h : g (8 * b + 7) = c + 1) (t : IxPath g c l) : IxPath g b (b :: l)
theorem IxPath.head {g : Nat → Nat} {b : Nat} {l : List Nat} (h : IxPath g b l) : ∃ t, l = b :: t := by cases h <;> exact ⟨_, rfl⟩
theorem IxPath.pos {g : Nat → Nat} {b : Nat} {l : List Nat} (h : IxPath g b l) : 0 < l.length := by obtain ⟨t, rfl⟩ := h.head; simp
theorem IxPath.zero {g : Nat → Nat} {b : Nat} {l : List Nat} (h : IxPath g b l) : l.getD 0 0 = b := by obtain ⟨t, rfl⟩ := h.head; rfl
theorem IxPath.on {g : Nat → Nat} {b : Nat} {l : List Nat} (h : IxPath g b l) : ∀ j, j + 1 < l.length → g (8 * l.getD j 0 + 7) = l.getD (j + 1) 0 + 1 := by
  induction h with
  | last h => intro j hj; simp at hj
  | @next b c l h t ih =>
    intro j hj
    cases j with
    | zero => simp only [List.getD_cons_zero, List.getD_cons_succ]; rw [t.zero]; exact h
    | succ j => simp only [List.getD_cons_succ]; exact ih j (by simp at hj; omega)
/-- The last bucket. -/
def ixLast (l : List Nat) : Nat := l.getD (l.length - 1) 0
theorem IxPath.end {g : Nat → Nat} {b : Nat} {l : List Nat} (h : IxPath g b l) : g (8 * ixLast l + 7) = 0 := by
  induction h with
  | last h => exact h
  | @next b c l h t ih =>
    obtain ⟨u, rfl⟩ := t.head
    exact ih
theorem ixLast_mem {l : List Nat} (h : 0 < l.length) : ixLast l ∈ l := by
  unfold ixLast
  rw [List.getD_eq_getElem?_getD, List.getElem?_eq_getElem (by omega)]
  exact List.getElem_mem _
theorem getD_mem {l : List Nat} {j : Nat} (h : j < l.length) : l.getD j 0 ∈ l := by
  rw [List.getD_eq_getElem?_getD, List.getElem?_eq_getElem h]
  exact List.getElem_mem _
theorem IxPath.congr {g g' : Nat → Nat} {b : Nat} {l : List Nat} (h : IxPath g b l) (he : ∀ r ∈ l, g' (8 * r + 7) = g (8 * r + 7)) : IxPath g' b l := by
  induction h with
  | last h => exact .last (by rw [he _ (by simp)]; exact h)
  | @next b c l h t ih => exact .next (by rw [he _ (by simp)]; exact h) (ih fun r hr => he r (by simp [hr]))
theorem IxPath.snoc {g : Nat → Nat} {b : Nat} {l : List Nat} (h : IxPath g b l) {s : Nat} (hs : g (8 * s + 7) = 0) (hne : s ≠ ixLast l) : IxPath (ixUpd g (8 * ixLast l + 7) (s + 1)) b (l ++ [s]) := by
  induction h with
  | @last b h =>
    refine .next (c := s) (ixUpd_same _ _ _) (.last ?_)
    have : ixLast [b] = b := rfl
    rw [this] at hne ⊢
    rw [ixUpd_ne (by omega)]; exact hs
  | @next b c l h t ih =>
    obtain ⟨u, rfl⟩ := t.head
    have e : ixLast (b :: c :: u) = ixLast (c :: u) := rfl
    rw [e] at hne ⊢
    refine .next (c := c) ?_ (ih hne)
    have hz := t.end
    rw [ixUpd_ne (fun he => ?_)]
    · exact h
    · rw [he, hz] at h; omega
/-- The slots of a chain, in order. -/
def ixRow (r k : Nat) : List Nat := (List.range k).map fun j => 8 * r + j
def ixSlots (c : List Nat) : List Nat := c.flatMap fun r => ixRow r 7
def ixUpto (c : List Nat) (i k : Nat) : List Nat := ixSlots (c.take i) ++ ixRow (c.getD i 0) k
theorem ixRow_succ (r k : Nat) : ixRow r (k + 1) = ixRow r k ++ [8 * r + k] := by simp [ixRow, List.range_succ]
theorem ixUpto_start (c : List Nat) : ixUpto c 0 0 = [] := by simp [ixUpto, ixSlots, ixRow]
theorem ixUpto_on (c : List Nat) (i k : Nat) : ixUpto c i (k + 1) = ixUpto c i k ++ [8 * c.getD i 0 + k] := by simp [ixUpto, ixRow_succ]
theorem ixUpto_next (c : List Nat) (i : Nat) (h : i < c.length) : ixUpto c i 7 = ixUpto c (i + 1) 0 := by
  unfold ixUpto ixSlots
  rw [List.take_succ_eq_append_getElem h, List.flatMap_append]
  simp [ixRow, List.getD_eq_getElem?_getD, h]
theorem ixUpto_all (c : List Nat) : ixUpto c c.length 0 = ixSlots c := by simp [ixUpto, ixRow]
theorem ixSlots_mem {c : List Nat} {s : Nat} : s ∈ ixSlots c ↔ ∃ r ∈ c, ∃ k, k < 7 ∧ s = 8 * r + k := by
  simp only [ixSlots, ixRow, List.mem_flatMap, List.mem_map, List.mem_range]
  constructor
  · rintro ⟨r, hr, k, hk, rfl⟩; exact ⟨r, hr, k, hk, rfl⟩
  · rintro ⟨r, hr, k, hk, rfl⟩; exact ⟨r, hr, k, hk, rfl⟩
theorem ixSlots_nodup {c : List Nat} (h : c.Nodup) : (ixSlots c).Nodup := by
  induction c with
  | nil => simp [ixSlots]
  | cons r c ih =>
    rw [List.nodup_cons] at h
    have e : ixSlots (r :: c) = ixRow r 7 ++ ixSlots c := by simp [ixSlots]
    rw [e, List.nodup_append]
    refine ⟨?_, ih h.2, ?_⟩
    · unfold ixRow List.Nodup
      rw [List.pairwise_map]
      exact List.nodup_range.imp (fun hab he => hab (by omega))
    · intro s hs s' hs' he
      subst he
      simp only [ixRow, List.mem_map, List.mem_range] at hs
      obtain ⟨k, hk, rfl⟩ := hs
      obtain ⟨r', hr', k', hk', e'⟩ := ixSlots_mem.1 hs'
      have : r = r' := by omega
      subst this
      exact h.1 hr'
theorem ixSlots_length (c : List Nat) : (ixSlots c).length = 7 * c.length := by
  induction c with
  | nil => rfl
  | cons r c ih =>
    have e : ixSlots (r :: c) = ixRow r 7 ++ ixSlots c := by simp [ixSlots]
    rw [e, List.length_append, ih]
    simp [ixRow]; omega
/-- The words of a chain's entries, in order. -/
def ixEnts (g : Nat → Nat) (l : List Nat) : List Nat := (l.map g).filter fun x => decide (x ≠ 0)
theorem ixEnts_snoc (g : Nat → Nat) (l : List Nat) (s : Nat) : ixEnts g (l ++ [s]) = ixEnts g l ++ (if g s = 0 then [] else [g s]) := by
  unfold ixEnts
  rw [List.map_append, List.filter_append]
  congr 1
  by_cases h : g s = 0 <;> simp [h]
theorem ixEnts_mem {g : Nat → Nat} {l : List Nat} {x : Nat} : x ∈ ixEnts g l ↔ x ≠ 0 ∧ ∃ s ∈ l, g s = x := by
  simp only [ixEnts, List.mem_filter, List.mem_map, decide_eq_true_eq]
  exact ⟨fun ⟨h, h'⟩ => ⟨h', h⟩, fun ⟨h, h'⟩ => ⟨h', h⟩⟩
theorem ixEnts_length (g : Nat → Nat) (l : List Nat) : (ixEnts g l).length ≤ l.length := by
  unfold ixEnts
  exact Nat.le_trans (List.length_filter_le _ _) (by simp)
/-- An entry's tag; is it fresh? Is it one? -/
def ixTag (x : Nat) : Nat := x / 281474976710656 % 16384
def ixFresh (x : Nat) : Bool := decide (x / 4611686018427387904 % 2 = 1)
def IxEn (x : Nat) : Prop := ∃ a t f, entB a t f = true ∧ x = entN a t f
theorem IxEn.pos {x : Nat} (h : IxEn x) : x ≠ 0 ∧ x < 18446744073709551616 := by
  obtain ⟨a, t, f, h, rfl⟩ := h
  obtain ⟨ha, ht, _⟩ := entB_iff.1 h
  have := entN_lt (f := f) ha ht
  omega
theorem entN_tag {a t : Nat} {f : Bool} (h : entB a t f = true) : ixTag (entN a t f) = t := by
  obtain ⟨ha, ht, _⟩ := entB_iff.1 h
  exact entN_t ha ht
theorem entN_fresh {a t : Nat} {f : Bool} (h : entB a t f = true) : ixFresh (entN a t f) = f := by
  obtain ⟨ha, ht, _⟩ := entB_iff.1 h
  have := entN_f (f := f) ha ht
  unfold ixFresh
  cases f
  · rw [decide_eq_false_iff_not, this]; simp
  · rw [decide_eq_true_eq, this]
/-- What a look finds. -/
def ixHit (g : Nat → Nat) (t s : Nat) : Bool := decide (g s ≠ 0) && decide (ixTag (g s) = t)
def ixFree (g : Nat → Nat) (s : Nat) : Bool := decide (g s = 0)
def ixLook (g : Nat → Nat) (l : List Nat) (t : Nat) : Nat × Nat × Nat :=
  match l.find? (ixHit g t) with
  | some s => (1, s, g s)
  | none => match l.find? (ixFree g) with
    | some s => (2, s, 0)
    | none => (3, 0, 0)
/-- What is known of an index whose calls were looks told: cs tells the chains. -/
structure IxInv (B n : Nat) (g : Nat → Nat) (T : Nat) (cs : Nat → List Nat) : Prop where
  path : ∀ b, b < B → IxPath g b (cs b)
  lt : ∀ b, b < B → ∀ r ∈ cs b, r < B + T
  dis : ∀ b, b < B → ∀ b', b' < B → b ≠ b' → ∀ r ∈ cs b, ¬ r ∈ cs b'
  nod : ∀ b, b < B → (cs b).Nodup
  top : B + T ≤ n
  link : ∀ r, r < n → g (8 * r + 7) ≤ B + T
  zero : ∀ r, B + T ≤ r → r < n → ∀ k, k < 8 → g (8 * r + k) = 0
  word : ∀ r, r < n → ∀ k, k < 7 → g (8 * r + k) = 0 ∨ IxEn (g (8 * r + k))
  uniq : ∀ b, b < B → ∀ s ∈ ixSlots (cs b), ∀ s' ∈ ixSlots (cs b), g s ≠ 0 → g s' ≠ 0 → ixTag (g s) = ixTag (g s') → s = s'
/-- How many buckets are in the first chains. -/
def ixSum (cs : Nat → List Nat) : Nat → Nat
  | 0 => 0
  | b + 1 => ixSum cs b + ((cs b).length - 1)
theorem ixSum_congr {cs cs' : Nat → List Nat} {b : Nat} (h : ∀ j, j < b → (cs j).length = (cs' j).length) : ixSum cs b = ixSum cs' b := by
  induction b with
  | zero => rfl
  | succ b ih => unfold ixSum; rw [ih fun j hj => h j (by omega), h b (by omega)]
theorem ixSum_one {cs cs' : Nat → List Nat} {b i : Nat} (hi : i < b) (h : ∀ j, j < b → j ≠ i → (cs' j).length = (cs j).length) (h1 : (cs' i).length = (cs i).length + 1) (h0 : 0 < (cs i).length) : ixSum cs' b = ixSum cs b + 1 := by
  induction b with
  | zero => omega
  | succ b ih =>
    unfold ixSum
    by_cases e : i = b
    · subst e
      rw [ixSum_congr (cs := cs') (cs' := cs) (fun j hj => h j (by omega) (by omega)), h1]; omega
    · rw [ih (by omega) (fun j hj hne => h j (by omega) hne), h b (by omega) (fun x => e x.symm)]; omega
section
variable {B n : Nat} {g : Nat → Nat} {T : Nat} {cs : Nat → List Nat}
theorem IxInv.slot (h : IxInv B n g T cs) {b : Nat} (hb : b < B) {s : Nat} (hs : s ∈ ixSlots (cs b)) : ∃ r k, r ∈ cs b ∧ r < n ∧ k < 7 ∧ s = 8 * r + k := by
  obtain ⟨r, hr, k, hk, rfl⟩ := ixSlots_mem.1 hs
  have := h.lt b hb r hr
  have := h.top
  exact ⟨r, k, hr, by omega, hk, rfl⟩
/-- A slot has another word. -/
theorem IxInv.setSlot (h : IxInv B n g T cs) {b : Nat} (hb : b < B) {s : Nat} (hs : s ∈ ixSlots (cs b)) {x : Nat} (hx : IxEn x)
    (hu : ∀ s' ∈ ixSlots (cs b), s' ≠ s → g s' ≠ 0 → ixTag (g s') ≠ ixTag x) : IxInv B n (ixUpd g s x) T cs := by
  obtain ⟨r, k, hr, hrn, hk, rfl⟩ := h.slot hb hs
  have hrT := h.lt b hb r hr
  have lk : ∀ q, ixUpd g (8 * r + k) x (8 * q + 7) = g (8 * q + 7) := fun q => ixUpd_ne (by omega)
  refine ⟨fun b' hb' => (h.path b' hb').congr fun q _ => lk q, h.lt, h.dis, h.nod, h.top, fun q hq => by rw [lk]; exact h.link q hq, fun q h1 h2 j hj => ?_, fun q hq j hj => ?_, fun b' hb' s1 h1 s2 h2 => ?_⟩
  · rw [ixUpd_ne (by omega)]; exact h.zero q h1 h2 j hj
  · by_cases e : 8 * q + j = 8 * r + k
    · rw [e, ixUpd_same]; exact .inr hx
    · rw [ixUpd_ne e]; exact h.word q hq j hj
  · by_cases e : b' = b
    · subst e
      by_cases e1 : s1 = 8 * r + k
      · by_cases e2 : s2 = 8 * r + k
        · intro _ _ _; rw [e1, e2]
        · rw [e1, ixUpd_same, ixUpd_ne e2]
          intro _ g2 ht
          exact absurd ht.symm (hu s2 h2 e2 g2)
      · by_cases e2 : s2 = 8 * r + k
        · rw [e2, ixUpd_same, ixUpd_ne e1]
          intro g1 _ ht
          exact absurd ht (hu s1 h1 e1 g1)
        · rw [ixUpd_ne e1, ixUpd_ne e2]
          exact h.uniq b' hb' s1 h1 s2 h2
    · have ne : ∀ s', s' ∈ ixSlots (cs b') → s' ≠ 8 * r + k := fun s' hs' e' => by
        obtain ⟨r', hr', k', hk', e2⟩ := ixSlots_mem.1 hs'
        have : r' = r := by omega
        subst this
        exact h.dis b' hb' b hb e r' hr' hr
      rw [ixUpd_ne (ne s1 h1), ixUpd_ne (ne s2 h2)]
      exact h.uniq b' hb' s1 h1 s2 h2
/-- A spare bucket is taken and linked behind a chain. -/
def ixLink (cs : Nat → List Nat) (b s : Nat) : Nat → List Nat := fun j => if j = b then cs b ++ [s] else cs j
theorem IxInv.grow (h : IxInv B n g T cs) {b : Nat} (hb : b < B) (ht : B + T < n) : IxInv B n (ixUpd g (8 * ixLast (cs b) + 7) (B + T + 1)) (T + 1) (ixLink cs b (B + T)) := by
  have hp := h.path b hb
  have hlm := ixLast_mem hp.pos
  have hll := h.lt b hb _ hlm
  have hz := h.zero (B + T) (Nat.le_refl _) ht
  have sl : ∀ q k, k < 7 → ixUpd g (8 * ixLast (cs b) + 7) (B + T + 1) (8 * q + k) = g (8 * q + k) := fun q k hk => ixUpd_ne (by omega)
  have hnew : ∀ b', b' < B → ¬ (B + T) ∈ cs b' := fun b' hb' hm => by have := h.lt b' hb' _ hm; omega
  have hs2 : ∀ s, s ∈ ixSlots (cs b ++ [B + T]) → s ∈ ixSlots (cs b) ∨ g s = 0 := fun s hs => by
    obtain ⟨r, hr, k, hk, rfl⟩ := ixSlots_mem.1 hs
    rw [List.mem_append] at hr
    rcases hr with hr | hr
    · exact .inl (ixSlots_mem.2 ⟨r, hr, k, hk, rfl⟩)
    · simp at hr; subst hr; exact .inr (hz k (by omega))
  have gs : ∀ c s, s ∈ ixSlots c → ixUpd g (8 * ixLast (cs b) + 7) (B + T + 1) s = g s := fun c s hs => by
    obtain ⟨r, hr, k, hk, rfl⟩ := ixSlots_mem.1 hs
    exact sl r k hk
  refine ⟨fun b' hb' => ?_, fun b' hb' r hr => ?_, fun b1 h1 b2 h2 hne r hr => ?_, fun b' hb' => ?_, by omega, fun q hq => ?_, fun q h1 h2 j hj => ?_, fun q hq j hj => ?_, fun b' hb' => ?_⟩
  · unfold ixLink
    split
    · rename_i e; subst e
      exact hp.snoc (hz 7 (by omega)) (by omega)
    · rename_i e
      refine (h.path b' hb').congr fun q hq => ixUpd_ne fun e' => ?_
      have : q = ixLast (cs b) := by omega
      subst this
      exact h.dis b' hb' b hb e _ hq hlm
  · unfold ixLink at hr
    split at hr
    · rw [List.mem_append] at hr
      rcases hr with hr | hr
      · have := h.lt b hb r hr; omega
      · simp at hr; omega
    · have := h.lt b' hb' r hr; omega
  · unfold ixLink at hr ⊢
    split at hr
    · rename_i e; subst e
      rw [if_neg (fun e => hne e.symm)]
      rw [List.mem_append] at hr
      rcases hr with hr | hr
      · exact h.dis _ h1 _ h2 hne r hr
      · simp at hr; subst hr; exact hnew b2 h2
    · split
      · rename_i e; subst e
        rw [List.mem_append]
        rintro (hr' | hr')
        · exact h.dis _ h1 _ h2 hne r hr hr'
        · simp at hr'; subst hr'; exact hnew b1 h1 hr
      · exact h.dis _ h1 _ h2 hne r hr
  · unfold ixLink
    split
    · rw [List.nodup_append]
      refine ⟨h.nod b hb, by simp, ?_⟩
      intro a ha a' ha' e
      simp at ha'
      subst e; subst ha'
      exact hnew b hb ha
    · exact h.nod b' hb'
  · by_cases e : 8 * q + 7 = 8 * ixLast (cs b) + 7
    · rw [e, ixUpd_same]; omega
    · rw [ixUpd_ne e]; have := h.link q hq; omega
  · rw [ixUpd_ne (by omega)]; exact h.zero q (by omega) h2 j hj
  · rw [sl q j hj]; exact h.word q hq j hj
  · unfold ixLink
    split
    · intro s hs s' hs' g1 g2 ht'
      rw [gs _ s hs] at g1 ht'
      rw [gs _ s' hs'] at g2 ht'
      rcases hs2 s hs with i1 | i1
      · rcases hs2 s' hs' with i2 | i2
        · exact h.uniq b hb s i1 s' i2 g1 g2 ht'
        · exact absurd i2 g2
      · exact absurd i1 g1
    · intro s hs s' hs' g1 g2 ht'
      rw [gs _ s hs] at g1 ht'
      rw [gs _ s' hs'] at g2 ht'
      exact h.uniq b' hb' s hs s' hs' g1 g2 ht'
theorem ixLink_sum (hB : ∀ b, b < B → 0 < (cs b).length) {b s : Nat} (hb : b < B) : ixSum (ixLink cs b s) B = ixSum cs B + 1 := by
  refine ixSum_one (i := b) hb (fun j _ hne => ?_) ?_ (hB b hb)
  · unfold ixLink; rw [if_neg hne]
  · unfold ixLink; rw [if_pos rfl]; simp
/-- All tags of a chain differ. -/
theorem IxInv.pairs (h : IxInv B n g T cs) {b : Nat} (hb : b < B) : (ixEnts g (ixSlots (cs b))).Pairwise (fun x y => ixTag x ≠ ixTag y) := by
  unfold ixEnts
  rw [List.pairwise_filter, List.pairwise_map]
  have hn := ixSlots_nodup (h.nod b hb)
  refine List.Pairwise.imp_of_mem (fun {s s'} hs hs' hne g1 g2 ht => hne ?_) hn
  simp only [decide_eq_true_eq] at g1 g2
  exact h.uniq b hb s hs s' hs' g1 g2 ht
end
end Go.Proofs.Ytmpnbaiolmkhlaa
