/- A device as plain lists: blocks in their order, all that was asked. -/
import Derived.Test.YtjhndhibojndfaaW0
namespace Go.Proofs.Ytjhndhibojndfaa
abbrev Bk := Int × Int
/-- A request. -/
structure Rq where
  b : Bk
  wr : Bool
  s : ByteArray
/-- What was asked: st 0 under way, 1 done, 2 gone. -/
structure Job where
  b : Bk
  wr : Bool
  s : ByteArray
  no : Bool
  st : Nat
instance : Inhabited Job := ⟨⟨(0, 0), false, ⟨#[]⟩, false, 0⟩⟩
def Job.rq (j : Job) : Rq := ⟨j.b, j.wr, j.s⟩
structure Dv where
  off : Bool
  items : List (Bk × ByteArray)
  jobs : List Job
def okB (b : Bk) : Bool := decide (0 ≤ b.1) && decide (b.1 ≤ 2) && decide (0 ≤ b.2) && decide (b.2 ≤ 63)
def ltB (a b : Bk) : Prop := a.1 < b.1 ∨ (a.1 = b.1 ∧ a.2 < b.2)
def leB (a b : Bk) : Bool := decide (a.1 < b.1) || (decide (a.1 = b.1) && decide (a.2 ≤ b.2))
theorem ltB_irrefl (a : Bk) : ¬ ltB a a := by unfold ltB; omega
theorem ltB_trans {a b c : Bk} (h : ltB a b) (k : ltB b c) : ltB a c := by unfold ltB at *; omega
theorem ltB_or (a b : Bk) : ltB a b ∨ a = b ∨ ltB b a := by
  unfold ltB
  by_cases h1 : a.1 = b.1
  · by_cases h2 : a.2 = b.2
    · exact .inr (.inl (Prod.ext h1 h2))
    · omega
  · omega
theorem leB_iff {a b : Bk} : leB a b = true ↔ ¬ ltB b a := by unfold leB ltB; simp; omega
/-- Two rising lists with the same members are the same. -/
theorem rising_ext {α : Type} {lt : α → α → Prop} (ir : ∀ a, ¬ lt a a) (tr : ∀ {a b c}, lt a b → lt b c → lt a c) : ∀ {l m : List α}, l.Pairwise lt → m.Pairwise lt → (∀ x, x ∈ l ↔ x ∈ m) → l = m := by
  intro l
  induction l with
  | nil =>
    intro m _ _ h
    cases m with
    | nil => rfl
    | cons y m => exact absurd ((h y).2 (by simp)) (by simp)
  | cons x l ih =>
    intro m hl hm h
    cases m with
    | nil => exact absurd ((h x).1 (by simp)) (by simp)
    | cons y m =>
      obtain ⟨a1, a2⟩ := List.pairwise_cons.1 hl
      obtain ⟨b1, b2⟩ := List.pairwise_cons.1 hm
      have e : x = y := by
        rcases List.mem_cons.1 ((h x).1 (by simp)) with e | hx
        · exact e
        · rcases List.mem_cons.1 ((h y).2 (by simp)) with e | hy
          · exact e.symm
          · exact absurd (tr (b1 x hx) (a1 y hy)) (ir y)
      subst e
      congr 1
      refine ih a2 b2 (fun z => ⟨fun hz => ?_, fun hz => ?_⟩)
      · rcases List.mem_cons.1 ((h z).1 (by simp [hz])) with e | h'
        · subst e; exact absurd (a1 z hz) (ir z)
        · exact h'
      · rcases List.mem_cons.1 ((h z).2 (by simp [hz])) with e | h'
        · subst e; exact absurd (b1 z hz) (ir z)
        · exact h'
/-- What a block has. -/
def lookL (l : List (Bk × ByteArray)) (b : Bk) : Option ByteArray := (l.find? fun p => decide (p.1 = b)).map Prod.snd
/-- One round of Lay. -/
def layS (b : Bk) (s : ByteArray) (a : List (Bk × ByteArray) × Bool) (x : Bk × ByteArray) : List (Bk × ByteArray) × Bool :=
  let a1 := if a.2 = false ∧ leB b x.1 = true then (a.1 ++ [(b, s)], true) else a
  if x.1 = b then a1 else (a1.1 ++ [x], a1.2)
def layA (b : Bk) (s : ByteArray) (l : List (Bk × ByteArray)) : List (Bk × ByteArray) × Bool := l.foldl (layS b s) ([], false)
def lay (b : Bk) (s : ByteArray) (l : List (Bk × ByteArray)) : List (Bk × ByteArray) := if (layA b s l).2 then (layA b s l).1 else (layA b s l).1 ++ [(b, s)]
theorem layA_snoc (b : Bk) (s : ByteArray) (l : List (Bk × ByteArray)) (x : Bk × ByteArray) : layA b s (l ++ [x]) = layS b s (layA b s l) x := by simp [layA, List.foldl_append]
theorem snoc_ind {α : Type} {p : List α → Prop} (h0 : p []) (h1 : ∀ l x, p l → p (l ++ [x])) (l : List α) : p l := by
  have : ∀ n (l : List α), l.length = n → p l := by
    intro n
    induction n with
    | zero => intro l h; rw [List.eq_nil_of_length_eq_zero h]; exact h0
    | succ n ih =>
      intro l h
      have hne : l ≠ [] := fun e => by subst e; simp at h
      rw [← List.dropLast_concat_getLast hne]
      exact h1 _ _ (ih _ (by simp [h]))
  exact this _ l rfl
/-- What Lay has laid so far. -/
theorem layA_is (b : Bk) (s : ByteArray) (l : List (Bk × ByteArray)) :
    ((layA b s l).2 = false ∧ (layA b s l).1 = l ∧ ∀ p ∈ l, ltB p.1 b) ∨
    ((layA b s l).2 = true ∧ ∃ l1 l2, (layA b s l).1 = l1 ++ (b, s) :: l2 ∧ l1 ++ l2 = l.filter (fun p => decide (p.1 ≠ b)) ∧ (∀ p ∈ l1, ltB p.1 b) ∧ (l.Pairwise (fun p q => ltB p.1 q.1) → ∀ p ∈ l2, ltB b p.1)) := by
  induction l using snoc_ind with
  | h0 => exact .inl ⟨rfl, rfl, by simp⟩
  | h1 l x ih =>
    rw [layA_snoc]
    rcases ih with ⟨h1, h2, h3⟩ | ⟨h1, l1, l2, h2, h3, h4, h5⟩
    · rcases ltB_or x.1 b with hlt | heq | hgt
      · left
        have hle : leB b x.1 = false := by rw [Bool.eq_false_iff]; intro h; exact leB_iff.1 h hlt
        have hne : x.1 ≠ b := fun e => ltB_irrefl b (by rw [e] at hlt; exact hlt)
        refine ⟨by simp [layS, h1, hle, hne], by simp [layS, h1, h2, hle, hne], fun p hp => ?_⟩
        rcases List.mem_append.1 hp with hp | hp
        · exact h3 p hp
        · rw [List.mem_singleton.1 hp]; exact hlt
      · right
        have hle : leB b b = true := leB_iff.2 (ltB_irrefl b)
        refine ⟨by simp [layS, h1, hle, heq], l, [], by simp [layS, h1, h2, hle, heq], ?_, h3, fun _ p hp => by simp at hp⟩
        rw [List.filter_append, List.filter_eq_self.2 (fun p hp => by
          have := h3 p hp
          simp; intro e; rw [e] at this; exact ltB_irrefl b this)]
        simp [heq]
      · right
        have hle : leB b x.1 = true := leB_iff.2 (fun h => ltB_irrefl _ (ltB_trans h hgt))
        have hne : x.1 ≠ b := fun e => ltB_irrefl b (by rw [e] at hgt; exact hgt)
        refine ⟨by simp [layS, h1, hle, hne], l, [x], by simp [layS, h1, h2, hle, hne], ?_, h3, fun _ p hp => by rw [List.mem_singleton.1 hp]; exact hgt⟩
        rw [List.filter_append, List.filter_eq_self.2 (fun p hp => by
          have := h3 p hp
          simp; intro e; rw [e] at this; exact ltB_irrefl b this)]
        simp [hne]
    · right
      by_cases hne : x.1 = b
      · refine ⟨by simp [layS, h1, hne], l1, l2, by simp [layS, h1, h2, hne], ?_, h4, fun hp => h5 (List.pairwise_append.1 hp).1⟩
        rw [List.filter_append, h3]; simp [hne]
      · refine ⟨by simp [layS, h1, hne], l1, l2 ++ [x], by simp [layS, h1, h2, hne], ?_, h4, fun hp p hp' => ?_⟩
        · rw [List.filter_append, ← h3]; simp [hne]
        · obtain ⟨q1, -, q3⟩ := List.pairwise_append.1 hp
          rcases List.mem_append.1 hp' with hp' | hp'
          · exact h5 q1 p hp'
          · rw [List.mem_singleton.1 hp']
            rcases ltB_or x.1 b with hlt | heq | hgt
            · exfalso
              -- some y of l is not below b, and stands ahead of x
              have hex : ∃ y ∈ l, ¬ ltB y.1 b := by
                apply Classical.byContradiction
                intro hno
                have hall : ∀ y ∈ l, ltB y.1 b := fun y hy => Classical.byContradiction fun h => hno ⟨y, hy, h⟩
                have : ∀ m : List (Bk × ByteArray), (∀ y ∈ m, ltB y.1 b) → (layA b s m).2 = false := by
                  intro m
                  induction m using snoc_ind with
                  | h0 => intro _; rfl
                  | h1 m y ih =>
                    intro hm
                    have ih' := ih (fun z hz => hm z (by simp [hz]))
                    have hy := hm y (by simp)
                    have hle : leB b y.1 = false := by rw [Bool.eq_false_iff]; intro h; exact leB_iff.1 h hy
                    rw [layA_snoc]
                    simp only [layS, ih', hle]
                    split <;> simp [ih']
                rw [this l hall] at h1; cases h1
              obtain ⟨y, hy, hyb⟩ := hex
              exact hyb (ltB_trans (q3 y hy x (by simp)) hlt)
            · exact absurd heq hne
            · exact hgt
theorem lay_is (b : Bk) (s : ByteArray) (l : List (Bk × ByteArray)) :
    ∃ l1 l2, lay b s l = l1 ++ (b, s) :: l2 ∧ l1 ++ l2 = l.filter (fun p => decide (p.1 ≠ b)) ∧ (∀ p ∈ l1, ltB p.1 b) ∧ (l.Pairwise (fun p q => ltB p.1 q.1) → ∀ p ∈ l2, ltB b p.1) := by
  rcases layA_is b s l with ⟨h1, h2, h3⟩ | ⟨h1, l1, l2, h2, h3, h4, h5⟩
  · refine ⟨l, [], by simp [lay, h1, h2], ?_, h3, fun _ p hp => by simp at hp⟩
    rw [List.append_nil, List.filter_eq_self.2 (fun p hp => by
      have := h3 p hp
      simp; intro e; rw [e] at this; exact ltB_irrefl b this)]
  · exact ⟨l1, l2, by simp [lay, h1, h2], h3, h4, h5⟩
theorem lay_mem {b : Bk} {s : ByteArray} {l : List (Bk × ByteArray)} {p : Bk × ByteArray} : p ∈ lay b s l ↔ p = (b, s) ∨ (p ∈ l ∧ p.1 ≠ b) := by
  obtain ⟨l1, l2, h1, h2, -⟩ := lay_is b s l
  have : p ∈ l1 ++ l2 ↔ p ∈ l ∧ p.1 ≠ b := by rw [h2, List.mem_filter]; simp
  rw [h1, List.mem_append, List.mem_cons, ← this, List.mem_append]
  constructor
  · rintro (h | h | h)
    · exact .inr (.inl h)
    · exact .inl h
    · exact .inr (.inr h)
  · rintro (h | h | h)
    · exact .inr (.inl h)
    · exact .inl h
    · exact .inr (.inr h)
theorem lay_rising {b : Bk} {s : ByteArray} {l : List (Bk × ByteArray)} (h : l.Pairwise (fun p q => ltB p.1 q.1)) : (lay b s l).Pairwise (fun p q => ltB p.1 q.1) := by
  obtain ⟨l1, l2, h1, h2, h3, h4⟩ := lay_is b s l
  have h5 := h4 h
  have hf : (l1 ++ l2).Pairwise (fun p q => ltB p.1 q.1) := by rw [h2]; exact h.filter _
  obtain ⟨q1, q2, q3⟩ := List.pairwise_append.1 hf
  rw [h1]
  refine List.pairwise_append.2 ⟨q1, List.pairwise_cons.2 ⟨fun p hp => h5 p hp, q2⟩, fun p hp q hq => ?_⟩
  rcases List.mem_cons.1 hq with rfl | hq
  · exact h3 p hp
  · exact q3 p hp q hq
theorem lookL_lay (b : Bk) (s : ByteArray) (l : List (Bk × ByteArray)) (x : Bk) : lookL (lay b s l) x = if x = b then some s else lookL l x := by
  obtain ⟨l1, l2, h1, h2, h3, -⟩ := lay_is b s l
  by_cases e : x = b
  · subst e
    rw [if_pos rfl]
    unfold lookL
    rw [h1, List.find?_append, List.find?_eq_none.2 (fun p hp => by
      have := h3 p hp
      simp; intro e; rw [e] at this; exact ltB_irrefl _ this)]
    simp
  · rw [if_neg e]
    unfold lookL
    have hf : (l1 ++ l2).find? (fun p => decide (p.1 = x)) = l.find? (fun p => decide (p.1 = x)) := by
      rw [h2, List.find?_filter]
      congr 1
      funext p
      by_cases hp : p.1 = x
      · simp [hp, e]
      · simp [hp]
    rw [h1, ← hf, List.find?_append, List.find?_append, List.find?_cons]
    simp [show ¬ b = x from fun e' => e e'.symm]
theorem lookL_some {l : List (Bk × ByteArray)} {b : Bk} {s : ByteArray} (h : lookL l b = some s) : (b, s) ∈ l := by
  unfold lookL at h
  cases e : l.find? (fun p => decide (p.1 = b)) with
  | none => rw [e] at h; cases h
  | some p =>
    rw [e] at h
    have h1 := List.mem_of_find?_eq_some e
    have h2 := List.find?_some e
    simp at h2 h
    obtain ⟨p1, p2⟩ := p
    simp at h2 h
    subst h2 h
    exact h1
theorem lookL_mem {l : List (Bk × ByteArray)} {b : Bk} : lookL l b ≠ none ↔ b ∈ l.map Prod.fst := by
  unfold lookL
  constructor
  · intro h
    cases e : l.find? (fun p => decide (p.1 = b)) with
    | none => rw [e] at h; exact absurd rfl h
    | some p =>
      have h1 := List.mem_of_find?_eq_some e
      have h2 := List.find?_some e
      simp at h2
      exact List.mem_map.2 ⟨p, h1, h2⟩
  · intro h e
    obtain ⟨p, hp, rfl⟩ := List.mem_map.1 h
    rw [Option.map_eq_none_iff, List.find?_eq_none] at e
    exact e p hp (by simp)
theorem lookL_rising {l : List (Bk × ByteArray)} (h : l.Pairwise (fun p q => ltB p.1 q.1)) {p : Bk × ByteArray} (hp : p ∈ l) : lookL l p.1 = some p.2 := by
  have h1 : lookL l p.1 ≠ none := lookL_mem.2 (List.mem_map.2 ⟨p, hp, rfl⟩)
  obtain ⟨s, hs⟩ := Option.ne_none_iff_exists'.1 h1
  have h2 := lookL_some hs
  have : ∀ {l : List (Bk × ByteArray)}, l.Pairwise (fun p q => ltB p.1 q.1) → ∀ {p q}, p ∈ l → q ∈ l → p.1 = q.1 → p = q := by
    intro l
    induction l with
    | nil => intro _ p q hp; simp at hp
    | cons x l ih =>
      intro h p q hp hq e
      obtain ⟨a1, a2⟩ := List.pairwise_cons.1 h
      rcases List.mem_cons.1 hp with hp' | hp'
      · rcases List.mem_cons.1 hq with hq' | hq'
        · rw [hp', hq']
        · have := a1 q hq'; rw [← hp', e] at this; exact absurd this (ltB_irrefl _)
      · rcases List.mem_cons.1 hq with hq' | hq'
        · have := a1 p hp'; rw [← hq', e] at this; exact absurd this (ltB_irrefl _)
        · exact ih a2 hp' hq' e
  have h3 := congrArg Prod.snd (this h hp h2 rfl)
  simp at h3
  rw [hs, h3]
end Go.Proofs.Ytjhndhibojndfaa
