/- Parts of the proof: Dm Da Dn Db Dc Dd De Df Dg Dh Di Dj. -/
import Derived.Test.YtfghfbmmaclcnaaGreatJ1
import Derived.Test.YtfghfbmmaclcnaaGreatJ4
import Derived.Maps.RangeWalk
import Derived.DeepKeys4
import Derived.Deep.RegionHeld3
import Derived.Deep.RegionLaw
namespace Go.Proofs.YtfghfbmmaclcnaaGreat
set_option maxRecDepth 20000
abbrev Bk := Int × Int
/-- A request. -/
structure Rq where
  b : Bk
  wr : Bool
  s : ByteArray
/-- What was asked: st 0 under way, 1 done, 2 gone. -/
structure Job where
  b : Bk
  wr : Bool
  s : ByteArray
  no : Bool
  st : Nat
instance : Inhabited Job := ⟨⟨(0, 0), false, ⟨#[]⟩, false, 0⟩⟩
def Job.rq (j : Job) : Rq := ⟨j.b, j.wr, j.s⟩
structure Dv where
  off : Bool
  items : List (Bk × ByteArray)
  jobs : List Job
def okB (b : Bk) : Bool := decide (0 ≤ b.1) && decide (b.1 ≤ 2) && decide (0 ≤ b.2) && decide (b.2 ≤ 63)
def ltB (a b : Bk) : Prop := a.1 < b.1 ∨ (a.1 = b.1 ∧ a.2 < b.2)
def leB (a b : Bk) : Bool := decide (a.1 < b.1) || (decide (a.1 = b.1) && decide (a.2 ≤ b.2))
theorem ltB_irrefl (a : Bk) : ¬ ltB a a := by unfold ltB; omega
theorem ltB_trans {a b c : Bk} (h : ltB a b) (k : ltB b c) : ltB a c := by unfold ltB at *; omega
theorem ltB_or (a b : Bk) : ltB a b ∨ a = b ∨ ltB b a := by
  unfold ltB
  by_cases h1 : a.1 = b.1
  · by_cases h2 : a.2 = b.2
    · exact .inr (.inl (Prod.ext h1 h2))
    · omega
  · omega
theorem leB_iff {a b : Bk} : leB a b = true ↔ ¬ ltB b a := by unfold leB ltB; simp; omega
/-- Two rising lists with the same members are the same. -/
theorem rising_ext {α : Type} {lt : α → α → Prop} (ir : ∀ a, ¬ lt a a) (tr : ∀ {a b c}, lt a b → lt b c → lt a c) : ∀ {l m : List α}, l.Pairwise lt → m.Pairwise lt → (∀ x, x ∈ l ↔ x ∈ m) → l = m := by
  intro l
  induction l with
  | nil =>
    intro m _ _ h
    cases m with
    | nil => rfl
    | cons y m => exact absurd ((h y).2 (by simp)) (by simp)
  | cons x l ih =>
    intro m hl hm h
    cases m with
    | nil => exact absurd ((h x).1 (by simp)) (by simp)
    | cons y m =>
      obtain ⟨a1, a2⟩ := List.pairwise_cons.1 hl
      obtain ⟨b1, b2⟩ := List.pairwise_cons.1 hm
      have e : x = y := by
        rcases List.mem_cons.1 ((h x).1 (by simp)) with e | hx
        · exact e
        · rcases List.mem_cons.1 ((h y).2 (by simp)) with e | hy
          · exact e.symm
          · exact absurd (tr (b1 x hx) (a1 y hy)) (ir y)
      subst e
      congr 1
      refine ih a2 b2 (fun z => ⟨fun hz => ?_, fun hz => ?_⟩)
      · rcases List.mem_cons.1 ((h z).1 (by simp [hz])) with e | h'
        · subst e; exact absurd (a1 z hz) (ir z)
        · exact h'
      · rcases List.mem_cons.1 ((h z).2 (by simp [hz])) with e | h'
        · subst e; exact absurd (b1 z hz) (ir z)
        · exact h'
/-- What a block has. -/
def lookL (l : List (Bk × ByteArray)) (b : Bk) : Option ByteArray := (l.find? fun p => decide (p.1 = b)).map Prod.snd
/-- One round of Lay. -/
def layS (b : Bk) (s : ByteArray) (a : List (Bk × ByteArray) × Bool) (x : Bk × ByteArray) : List (Bk × ByteArray) × Bool :=
  let a1 := if a.2 = false ∧ leB b x.1 = true then (a.1 ++ [(b, s)], true) else a
  if x.1 = b then a1 else (a1.1 ++ [x], a1.2)
def layA (b : Bk) (s : ByteArray) (l : List (Bk × ByteArray)) : List (Bk × ByteArray) × Bool := l.foldl (layS b s) ([], false)
def lay (b : Bk) (s : ByteArray) (l : List (Bk × ByteArray)) : List (Bk × ByteArray) := if (layA b s l).2 then (layA b s l).1 else (layA b s l).1 ++ [(b, s)]
theorem layA_snoc (b : Bk) (s : ByteArray) (l : List (Bk × ByteArray)) (x : Bk × ByteArray) : layA b s (l ++ [x]) = layS b s (layA b s l) x := by simp [layA, List.foldl_append]
theorem snoc_ind {α : Type} {p : List α → Prop} (h0 : p []) (h1 : ∀ l x, p l → p (l ++ [x])) (l : List α) : p l := by
  have : ∀ n (l : List α), l.length = n → p l := by
    intro n
    induction n with
    | zero => intro l h; rw [List.eq_nil_of_length_eq_zero h]; exact h0
    | succ n ih =>
      intro l h
      have hne : l ≠ [] := fun e => by subst e; simp at h
      rw [← List.dropLast_concat_getLast hne]
      exact h1 _ _ (ih _ (by simp [h]))
  exact this _ l rfl
/-- What Lay has laid so far. -/
theorem layA_is (b : Bk) (s : ByteArray) (l : List (Bk × ByteArray)) :
    ((layA b s l).2 = false ∧ (layA b s l).1 = l ∧ ∀ p ∈ l, ltB p.1 b) ∨
    ((layA b s l).2 = true ∧ ∃ l1 l2, (layA b s l).1 = l1 ++ (b, s) :: l2 ∧ l1 ++ l2 = l.filter (fun p => decide (p.1 ≠ b)) ∧ (∀ p ∈ l1, ltB p.1 b) ∧ (l.Pairwise (fun p q => ltB p.1 q.1) → ∀ p ∈ l2, ltB b p.1)) := by
  induction l using snoc_ind with
  | h0 => exact .inl ⟨rfl, rfl, by simp⟩
  | h1 l x ih =>
    rw [layA_snoc]
    rcases ih with ⟨h1, h2, h3⟩ | ⟨h1, l1, l2, h2, h3, h4, h5⟩
    · rcases ltB_or x.1 b with hlt | heq | hgt
      · left
        have hle : leB b x.1 = false := by rw [Bool.eq_false_iff]; intro h; exact leB_iff.1 h hlt
        have hne : x.1 ≠ b := fun e => ltB_irrefl b (by rw [e] at hlt; exact hlt)
        refine ⟨by simp [layS, h1, hle, hne], by simp [layS, h1, h2, hle, hne], fun p hp => ?_⟩
        rcases List.mem_append.1 hp with hp | hp
        · exact h3 p hp
        · rw [List.mem_singleton.1 hp]; exact hlt
      · right
        have hle : leB b b = true := leB_iff.2 (ltB_irrefl b)
        refine ⟨by simp [layS, h1, hle, heq], l, [], by simp [layS, h1, h2, hle, heq], ?_, h3, fun _ p hp => by simp at hp⟩
        rw [List.filter_append, List.filter_eq_self.2 (fun p hp => by
          have := h3 p hp
          simp; intro e; rw [e] at this; exact ltB_irrefl b this)]
        simp [heq]
      · right
        have hle : leB b x.1 = true := leB_iff.2 (fun h => ltB_irrefl _ (ltB_trans h hgt))
        have hne : x.1 ≠ b := fun e => ltB_irrefl b (by rw [e] at hgt; exact hgt)
        refine ⟨by simp [layS, h1, hle, hne], l, [x], by simp [layS, h1, h2, hle, hne], ?_, h3, fun _ p hp => by rw [List.mem_singleton.1 hp]; exact hgt⟩
        rw [List.filter_append, List.filter_eq_self.2 (fun p hp => by
          have := h3 p hp
          simp; intro e; rw [e] at this; exact ltB_irrefl b this)]
        simp [hne]
    · right
      by_cases hne : x.1 = b
      · refine ⟨by simp [layS, h1, hne], l1, l2, by simp [layS, h1, h2, hne], ?_, h4, fun hp => h5 (List.pairwise_append.1 hp).1⟩
        rw [List.filter_append, h3]; simp [hne]
      · refine ⟨by simp [layS, h1, hne], l1, l2 ++ [x], by simp [layS, h1, h2, hne], ?_, h4, fun hp p hp' => ?_⟩
        · rw [List.filter_append, ← h3]; simp [hne]
        · obtain ⟨q1, -, q3⟩ := List.pairwise_append.1 hp
          rcases List.mem_append.1 hp' with hp' | hp'
          · exact h5 q1 p hp'
          · rw [List.mem_singleton.1 hp']
            rcases ltB_or x.1 b with hlt | heq | hgt
            · exfalso
              -- some y of l is not below b, and stands ahead of x
              have hex : ∃ y ∈ l, ¬ ltB y.1 b := by
                apply Classical.byContradiction
                intro hno
                have hall : ∀ y ∈ l, ltB y.1 b := fun y hy => Classical.byContradiction fun h => hno ⟨y, hy, h⟩
                have : ∀ m : List (Bk × ByteArray), (∀ y ∈ m, ltB y.1 b) → (layA b s m).2 = false := by
                  intro m
                  induction m using snoc_ind with
                  | h0 => intro _; rfl
                  | h1 m y ih =>
                    intro hm
                    have ih' := ih (fun z hz => hm z (by simp [hz]))
                    have hy := hm y (by simp)
                    have hle : leB b y.1 = false := by rw [Bool.eq_false_iff]; intro h; exact leB_iff.1 h hy
                    rw [layA_snoc]
                    simp only [layS, ih', hle]
                    split <;> simp [ih']
                rw [this l hall] at h1; cases h1
              obtain ⟨y, hy, hyb⟩ := hex
              exact hyb (ltB_trans (q3 y hy x (by simp)) hlt)
            · exact absurd heq hne
            · exact hgt
theorem lay_is (b : Bk) (s : ByteArray) (l : List (Bk × ByteArray)) :
    ∃ l1 l2, lay b s l = l1 ++ (b, s) :: l2 ∧ l1 ++ l2 = l.filter (fun p => decide (p.1 ≠ b)) ∧ (∀ p ∈ l1, ltB p.1 b) ∧ (l.Pairwise (fun p q => ltB p.1 q.1) → ∀ p ∈ l2, ltB b p.1) := by
  rcases layA_is b s l with ⟨h1, h2, h3⟩ | ⟨h1, l1, l2, h2, h3, h4, h5⟩
  · refine ⟨l, [], by simp [lay, h1, h2], ?_, h3, fun _ p hp => by simp at hp⟩
    rw [List.append_nil, List.filter_eq_self.2 (fun p hp => by
      have := h3 p hp
      simp; intro e; rw [e] at this; exact ltB_irrefl b this)]
  · exact ⟨l1, l2, by simp [lay, h1, h2], h3, h4, h5⟩
theorem lay_mem {b : Bk} {s : ByteArray} {l : List (Bk × ByteArray)} {p : Bk × ByteArray} : p ∈ lay b s l ↔ p = (b, s) ∨ (p ∈ l ∧ p.1 ≠ b) := by
  obtain ⟨l1, l2, h1, h2, -⟩ := lay_is b s l
  have : p ∈ l1 ++ l2 ↔ p ∈ l ∧ p.1 ≠ b := by rw [h2, List.mem_filter]; simp
  rw [h1, List.mem_append, List.mem_cons, ← this, List.mem_append]
  constructor
  · rintro (h | h | h)
    · exact .inr (.inl h)
    · exact .inl h
    · exact .inr (.inr h)
  · rintro (h | h | h)
    · exact .inr (.inl h)
    · exact .inl h
    · exact .inr (.inr h)
theorem lay_rising {b : Bk} {s : ByteArray} {l : List (Bk × ByteArray)} (h : l.Pairwise (fun p q => ltB p.1 q.1)) : (lay b s l).Pairwise (fun p q => ltB p.1 q.1) := by
  obtain ⟨l1, l2, h1, h2, h3, h4⟩ := lay_is b s l
  have h5 := h4 h
  have hf : (l1 ++ l2).Pairwise (fun p q => ltB p.1 q.1) := by rw [h2]; exact h.filter _
  obtain ⟨q1, q2, q3⟩ := List.pairwise_append.1 hf
  rw [h1]
  refine List.pairwise_append.2 ⟨q1, List.pairwise_cons.2 ⟨fun p hp => h5 p hp, q2⟩, fun p hp q hq => ?_⟩
  rcases List.mem_cons.1 hq with rfl | hq
  · exact h3 p hp
  · exact q3 p hp q hq
theorem lookL_lay (b : Bk) (s : ByteArray) (l : List (Bk × ByteArray)) (x : Bk) : lookL (lay b s l) x = if x = b then some s else lookL l x := by
  obtain ⟨l1, l2, h1, h2, h3, -⟩ := lay_is b s l
  by_cases e : x = b
  · subst e
    rw [if_pos rfl]
    unfold lookL
    rw [h1, List.find?_append, List.find?_eq_none.2 (fun p hp => by
      have := h3 p hp
      simp; intro e; rw [e] at this; exact ltB_irrefl _ this)]
    simp
  · rw [if_neg e]
    unfold lookL
    have hf : (l1 ++ l2).find? (fun p => decide (p.1 = x)) = l.find? (fun p => decide (p.1 = x)) := by
      rw [h2, List.find?_filter]
      congr 1
      funext p
      by_cases hp : p.1 = x
      · simp [hp, e]
      · simp [hp]
    rw [h1, ← hf, List.find?_append, List.find?_append, List.find?_cons]
    simp [show ¬ b = x from fun e' => e e'.symm]
theorem lookL_some {l : List (Bk × ByteArray)} {b : Bk} {s : ByteArray} (h : lookL l b = some s) : (b, s) ∈ l := by
  unfold lookL at h
  cases e : l.find? (fun p => decide (p.1 = b)) with
  | none => rw [e] at h; cases h
  | some p =>
    rw [e] at h
    have h1 := List.mem_of_find?_eq_some e
    have h2 := List.find?_some e
    simp at h2 h
    obtain ⟨p1, p2⟩ := p
    simp at h2 h
    subst h2 h
    exact h1
theorem lookL_mem {l : List (Bk × ByteArray)} {b : Bk} : lookL l b ≠ none ↔ b ∈ l.map Prod.fst := by
  unfold lookL
  constructor
  · intro h
    cases e : l.find? (fun p => decide (p.1 = b)) with
    | none => rw [e] at h; exact absurd rfl h
    | some p =>
      have h1 := List.mem_of_find?_eq_some e
      have h2 := List.find?_some e
      simp at h2
      exact List.mem_map.2 ⟨p, h1, h2⟩
  · intro h e
    obtain ⟨p, hp, rfl⟩ := List.mem_map.1 h
    rw [Option.map_eq_none_iff, List.find?_eq_none] at e
    exact e p hp (by simp)
theorem lookL_rising {l : List (Bk × ByteArray)} (h : l.Pairwise (fun p q => ltB p.1 q.1)) {p : Bk × ByteArray} (hp : p ∈ l) : lookL l p.1 = some p.2 := by
  have h1 : lookL l p.1 ≠ none := lookL_mem.2 (List.mem_map.2 ⟨p, hp, rfl⟩)
  obtain ⟨s, hs⟩ := Option.ne_none_iff_exists'.1 h1
  have h2 := lookL_some hs
  have : ∀ {l : List (Bk × ByteArray)}, l.Pairwise (fun p q => ltB p.1 q.1) → ∀ {p q}, p ∈ l → q ∈ l → p.1 = q.1 → p = q := by
    intro l
    induction l with
    | nil => intro _ p q hp; simp at hp
    | cons x l ih =>
      intro h p q hp hq e
      obtain ⟨a1, a2⟩ := List.pairwise_cons.1 h
      rcases List.mem_cons.1 hp with hp' | hp'
      · rcases List.mem_cons.1 hq with hq' | hq'
        · rw [hp', hq']
        · have := a1 q hq'; rw [← hp', e] at this; exact absurd this (ltB_irrefl _)
      · rcases List.mem_cons.1 hq with hq' | hq'
        · have := a1 p hp'; rw [← hq', e] at this; exact absurd this (ltB_irrefl _)
        · exact ih a2 hp' hq' e
  have h3 := congrArg Prod.snd (this h hp h2 rfl)
  simp at h3
  rw [hs, h3]
end Go.Proofs.YtfghfbmmaclcnaaGreat
namespace Go.Proofs.YtfghfbmmaclcnaaGreat
set_option maxRecDepth 20000
open Go.RowKit Go.Maps
open Go.ChangeMaps (setBlock heap_setBlock_same heap_setBlock_other)
theorem nodup_len_le {α : Type} {a b : List α} (ha : a.Nodup) (h : ∀ x ∈ a, x ∈ b) : a.length ≤ b.length := by
  classical
  induction a generalizing b with
  | nil => simp
  | cons x a ih =>
    have hx : x ∈ b := h x (by simp)
    obtain ⟨h1, h2⟩ := List.nodup_cons.1 ha
    have := ih (b := b.erase x) h2 (fun y hy => (List.mem_erase_of_ne (fun e => h1 (by rw [← e]; exact hy))).2 (h y (by simp [hy])))
    rw [List.length_erase_of_mem hx] at this
    have : 0 < b.length := List.length_pos_of_mem hx
    simp; omega
/-- A kind of maps: types, how keys and elements stand as values. -/
structure MK (κ ν : Type) where
  t : TypeId
  k : TypeId
  e : TypeId
  kv : κ → Value
  kl : κ → Lit
  ok : κ → Prop
  vv : ν → Value
  en : ν → DataW Unit
  z : ν
  keyed : Keyed Tryz.prog k
  ty : Tryz.prog.underlying t = some (.map k e)
  key : ∀ x, ok x → keyOf Tryz.prog k (kv x) = some (kl x)
  keyInv : ∀ v l, keyOf Tryz.prog k v = some l → ∃ x, ok x ∧ v = kv x
  kvInj : ∀ x y, kv x = kv y → x = y
  vvInj : ∀ x y, vv x = vv y → x = y
  enInj : ∀ x y, en x = en y → x = y
  zero : ∀ w, (zeroValue e).run Tryz.prog w = .ok (vv z) w
section
variable {κ ν : Type} (M : MK κ ν)
theorem MK.klInj {x y : κ} (hx : M.ok x) (hy : M.ok y) (h : M.kl x = M.kl y) : x = y :=
  M.kvInj x y (M.keyed.inj (M.key x hx) (by rw [h]; exact M.key y hy))
open Classical in
noncomputable def MK.R (v : Value) : Option (DataW Unit × List MemPlace) := if h : ∃ c, v = M.vv c then some (M.en h.choose, []) else none
theorem MK.R_mk (c : ν) : M.R (M.vv c) = some (M.en c, []) := by
  have h : ∃ c', M.vv c = M.vv c' := ⟨c, rfl⟩
  unfold MK.R
  rw [dif_pos h, ← M.vvInj _ _ h.choose_spec]
theorem MK.R_inv {v : Value} {y : DataW Unit × List MemPlace} (h : M.R v = some y) : ∃ c, v = M.vv c ∧ y = (M.en c, []) := by
  unfold MK.R at h
  split at h
  · rename_i hc
    cases h
    exact ⟨_, hc.choose_spec, rfl⟩
  · cases h
/-- What the datum tells, as a function. -/
def Tells (D : DataW Unit) (m : κ → Option ν) : Prop := ∀ x, M.ok x → (m x = none → has D (M.kl x) = false) ∧ ∀ v, m x = some v → has D (M.kl x) = true ∧ ∀ z, D.atKey (M.kl x) z = M.en v
/-- Block b is a map that holds m. -/
def MapAs (w : World) (b : Nat) (m : κ → Option ν) : Prop := ∃ n D, w.ownsMap Tryz.prog M.k M.R b n D ∧ Tells M D m
variable {M}
theorem MapAs.made (w : World) : MapAs M (w.alloc (.map #[] 0)) w.heap.size (fun _ => none) :=
  ⟨0, _, World.ownsMap_made _ _ _ _, fun _ _ => ⟨fun _ => rfl, fun _ h => by cases h⟩⟩
theorem MapAs.lt {w : World} {b : Nat} {m : κ → Option ν} (h : MapAs M w b m) : b < w.heap.size := by
  obtain ⟨n, D, h, _⟩ := h
  exact h.lt
theorem MapAs.block {w w' : World} {b : Nat} {m : κ → Option ν} (h : MapAs M w b m) (hb : w'.heap[b]? = w.heap[b]?) : MapAs M w' b m := by
  obtain ⟨n, D, ⟨es, clock, hb', r⟩, hT⟩ := h
  exact ⟨n, D, ⟨es, clock, hb.trans hb', r⟩, hT⟩
theorem MapAs.keep {w w' : World} {b : Nat} {m : κ → Option ν} {S : Nat → Prop} (h : MapAs M w b m) (hk : Keeps S w w') (hS : ¬ S b) : MapAs M w' b m := h.block (hk.block b h.lt hS)
theorem MapAs.below {w w' : World} {b : Nat} {m : κ → Option ν} (h : MapAs M w b m) (hb : Below w.heap.size w w') : MapAs M w' b m := h.block (hb.block b h.lt)
theorem MapAs.alloc {w : World} {b : Nat} {m : κ → Option ν} (h : MapAs M w b m) (o : Obj) : MapAs M (w.alloc o) b m := h.below ((Below.refl _ _).alloc (Nat.le_refl _) o)
theorem MapAs.drew {w : World} {b : Nat} {m : κ → Option ν} (h : MapAs M w b m) (k : Nat) : MapAs M (w.drewN k) b m := h
theorem MapAs.eq {w : World} {b : Nat} {m m' : κ → Option ν} (h : MapAs M w b m) (he : ∀ x, M.ok x → m' x = m x) : MapAs M w b m' := by
  obtain ⟨n, D, h, hT⟩ := h
  exact ⟨n, D, h, fun x hx => by rw [he x hx]; exact hT x hx⟩
theorem tells_look {D : DataW Unit} {m : κ → Option ν} (hT : Tells M D m) {x : κ} (hx : M.ok x) {v : Value} {ps : List MemPlace} (h : M.R v = some (D.atKey (M.kl x) (M.en M.z), ps)) : v = M.vv ((m x).getD M.z) ∧ has D (M.kl x) = (m x).isSome := by
  obtain ⟨c, rfl, hc⟩ := M.R_inv h
  have hc1 : D.atKey (M.kl x) (M.en M.z) = M.en c := congrArg Prod.fst hc
  cases e : m x with
  | none =>
    have hh := (hT x hx).1 e
    rw [atKey_of_not_has hh] at hc1
    rw [M.enInj _ _ hc1.symm, hh]
    exact ⟨rfl, rfl⟩
  | some u =>
    obtain ⟨hh, ha⟩ := (hT x hx).2 u e
    rw [ha] at hc1
    rw [M.enInj _ _ hc1.symm, hh]
    exact ⟨rfl, rfl⟩
/-- 'v, ok := m[x]'. -/
theorem MapAs.look {w : World} {b : Nat} {m : κ → Option ν} (h : MapAs M w b m) {x : κ} (hx : M.ok x) :
    (Instr.lookup M.t (.map (some b)) (M.kv x) true).run Tryz.prog w = .ok (.tuple #[M.vv ((m x).getD M.z), .bool (m x).isSome]) w := by
  obtain ⟨n, D, h, hT⟩ := h
  obtain ⟨v, ps, hr, hv⟩ := h.look_ok M.keyed M.ty (M.zero w) (M.R_mk M.z) (M.key x hx)
  obtain ⟨rfl, h2⟩ := tells_look hT hx hv
  rw [hr, h2]
/-- 'm[x]'. -/
theorem MapAs.at {w : World} {b : Nat} {m : κ → Option ν} (h : MapAs M w b m) {x : κ} (hx : M.ok x) :
    (Instr.lookup M.t (.map (some b)) (M.kv x) false).run Tryz.prog w = .ok (M.vv ((m x).getD M.z)) w := by
  obtain ⟨n, D, h, hT⟩ := h
  obtain ⟨v, ps, hr, hv⟩ := h.lookup M.keyed M.ty (M.zero w) (M.R_mk M.z) (M.key x hx)
  obtain ⟨rfl, h2⟩ := tells_look hT hx hv
  rw [hr]
theorem Keeps.turned {w w' : World} {b : Nat} (h : w.mapTurned w' b) : Keeps (fun k => k = b) w w' :=
  ⟨h.grown.os, h.grown.tape, h.grown.output, h.grown.size, fun k hk hne => h.grown.block k hk (fun e => hne (by cases e; rfl))⟩
theorem turned_size {w w' : World} {b : Nat} (h : w.mapTurned w' b) : w'.heap.size = w.heap.size := by
  obtain ⟨es, clock, es', clock', hb, rfl⟩ := h
  simp [setBlock]
theorem has_key {es : List (Lit × DataW Unit)} {l : Lit} (hl : WideAt.IsKeyLit l) : has (.map es) l = true ↔ l ∈ es.map Prod.fst := by
  rw [has_eq, List.any_eq_true]
  constructor
  · rintro ⟨p, hp, h⟩
    exact List.mem_map.2 ⟨p, hp, WideAt.sameKey_eq h⟩
  · intro h
    obtain ⟨p, hp, rfl⟩ := List.mem_map.1 h
    exact ⟨p, hp, WideAt.sameKey_self hl⟩
theorem owns_keys {w : World} {b n : Nat} {D : DataW Unit} (h : w.ownsMap Tryz.prog M.k M.R b n D) : ∃ es, D = .map es ∧ (es.map Prod.fst).Nodup ∧ ∀ l ∈ es.map Prod.fst, ∃ x, M.ok x ∧ l = M.kl x := by
  obtain ⟨es', he', hp, -⟩ := h.entries M.keyed
  refine ⟨es', he', ?_, ?_⟩
  · rw [List.Nodup, List.pairwise_map]; exact hp
  · obtain ⟨es, clock, hb, F, hs, hD⟩ := h
    rw [hD] at he'
    cases he'
    intro l hl
    obtain ⟨p, hp', rfl⟩ := List.mem_map.1 hl
    obtain ⟨x, hx, rfl⟩ := List.mem_map.1 (mem_sorted.1 hp')
    obtain ⟨y, hy⟩ := F.reads x hx
    rw [WideElems.rg_of hy]
    have hk := WideElems.rd_key hy
    obtain ⟨q, hq, e⟩ := M.keyInv _ _ hk
    rw [e, M.key q hq] at hk
    exact ⟨q, hq, (Option.some.inj hk).symm⟩
theorem owns_few {w : World} {b n : Nat} {D : DataW Unit} {m : κ → Option ν} (h : w.ownsMap Tryz.prog M.k M.R b n D) (hT : Tells M D m) (L : List κ) (hL : ∀ x, M.ok x → m x ≠ none → x ∈ L) : Maps.size D ≤ L.length := by
  obtain ⟨es, rfl, hn, hk⟩ := owns_keys h
  have := nodup_len_le (b := L.map M.kl) hn (fun l hl => by
    obtain ⟨x, hx, rfl⟩ := hk l hl
    refine List.mem_map.2 ⟨x, hL x hx (fun e => ?_), rfl⟩
    have h1 := (hT x hx).1 e
    rw [(has_key (M.keyed.key (M.key x hx))).2 hl] at h1
    cases h1)
  simpa [Maps.size] using this
theorem owns_many {w : World} {b n : Nat} {D : DataW Unit} {m : κ → Option ν} (h : w.ownsMap Tryz.prog M.k M.R b n D) (hT : Tells M D m) (L : List κ) (hn : L.Nodup) (hL : ∀ x ∈ L, M.ok x ∧ m x ≠ none) : L.length ≤ Maps.size D := by
  obtain ⟨es, rfl, -, hk⟩ := owns_keys h
  have hn' : (L.map M.kl).Nodup := by
    rw [List.Nodup, List.pairwise_map]
    exact List.Pairwise.imp_of_mem (fun {x y} hx hy hne e => hne (M.klInj (hL x hx).1 (hL y hy).1 e)) hn
  have := nodup_len_le (b := es.map Prod.fst) hn' (fun l hl => by
    obtain ⟨x, hx, rfl⟩ := List.mem_map.1 hl
    obtain ⟨h1, h2⟩ := hL x hx
    obtain ⟨v, hv⟩ := Option.ne_none_iff_exists'.1 h2
    exact (has_key (M.keyed.key (M.key x h1))).1 ((hT x h1).2 v hv).1)
  simpa [Maps.size] using this
/-- 'len(m)'. -/
theorem MapAs.len {w : World} {b : Nat} {m : κ → Option ν} (h : MapAs M w b m) (L : List κ) (hn : L.Nodup) (hL : ∀ x ∈ L, M.ok x ∧ m x ≠ none) (hL' : ∀ x, M.ok x → m x ≠ none → x ∈ L) (ty : TypeId) :
    (Builtin.len_ #[M.t] ty #[.map (some b)]).run Tryz.prog w = .ok (.int .i64 L.length) w := by
  obtain ⟨n, D, h, hT⟩ := h
  rw [h.len M.ty ty, Nat.le_antisymm (owns_few h hT L hL') (owns_many h hT L hn hL)]
/-- 'm[x] = v'. -/
theorem MapAs.store [DecidableEq κ] {w : World} {b : Nat} {m : κ → Option ν} (h : MapAs M w b m) (L : List κ) (hL : ∀ x, M.ok x → m x ≠ none → x ∈ L) (hl : L.length < 4611686018427387904) {x : κ} (hx : M.ok x) (v : ν) :
    ∃ w', (Instr.mapUpdate M.t (.map (some b)) (M.kv x) (M.vv v)).run Tryz.prog w = .ok () w' ∧ MapAs M w' b (fun y => if y = x then some v else m y) ∧ w.mapTurned w' b := by
  obtain ⟨n, D, h, hT⟩ := h
  have hs := owns_few h hT L hL
  have h' : w.ownsMap Tryz.prog M.k M.R b (Maps.size D) D := by
    obtain ⟨es, clock, hb, F, hs', rfl⟩ := h
    exact ⟨es, clock, hb, F, by simp [Maps.size, length_sorted], rfl⟩
  obtain ⟨w', hr, ho, ht⟩ := h'.store M.keyed M.ty (by unfold maxLen; omega) (M.key x hx) (M.R_mk v)
  refine ⟨w', hr, ⟨_, _, ho, fun y hy => ?_⟩, ht⟩
  have hk := M.keyed.key (M.key x hx)
  by_cases e : y = x
  · subst e
    simp only [if_true]
    refine ⟨(fun h => by cases h), fun u hu => ?_⟩
    cases hu
    exact ⟨has_put_same h.isMap hk _, fun z => atKey_put_same h.isMap hk _ z⟩
  · simp only [if_neg e]
    have hne : M.kl y ≠ M.kl x := fun e' => e (M.klInj hy hx e')
    exact ⟨fun h => by rw [has_put_other hne]; exact (hT y hy).1 h, fun u hu => ⟨by rw [has_put_other hne]; exact ((hT y hy).2 u hu).1, fun z => by rw [atKey_put_other hne]; exact ((hT y hy).2 u hu).2 z⟩⟩
/-- 'delete(m, x)'. -/
theorem MapAs.drop [DecidableEq κ] {w : World} {b : Nat} {m : κ → Option ν} (h : MapAs M w b m) {x : κ} (hx : M.ok x) (ty : TypeId) :
    ∃ w', (Builtin.delete_ #[M.t, M.k] ty #[.map (some b), M.kv x]).run Tryz.prog w = .ok (.tuple #[]) w' ∧ MapAs M w' b (fun y => if y = x then none else m y) ∧ w.mapTurned w' b := by
  obtain ⟨n, D, h, hT⟩ := h
  obtain ⟨w', hr, ho, ht⟩ := h.drop M.keyed M.ty (M.key x hx) ty
  refine ⟨w', hr, ⟨_, _, ho, fun y hy => ?_⟩, ht⟩
  by_cases e : y = x
  · subst e
    simp only [if_true]
    exact ⟨fun _ => has_del_same, (fun u hu => by cases hu)⟩
  · simp only [if_neg e]
    have hne : M.kl y ≠ M.kl x := fun e' => e (M.klInj hy hx e')
    exact ⟨fun h => by rw [has_del_other hne]; exact (hT y hy).1 h, fun u hu => ⟨by rw [has_del_other hne]; exact ((hT y hy).2 u hu).1, fun z => by rw [atKey_del_other hne]; exact ((hT y hy).2 u hu).2 z⟩⟩
/-- 'clear(m)'. -/
theorem MapAs.clear {w : World} {b : Nat} {m : κ → Option ν} (h : MapAs M w b m) (ty : TypeId) :
    ∃ w', (Builtin.clear_ #[M.t] ty #[.map (some b)]).run Tryz.prog w = .ok (.tuple #[]) w' ∧ MapAs M w' b (fun _ => none) ∧ w.mapTurned w' b := by
  obtain ⟨n, D, ⟨es, clock, hb, F, hs, hD⟩, hT⟩ := h
  refine ⟨setBlock w b (.map #[] clock), ?_, ⟨0, .map [], ⟨#[], clock, heap_setBlock_same hb _, ⟨by simp, MapKept.stamped_empty clock, by simp⟩, Nat.le_refl _, rfl⟩, fun x hx => ⟨fun _ => rfl, fun _ h => by cases h⟩⟩, ⟨es, clock, #[], clock, hb, rfl⟩⟩
  simp [Builtin.clear_, run_underlying M.ty, MapKept.run_getObj_map hb, MapKept.run_setObj_map _ hb, Result.andThen, setBlock]
variable (M) in
/-- 'for x, v := range m' under way: block r is its iterator; left tells who is still to come. -/
def RangeAs (w : World) (b r : Nat) (m : κ → Option ν) (left : κ → Bool) : Prop := ∃ n D lf cnt, w.ranges Tryz.prog M.k M.R b r n D lf cnt ∧ Tells M D m ∧ ∀ x, M.ok x → lf (M.kl x) = left x
theorem MapAs.range {w : World} {b : Nat} {m : κ → Option ν} (h : MapAs M w b m) :
    ∃ w', (Instr.range M.t (.map (some b))).run Tryz.prog w = .ok (.pointer (some ⟨w.heap.size, 0, none⟩)) w' ∧ RangeAs M w' b w.heap.size m (fun x => (m x).isSome) ∧ Below w.heap.size w w' ∧ w'.heap.size = w.heap.size + 1 := by
  obtain ⟨n, D, h, hT⟩ := h
  obtain ⟨w', hr, hg, hb, hs⟩ := h.range M.keyed M.ty
  refine ⟨w', hr, ⟨n, D, _, _, hg, hT, fun x hx => ?_⟩, ⟨hb.os, hb.tape, hb.output, hb.size, fun k hk => hb.block k hk (by simp)⟩, hs⟩
  cases e : m x with
  | none => simp [(hT x hx).1 e, e]
  | some v => simp [((hT x hx).2 v e).1, e]
theorem RangeAs.owns {w : World} {b r : Nat} {m : κ → Option ν} {left : κ → Bool} (h : RangeAs M w b r m left) : MapAs M w b m := by
  obtain ⟨n, D, lf, cnt, h, hT, _⟩ := h
  exact ⟨n, D, h.owns, hT⟩
theorem RangeAs.lt {w : World} {b r : Nat} {m : κ → Option ν} {left : κ → Bool} (h : RangeAs M w b r m left) : r < w.heap.size := by
  obtain ⟨n, D, lf, cnt, h, hT, _⟩ := h
  exact h.lt
theorem RangeAs.keep {w w' : World} {b r : Nat} {m : κ → Option ν} {left : κ → Bool} (h : RangeAs M w b r m left) {row : Option Nat} (hg : w.grownBy w' row) (h1 : some b ≠ row) (h2 : some r ≠ row) : RangeAs M w' b r m left ∧ w'.rangeLeft b r = w.rangeLeft b r := by
  obtain ⟨n, D, lf, cnt, h, hT, hl⟩ := h
  have h' := h.kept hg h1 h2
  exact ⟨⟨n, D, lf, cnt, h', hT, hl⟩, by rw [h'.left_eq, h.left_eq]⟩
theorem RangeAs.next [DecidableEq κ] {w : World} {b r : Nat} {m : κ → Option ν} {left : κ → Bool} (h : RangeAs M w b r m left) (ty : TypeId) :
    ((∀ x, M.ok x → left x = false) ∧ (Instr.next (.pointer (some ⟨r, 0, none⟩)) false ty).run Tryz.prog w = .ok (.tuple #[.bool false]) w) ∨
    ∃ x v w', M.ok x ∧ left x = true ∧ m x = some v ∧ (Instr.next (.pointer (some ⟨r, 0, none⟩)) false ty).run Tryz.prog w = .ok (.tuple #[.bool true, M.kv x, M.vv v]) w' ∧
      RangeAs M w' b r m (fun y => left y && !decide (y = x)) ∧ w'.rangeLeft b r < w.rangeLeft b r ∧ w.grownBy w' (some r) ∧ w'.heap.size = w.heap.size ∧ (Instr.entry (.pointer (some ⟨r, 0, none⟩))).run Tryz.prog w' = .ok (.tuple #[M.kv x, M.vv v]) w' := by
  obtain ⟨n, D, lf, cnt, h, hT, hl⟩ := h
  rcases h.next M.keyed ty with ⟨h0, hf, hr⟩ | ⟨key, v, kl, y, w', cnt', hkey, hlk, hv, hat, hr, hrg, hlt, hg, hsz, hen⟩
  · exact .inl ⟨fun x hx => by rw [← hl x hx]; exact hf _, hr⟩
  · obtain ⟨x, hx, rfl⟩ := M.keyInv _ _ hkey
    rw [M.key x hx] at hkey
    obtain rfl := Option.some.inj hkey
    obtain ⟨c, rfl, rfl⟩ := M.R_inv hv
    refine .inr ⟨x, c, w', hx, by rw [← hl x hx]; exact hlk, ?_, hr, ⟨n, D, _, cnt', hrg, hT, fun q hq => ?_⟩, by rw [hrg.left_eq, h.left_eq]; exact hlt, hg, hsz, hen⟩
    · have hh : has D (M.kl x) = true := has_true_of_atKey hat
      cases e : m x with
      | none => rw [(hT x hx).1 e] at hh; cases hh
      | some u =>
        have := ((hT x hx).2 u e).2 (.map [])
        rw [hat] at this
        rw [M.enInj _ _ this]
    · show (lf (M.kl q) && !(M.kl q).sameKey (M.kl x)) = _
      rw [hl q hq]
      by_cases e : q = x
      · subst e
        rw [WideAt.sameKey_self (M.keyed.key (M.key q hx))]
        simp
      · rw [sameKey_ne (fun e' => e (M.klInj hq hx e'))]
        simp [e]
end
end Go.Proofs.YtfghfbmmaclcnaaGreat
namespace Go.Proofs.YtfghfbmmaclcnaaGreat
set_option maxRecDepth 20000
/-- The job of a ticket. -/
def jobAt (l : List Job) (t : Int) : Option Job := if 1 ≤ t then l[(t - 1).toNat]? else none
def fl (l : List Job) (t : Int) : Option Rq := (jobAt l t).bind fun j => if j.st = 0 then some j.rq else none
def an (l : List Job) (t : Int) : Option ByteArray := (jobAt l t).bind fun j => if j.st = 1 ∧ j.no = false then some j.s else none
theorem jobAt_snoc (l : List Job) (j : Job) (t : Int) : jobAt (l ++ [j]) t = if t = (l.length : Int) + 1 then some j else jobAt l t := by
  unfold jobAt
  by_cases h1 : 1 ≤ t
  · rw [if_pos h1, if_pos h1]
    by_cases h2 : t = (l.length : Int) + 1
    · rw [if_pos h2, List.getElem?_append_right (by omega), show (t - 1).toNat - l.length = 0 by omega]; rfl
    · rw [if_neg h2]
      by_cases h3 : (t - 1).toNat < l.length
      · rw [List.getElem?_append_left h3]
      · rw [List.getElem?_eq_none (by simp; omega), List.getElem?_eq_none (by omega)]
  · rw [if_neg h1, if_neg h1, if_neg (by omega)]
theorem jobAt_lt {l : List Job} {t : Int} {j : Job} (h : jobAt l t = some j) : 1 ≤ t ∧ t ≤ l.length ∧ l[(t - 1).toNat]? = some j := by
  unfold jobAt at h
  split at h
  · have := (List.getElem?_eq_some_iff.1 h).1
    exact ⟨by assumption, by omega, h⟩
  · cases h
theorem jobAt_none {l : List Job} {t : Int} (h : jobAt l t = none) : t < 1 ∨ (l.length : Int) < t := by
  unfold jobAt at h
  split at h
  · have := List.getElem?_eq_none_iff.1 h
    omega
  · omega
theorem jobAt_mem {l : List Job} {t : Int} {j : Job} (h : jobAt l t = some j) : j ∈ l := List.mem_of_getElem? (jobAt_lt h).2.2
theorem jobAt_set (l : List Job) (t : Int) (j : Job) (h1 : 1 ≤ t) (h2 : t ≤ l.length) (u : Int) : jobAt (l.set (t - 1).toNat j) u = if u = t then some j else jobAt l u := by
  unfold jobAt
  by_cases hu : 1 ≤ u
  · rw [if_pos hu, if_pos hu, List.getElem?_set]
    by_cases e : u = t
    · subst e
      rw [if_pos rfl, if_pos rfl, if_pos (by omega)]
    · rw [if_neg e, if_neg (by omega)]
  · rw [if_neg hu, if_neg hu, if_neg (by omega)]
theorem jobAt_map (l : List Job) (f : Job → Job) (t : Int) : jobAt (l.map f) t = (jobAt l t).map f := by
  unfold jobAt
  split <;> simp
/-- The tickets of those under way that fit. -/
def tk (p : Job → Bool) (l : List Job) : List Nat := ((List.range l.length).filter fun i => decide ((l.getD i default).st = 0) && p (l.getD i default)).map (· + 1)
theorem tk_snoc (p : Job → Bool) (l : List Job) (j : Job) : tk p (l ++ [j]) = tk p l ++ (if j.st = 0 ∧ p j = true then [l.length + 1] else []) := by
  unfold tk
  rw [List.length_append, List.length_singleton, List.range_succ, List.filter_append, List.map_append]
  congr 1
  · congr 1
    refine List.filter_congr (fun i hi => ?_)
    have : i < l.length := List.mem_range.1 hi
    simp [List.getD_eq_getElem?_getD, List.getElem?_append_left this]
  · have : (l ++ [j]).getD l.length default = j := by simp [List.getD_eq_getElem?_getD]
    by_cases h : j.st = 0 ∧ p j = true
    · simp [h.1, h.2]
    · have : (decide (j.st = 0) && p j) = false := by
        rw [Bool.eq_false_iff]
        intro h'
        simp at h'
        exact h h'
      simp_all
theorem tk_mem {p : Job → Bool} {l : List Job} {n : Nat} : n ∈ tk p l ↔ ∃ j, jobAt l n = some j ∧ j.st = 0 ∧ p j = true := by
  induction l using snoc_ind with
  | h0 => simp [tk, jobAt]
  | h1 l x ih =>
    rw [tk_snoc, List.mem_append, ih]
    constructor
    · rintro (⟨j, h1, h2⟩ | h)
      · refine ⟨j, ?_, h2⟩
        rw [jobAt_snoc, if_neg (by have := jobAt_lt h1; omega)]
        exact h1
      · split at h
        · rename_i hx
          rw [List.mem_singleton.1 h]
          exact ⟨x, by rw [jobAt_snoc, if_pos (by omega)], hx⟩
        · simp at h
    · rintro ⟨j, h1, h2⟩
      rw [jobAt_snoc] at h1
      split at h1
      · cases h1
        rename_i e
        exact .inr (by rw [if_pos h2, List.mem_singleton]; omega)
      · exact .inl ⟨j, h1, h2⟩
theorem tk_rising (p : Job → Bool) (l : List Job) : (tk p l).Pairwise (· < ·) := by
  unfold tk
  rw [List.pairwise_map]
  exact (List.pairwise_lt_range.filter _).imp (fun h => by omega)
theorem tk_nodup (p : Job → Bool) (l : List Job) : (tk p l).Nodup := (tk_rising p l).imp (fun h => Nat.ne_of_lt h)
theorem tk_len (p : Job → Bool) (l : List Job) : (tk p l).length ≤ l.length := by
  unfold tk
  rw [List.length_map]
  exact Nat.le_trans (List.length_filter_le _ _) (by simp)
/-- The jobs of those tickets. -/
def wrs (p : Job → Bool) (l : List Job) : List Job := l.filter fun j => decide (j.st = 0) && p j
theorem wrs_snoc (p : Job → Bool) (l : List Job) (j : Job) : wrs p (l ++ [j]) = wrs p l ++ (if j.st = 0 ∧ p j = true then [j] else []) := by
  unfold wrs
  rw [List.filter_append]
  congr 1
  by_cases h : j.st = 0 ∧ p j = true
  · simp [h.1, h.2]
  · have : (decide (j.st = 0) && p j) = false := by
      rw [Bool.eq_false_iff]
      intro h'
      simp at h'
      exact h h'
    simp_all
theorem tk_wrs (p : Job → Bool) (l : List Job) : (tk p l).length = (wrs p l).length ∧ ∀ (i n : Nat), (tk p l)[i]? = some n → ∃ j, (wrs p l)[i]? = some j ∧ jobAt l n = some j := by
  induction l using snoc_ind with
  | h0 => exact ⟨rfl, fun i n h => by simp [tk] at h⟩
  | h1 l x ih =>
    obtain ⟨i1, i2⟩ := ih
    rw [tk_snoc, wrs_snoc]
    by_cases hx : x.st = 0 ∧ p x = true
    · rw [if_pos hx, if_pos hx]
      refine ⟨by simp [i1], fun i n h => ?_⟩
      by_cases hi : i < (tk p l).length
      · rw [List.getElem?_append_left hi] at h
        obtain ⟨j, h1, h2⟩ := i2 i n h
        exact ⟨j, by rw [List.getElem?_append_left (by omega)]; exact h1, by rw [jobAt_snoc, if_neg (by have := jobAt_lt h2; omega)]; exact h2⟩
      · rw [List.getElem?_append_right (by omega)] at h
        have h0 : i - (tk p l).length = 0 := by
          have := (List.getElem?_eq_some_iff.1 h).1
          simp at this
          omega
        rw [h0] at h
        simp at h
        refine ⟨x, by rw [List.getElem?_append_right (by omega), ← i1, h0]; rfl, by rw [jobAt_snoc, if_pos (by omega)]⟩
    · rw [if_neg hx, if_neg hx]
      refine ⟨by simp [i1], fun i n h => ?_⟩
      rw [List.append_nil] at h
      obtain ⟨j, h1, h2⟩ := i2 i n h
      exact ⟨j, by rw [List.append_nil]; exact h1, by rw [jobAt_snoc, if_neg (by have := jobAt_lt h2; omega)]; exact h2⟩
/-- What a torn write leaves. -/
def tornN (n : Nat) (p : Int) : Nat := ((p - 2) % ((n : Int) + 1)).toNat
def tornS (had tobe : ByteArray) (p : Int) : ByteArray := tobe.extract 0 (tornN tobe.size p) ++ had.extract (min (tornN tobe.size p) had.size) had.size
theorem tornN_le (n : Nat) (p : Int) : tornN n p ≤ n := by
  unfold tornN
  have h1 := Int.emod_lt_of_pos (p - 2) (b := (n : Int) + 1) (by omega)
  have h2 := Int.emod_nonneg (p - 2) (b := (n : Int) + 1) (by omega)
  omega
theorem tornS_size {had tobe : ByteArray} {p : Int} {m : Nat} (h1 : had.size ≤ m) (h2 : tobe.size ≤ m) : (tornS had tobe p).size ≤ m := by
  have := tornN_le tobe.size p
  unfold tornS
  rw [ByteArray.size_append, ByteArray.size_extract, ByteArray.size_extract]
  omega
def leave (p : Int) (j : Job) (l : List (Bk × ByteArray)) : List (Bk × ByteArray) :=
  if p ≤ 0 then l else if p = 1 then lay j.b j.s l else lay j.b (tornS ((lookL l j.b).getD ⟨#[]⟩) j.s p) l
/-- What the blocks are when the first i writes have been left. -/
def crK (pk : Nat → Int) (ws : List Job) (l : List (Bk × ByteArray)) : Nat → List (Bk × ByteArray)
  | 0 => l
  | i + 1 => match ws[i]? with
    | some j => leave (pk i) j (crK pk ws l i)
    | none => crK pk ws l i
theorem crK_append (pk : Nat → Int) (ws vs : List Job) (l : List (Bk × ByteArray)) (i : Nat) (h : i ≤ ws.length) : crK pk (ws ++ vs) l i = crK pk ws l i := by
  induction i with
  | zero => rfl
  | succ i ih => simp only [crK]; rw [ih (by omega), List.getElem?_append_left (by omega)]
theorem crK_snoc (pk : Nat → Int) (ws : List Job) (j : Job) (l : List (Bk × ByteArray)) : crK pk (ws ++ [j]) l (ws.length + 1) = leave (pk ws.length) j (crK pk ws l ws.length) := by
  simp only [crK]
  rw [List.getElem?_append_right (Nat.le_refl _), Nat.sub_self, crK_append _ _ _ _ _ (Nat.le_refl _)]
  rfl
/-- What holds of every device. -/
structure Good (d : Dv) : Prop where
  rise : d.items.Pairwise (fun p q => ltB p.1 q.1)
  it : ∀ p ∈ d.items, okB p.1 = true ∧ p.2.size ≤ 131072
  jb : ∀ j ∈ d.jobs, okB j.b = true ∧ j.s.size ≤ 131072
  fly : (tk (fun _ => true) d.jobs).length ≤ 32
  few : d.jobs.length ≤ 1000
  nn : ∀ j ∈ d.jobs, j.st = 0 → j.no = false
theorem okB_iff {b : Bk} : okB b = true ↔ 0 ≤ b.1 ∧ b.1 ≤ 2 ∧ 0 ≤ b.2 ∧ b.2 ≤ 63 := by unfold okB; simp; omega
theorem items_few {l : List (Bk × ByteArray)} (h : l.Pairwise (fun p q => ltB p.1 q.1)) (h2 : ∀ p ∈ l, okB p.1 = true) : l.length ≤ 192 := by
  have hn : (l.map (fun p => (p.1.1 * 64 + p.1.2).toNat)).Nodup := by
    rw [List.Nodup, List.pairwise_map]
    refine List.Pairwise.imp_of_mem (fun {p q} hp hq hlt e => ?_) h
    have h3 := okB_iff.1 (h2 p hp)
    have h4 := okB_iff.1 (h2 q hq)
    unfold ltB at hlt
    omega
  have := nodup_len_le (b := List.range 192) hn (fun x hx => by
    obtain ⟨p, hp, rfl⟩ := List.mem_map.1 hx
    have h3 := okB_iff.1 (h2 p hp)
    rw [List.mem_range]
    omega)
  simpa using this
theorem fl_snoc (l : List Job) (b : Bk) (wr : Bool) (s : ByteArray) (t : Int) : fl (l ++ [⟨b, wr, s, false, 0⟩]) t = if t = (l.length : Int) + 1 then some ⟨b, wr, s⟩ else fl l t := by
  unfold fl
  rw [jobAt_snoc]
  split <;> rfl
theorem an_snoc (l : List Job) (b : Bk) (wr : Bool) (s : ByteArray) (t : Int) : an (l ++ [⟨b, wr, s, false, 0⟩]) t = an l t := by
  unfold an
  rw [jobAt_snoc]
  split
  · rename_i e
    have : jobAt l t = none := by
      unfold jobAt
      rw [if_pos (by omega), List.getElem?_eq_none (by omega)]
    rw [this]; rfl
  · rfl
/-- Ask. -/
def askE (d : Dv) (b : Bk) (wr : Bool) (s : ByteArray) : Int :=
  if d.off = true then 6 else if okB b = false then 1 else if 131072 < s.size then 5 else if wr = true ∧ (tk (fun j => j.wr && decide (j.b = b)) d.jobs).length ≠ 0 then 10 else if 32 ≤ (tk (fun _ => true) d.jobs).length then 9 else 0
def askT (d : Dv) (b : Bk) (wr : Bool) (s : ByteArray) : Int := if askE d b wr s = 0 then (d.jobs.length : Int) + 1 else 0
def askD (d : Dv) (b : Bk) (wr : Bool) (s : ByteArray) : Dv := if askE d b wr s = 0 then { d with jobs := d.jobs ++ [⟨b, wr, s, false, 0⟩] } else d
theorem Good.ask {d : Dv} (h : Good d) (b : Bk) (wr : Bool) (s : ByteArray) (hf : d.jobs.length < 1000) : Good (askD d b wr s) := by
  unfold askD
  by_cases e : askE d b wr s = 0
  · rw [if_pos e]
    unfold askE at e
    split at e; · omega
    split at e; · omega
    split at e; · omega
    split at e; · omega
    split at e; · omega
    rename_i h1 h2 h3 h4 h5
    refine ⟨h.rise, h.it, fun j hj => ?_, ?_, by simp; omega, fun j hj h0 => ?_⟩
    · rcases List.mem_append.1 hj with hj | hj
      · exact h.jb j hj
      · rw [List.mem_singleton.1 hj]
        exact ⟨by simpa using h2, by simp only; omega⟩
    · simp only; rw [tk_snoc, if_pos ⟨rfl, rfl⟩, List.length_append, List.length_singleton]; omega
    · rcases List.mem_append.1 hj with hj | hj
      · exact h.nn j hj h0
      · rw [List.mem_singleton.1 hj]
  · rw [if_neg e]; exact h
/-- Do. -/
def doneJ (d : Dv) (j : Job) : Job := if j.wr = true then { j with st := 1, s := ⟨#[]⟩ } else { j with st := 1, s := (lookL d.items j.b).getD ⟨#[]⟩, no := (lookL d.items j.b).isNone }
def doE (d : Dv) (t : Int) : Int := if d.off = true then 6 else match fl d.jobs t with | some _ => 0 | none => 7
def doD (d : Dv) (t : Int) : Dv :=
  if d.off = true then d else match jobAt d.jobs t with
    | none => d
    | some j => if j.st = 0 then ⟨d.off, if j.wr = true then lay j.b j.s d.items else d.items, d.jobs.set (t - 1).toNat (doneJ d j)⟩ else d
/-- Take. -/
def takeE (d : Dv) (t : Int) : Int := if d.off = true then 6 else if (fl d.jobs t).isSome then 10 else if (an d.jobs t).isSome then 0 else 7
def takeS (d : Dv) (t : Int) : ByteArray := if takeE d t = 0 then (an d.jobs t).getD ⟨#[]⟩ else ⟨#[]⟩
def takeD (d : Dv) (t : Int) : Dv :=
  if d.off = true then d else match jobAt d.jobs t with
    | none => d
    | some j => if j.st = 1 then { d with jobs := d.jobs.set (t - 1).toNat { j with st := 2 } } else d
/-- Crash, Start. -/
def crashE (d : Dv) : Int := if d.off = true then 6 else 0
def crashD (d : Dv) (pk : Nat → Int) : Dv := if d.off = true then d else ⟨true, crK pk (wrs Job.wr d.jobs) d.items (wrs Job.wr d.jobs).length, d.jobs.map fun j => { j with st := 2 }⟩
def startE (d : Dv) : Int := if d.off = true then 0 else 10
def startD (d : Dv) : Dv := { d with off := false }
theorem tk_sub {p : Job → Bool} {l m : List Job} (h : ∀ n : Nat, (∃ j, jobAt l n = some j ∧ j.st = 0 ∧ p j = true) → ∃ j, jobAt m n = some j ∧ j.st = 0 ∧ p j = true) : (tk p l).length ≤ (tk p m).length :=
  nodup_len_le (tk_nodup p l) (fun n hn => tk_mem.2 (h n (tk_mem.1 hn)))
theorem set_mem {l : List Job} {i : Nat} {x j : Job} (h : j ∈ l.set i x) : j = x ∨ j ∈ l := by
  rcases List.mem_or_eq_of_mem_set h with h | h
  · exact .inr h
  · exact .inl h
theorem lay_good {b : Bk} {s : ByteArray} {l : List (Bk × ByteArray)} (hb : okB b = true) (hs : s.size ≤ 131072) (h : ∀ p ∈ l, okB p.1 = true ∧ p.2.size ≤ 131072) : ∀ p ∈ lay b s l, okB p.1 = true ∧ p.2.size ≤ 131072 := by
  intro p hp
  rcases lay_mem.1 hp with rfl | ⟨hp, _⟩
  · exact ⟨hb, hs⟩
  · exact h p hp
theorem look_small {l : List (Bk × ByteArray)} (h : ∀ p ∈ l, okB p.1 = true ∧ p.2.size ≤ 131072) (b : Bk) : ((lookL l b).getD ⟨#[]⟩).size ≤ 131072 := by
  cases e : lookL l b with
  | none => exact Nat.zero_le _
  | some s => exact (h _ (lookL_some e)).2
theorem Good.done {d : Dv} (h : Good d) (t : Int) : Good (doD d t) := by
  unfold doD
  split
  · exact h
  · split
    · exact h
    · rename_i j hj
      obtain ⟨h1, h2, h3⟩ := jobAt_lt hj
      obtain ⟨g1, g2⟩ := h.jb j (jobAt_mem hj)
      split
      · rename_i hst
        refine ⟨?_, ?_, ?_, ?_, by simpa using h.few, fun k hk hk0 => ?_⟩
        · simp only; split
          · exact lay_rising h.rise
          · exact h.rise
        · simp only; split
          · exact lay_good g1 g2 h.it
          · exact h.it
        · intro k hk
          rcases set_mem hk with rfl | hk
          · unfold doneJ
            split
            · exact ⟨g1, Nat.zero_le _⟩
            · exact ⟨g1, look_small h.it _⟩
          · exact h.jb k hk
        · refine Nat.le_trans (tk_sub (m := d.jobs) (fun n => ?_)) h.fly
          rintro ⟨k, hk, hk0, hp⟩
          simp only at hk
          rw [jobAt_set _ _ _ h1 h2] at hk
          split at hk
          · cases hk
            unfold doneJ at hk0
            split at hk0 <;> simp at hk0
          · exact ⟨k, hk, hk0, hp⟩
        · rcases set_mem hk with rfl | hk
          · unfold doneJ at hk0
            split at hk0 <;> simp at hk0
          · exact h.nn k hk hk0
      · exact h
theorem Good.take {d : Dv} (h : Good d) (t : Int) : Good (takeD d t) := by
  unfold takeD
  split
  · exact h
  · split
    · exact h
    · rename_i j hj
      obtain ⟨h1, h2, h3⟩ := jobAt_lt hj
      split
      · refine ⟨h.rise, h.it, ?_, ?_, by simpa using h.few, fun k hk hk0 => ?_⟩
        · intro k hk
          rcases set_mem hk with rfl | hk
          · exact h.jb j (jobAt_mem hj)
          · exact h.jb k hk
        · refine Nat.le_trans (tk_sub (m := d.jobs) (fun n => ?_)) h.fly
          rintro ⟨k, hk, hk0, hp⟩
          simp only at hk
          rw [jobAt_set _ _ _ h1 h2] at hk
          split at hk
          · cases hk; simp at hk0
          · exact ⟨k, hk, hk0, hp⟩
        · rcases set_mem hk with rfl | hk
          · simp at hk0
          · exact h.nn k hk hk0
      · exact h
theorem leave_good {p : Int} {j : Job} {l : List (Bk × ByteArray)} (hj : okB j.b = true ∧ j.s.size ≤ 131072) (h1 : l.Pairwise (fun p q => ltB p.1 q.1)) (h2 : ∀ p ∈ l, okB p.1 = true ∧ p.2.size ≤ 131072) :
    (leave p j l).Pairwise (fun p q => ltB p.1 q.1) ∧ ∀ x ∈ leave p j l, okB x.1 = true ∧ x.2.size ≤ 131072 := by
  unfold leave
  split
  · exact ⟨h1, h2⟩
  · split
    · exact ⟨lay_rising h1, lay_good hj.1 hj.2 h2⟩
    · exact ⟨lay_rising h1, lay_good hj.1 (tornS_size (look_small h2 _) hj.2) h2⟩
theorem crK_good {pk : Nat → Int} {ws : List Job} {l : List (Bk × ByteArray)} (hj : ∀ j ∈ ws, okB j.b = true ∧ j.s.size ≤ 131072) (h1 : l.Pairwise (fun p q => ltB p.1 q.1)) (h2 : ∀ p ∈ l, okB p.1 = true ∧ p.2.size ≤ 131072) (i : Nat) :
    (crK pk ws l i).Pairwise (fun p q => ltB p.1 q.1) ∧ ∀ p ∈ crK pk ws l i, okB p.1 = true ∧ p.2.size ≤ 131072 := by
  induction i with
  | zero => exact ⟨h1, h2⟩
  | succ i ih =>
    simp only [crK]
    split
    · rename_i j e
      exact leave_good (hj j (List.mem_of_getElem? e)) ih.1 ih.2
    · exact ih
theorem wrs_mem {p : Job → Bool} {l : List Job} {j : Job} (h : j ∈ wrs p l) : j ∈ l := (List.mem_filter.1 h).1
theorem Good.crash {d : Dv} (h : Good d) (pk : Nat → Int) : Good (crashD d pk) := by
  unfold crashD
  split
  · exact h
  · obtain ⟨g1, g2⟩ := crK_good (pk := pk) (ws := wrs Job.wr d.jobs) (fun j hj => h.jb j (wrs_mem hj)) h.rise h.it (wrs Job.wr d.jobs).length
    refine ⟨g1, g2, ?_, ?_, by simpa using h.few, fun k hk hk0 => ?_⟩
    · intro k hk
      obtain ⟨j, hj, rfl⟩ := List.mem_map.1 hk
      exact h.jb j hj
    · refine Nat.le_trans (tk_sub (m := d.jobs) (fun n => ?_)) h.fly
      rintro ⟨k, hk, hk0, hp⟩
      simp only at hk
      rw [jobAt_map] at hk
      obtain ⟨j, -, rfl⟩ := Option.map_eq_some_iff.1 hk
      simp at hk0
    · obtain ⟨j, hj, rfl⟩ := List.mem_map.1 hk
      simp at hk0
theorem Good.start {d : Dv} (h : Good d) : Good (startD d) := ⟨h.rise, h.it, h.jb, h.fly, h.few, h.nn⟩
theorem fl_set {l : List Job} {t : Int} {j : Job} (h1 : 1 ≤ t) (h2 : t ≤ l.length) (hj : j.st ≠ 0) (u : Int) : fl (l.set (t - 1).toNat j) u = if u = t then none else fl l u := by
  unfold fl
  rw [jobAt_set _ _ _ h1 h2]
  split
  · simp [hj]
  · rfl
theorem an_set {l : List Job} {t : Int} {j : Job} (h1 : 1 ≤ t) (h2 : t ≤ l.length) (u : Int) : an (l.set (t - 1).toNat j) u = if u = t then (if j.st = 1 ∧ j.no = false then some j.s else none) else an l u := by
  unfold an
  rw [jobAt_set _ _ _ h1 h2]
  split <;> rfl
theorem fl_gone (l : List Job) (u : Int) : fl (l.map fun j => { j with st := 2 }) u = none := by
  unfold fl
  rw [jobAt_map]
  cases jobAt l u <;> rfl
theorem an_gone (l : List Job) (u : Int) : an (l.map fun j => { j with st := 2 }) u = none := by
  unfold an
  rw [jobAt_map]
  cases jobAt l u <;> rfl
theorem fl_some {l : List Job} {x : Int} {r : Rq} (h : fl l x = some r) : ∃ j, jobAt l x = some j ∧ j.st = 0 ∧ r = j.rq := by
  unfold fl at h
  obtain ⟨j, hj, h⟩ := Option.bind_eq_some_iff.1 h
  split at h
  · cases h; exact ⟨j, hj, by assumption, rfl⟩
  · cases h
theorem fl_job {l : List Job} {x : Int} {j : Job} (h : jobAt l x = some j) (hs : j.st ≠ 0) : fl l x = none := by simp [fl, h, hs]
theorem takeD_on {d : Dv} (ho : d.off = false) (x : Int) : (takeD d x).off = d.off ∧ (takeD d x).items = d.items ∧ (takeD d x).jobs.length = d.jobs.length ∧ (∀ y, fl (takeD d x).jobs y = fl d.jobs y) ∧ (fl d.jobs x = none → ∀ y, an (takeD d x).jobs y = if y = x then none else an d.jobs y) := by
  unfold takeD
  rw [if_neg (by rw [ho]; simp)]
  cases hj : jobAt d.jobs x with
  | none => exact ⟨rfl, rfl, rfl, fun _ => rfl, fun _ y => by
      simp only
      split
      · rename_i e; subst e; simp [an, hj]
      · rfl⟩
  | some j =>
    obtain ⟨h1, h2, -⟩ := jobAt_lt hj
    simp only
    by_cases hs : j.st = 1
    · rw [if_pos hs]
      refine ⟨rfl, rfl, by simp, fun y => ?_, fun _ y => ?_⟩
      · rw [fl_set h1 h2 (by simp)]
        split
        · rename_i e; subst e; rw [fl_job hj (by omega)]
        · rfl
      · rw [an_set h1 h2]
        simp
    · rw [if_neg hs]
      refine ⟨rfl, rfl, rfl, fun _ => rfl, fun h0 y => ?_⟩
      split
      · rename_i e; subst e; simp [an, hj, hs]
      · rfl
theorem takeD_fly {d : Dv} {x : Int} {r : Rq} (h : fl d.jobs x = some r) : takeD d x = d := by
  obtain ⟨j, hj, hs, -⟩ := fl_some h
  unfold takeD
  split
  · rfl
  · simp [hj, hs]
theorem doD_none {d : Dv} {x : Int} (h : fl d.jobs x = none) : doD d x = d := by
  unfold doD
  split
  · rfl
  · cases hj : jobAt d.jobs x with
    | none => rfl
    | some j =>
      simp only
      rw [if_neg]
      intro hs
      simp [fl, hj, hs] at h
theorem doD_some {d : Dv} {x : Int} {r : Rq} (g : Good d) (ho : d.off = false) (h : fl d.jobs x = some r) :
    (doD d x).off = d.off ∧ (doD d x).items = (if r.wr = true then lay r.b r.s d.items else d.items) ∧ (doD d x).jobs.length = d.jobs.length ∧ (∀ y, fl (doD d x).jobs y = if y = x then none else fl d.jobs y) ∧
    (∀ y, an (doD d x).jobs y = if y = x then (if r.wr = true then some ⟨#[]⟩ else lookL d.items r.b) else an d.jobs y) := by
  obtain ⟨j, hj, hs, rfl⟩ := fl_some h
  obtain ⟨h1, h2, -⟩ := jobAt_lt hj
  have hn := g.nn j (jobAt_mem hj) hs
  unfold doD
  rw [if_neg (by rw [ho]; simp)]
  simp only [hj, hs, if_true, Job.rq]
  refine ⟨trivial, rfl, by simp, fun y => ?_, fun y => ?_⟩
  · rw [fl_set h1 h2]
    unfold doneJ
    split <;> simp
  · rw [an_set h1 h2]
    unfold doneJ
    by_cases hw : j.wr = true
    · simp [hw, hn]
    · simp [hw]
      split
      · cases lookL d.items j.b <;> simp
      · rfl
end Go.Proofs.YtfghfbmmaclcnaaGreat
namespace Go.Proofs.YtfghfbmmaclcnaaGreat
set_option maxRecDepth 20000
open Go.RowKit Go.Maps
theorem Tryz.laidOut : laidOutB Tryz.prog = true := by kernel_rfl
theorem Tryz.rowB : (59 : TypeId) < Tryz.prog.types.size := of_decide_eq_true (by kernel_rfl)
theorem Tryz.lawB : Keyed Tryz.prog 59 := Keyed.of_law (deep_law_laid Tryz.laidOut (m := 2) (by omega) Tryz.rowB (by kernel_rfl) (by rw [Tryz.underlying59]))
theorem Tryz.cellsB : Tryz.prog.cellsOf 59 = 2 := by kernel_rfl
theorem Tryz.cellsI : Tryz.prog.cellsOf 3 = 1 := by kernel_rfl
theorem Tryz.keyB : Tryz.prog.keyType 59 = true := by kernel_rfl
def bkV (b : Bk) : Value := .agg #[.int .i64 b.1, .int .i64 b.2]
def okK (b : Bk) : Prop := (Lit.int .i64 b.1).wf = true ∧ (Lit.int .i64 b.2).wf = true
theorem key_lits (d : Nat) (a n : Int) (ha : (Lit.int .i64 a).wf = true) (hn : (Lit.int .i64 n).wf = true) : Tryz.prog.keyLits (d + 2) 59 [.int .i64 a, .int .i64 n] = some [.int .i64 a, .int .i64 n] := by
  simp [Program.keyLits, Tryz.underlying59, Tryz.underlying3, Tryz.cellsB, Tryz.cellsI, ha, hn]
theorem key_lits_inv (d : Nat) (u v : Value) {x : List Lit} (h : Tryz.prog.keyLits (d + 2) 59 [u, v] = some x) : ∃ a n, u = .int .i64 a ∧ v = .int .i64 n ∧ (Lit.int .i64 a).wf = true ∧ (Lit.int .i64 n).wf = true := by
  have h1 : ∃ a, u = .int .i64 a ∧ (Lit.int .i64 a).wf = true := by
    cases u with
    | int q n =>
      by_cases hc : q = .i64 ∧ (Lit.int .i64 n).wf = true
      · exact ⟨n, by rw [hc.1], hc.2⟩
      · simp [Program.keyLits, Tryz.underlying59, Tryz.underlying3, Tryz.cellsB, Tryz.cellsI, hc] at h
    | _ => simp [Program.keyLits, Tryz.underlying59, Tryz.underlying3, Tryz.cellsB, Tryz.cellsI] at h
  obtain ⟨a, rfl, ha⟩ := h1
  have h2 : ∃ a, v = .int .i64 a ∧ (Lit.int .i64 a).wf = true := by
    cases v with
    | int q n =>
      by_cases hc : q = .i64 ∧ (Lit.int .i64 n).wf = true
      · exact ⟨n, by rw [hc.1], hc.2⟩
      · simp [Program.keyLits, Tryz.underlying59, Tryz.underlying3, Tryz.cellsB, Tryz.cellsI, hc, ha] at h
    | _ => simp [Program.keyLits, Tryz.underlying59, Tryz.underlying3, Tryz.cellsB, Tryz.cellsI, ha] at h
  obtain ⟨n, rfl, hn⟩ := h2
  exact ⟨a, n, rfl, rfl, ha, hn⟩
theorem types_two : ∃ d, Tryz.prog.types.size + 1 = d + 2 := by
  have h := Tryz.rowB
  generalize Tryz.prog.types.size = n at *
  exact ⟨n - 1, by simp only [TypeId] at h; omega⟩
theorem key_eq (v : Value) : keyOf Tryz.prog 59 v = if (Tryz.prog.keyType 59 && v.formed Tryz.prog 59) = true then (Tryz.prog.keyLits (Tryz.prog.types.size + 1) 59 v.cells.toList).map fun ls => .string (keyBytes ls) else none := by
  unfold keyOf
  rw [Tryz.underlying59]
theorem key_some (b : Bk) (h : okK b) : ∃ l, keyOf Tryz.prog 59 (bkV b) = some l := by
  obtain ⟨d, hd⟩ := types_two
  refine ⟨.string (keyBytes [.int .i64 b.1, .int .i64 b.2]), ?_⟩
  have hf : (bkV b).formed Tryz.prog 59 = true := by simp [bkV, Value.formed, Tryz.underlying59, Tryz.cellsB]
  rw [key_eq, Tryz.keyB, hf, hd]
  have hc : (bkV b).cells.toList = [.int .i64 b.1, .int .i64 b.2] := rfl
  rw [hc, key_lits d b.1 b.2 h.1 h.2]
  rfl
theorem key_inv (v : Value) (l : Lit) (h : keyOf Tryz.prog 59 v = some l) : ∃ b, okK b ∧ v = bkV b := by
  obtain ⟨d, hd⟩ := types_two
  rw [key_eq, Tryz.keyB, hd] at h
  cases hf : v.formed Tryz.prog 59 with
  | false => rw [hf] at h; simp at h
  | true =>
    rw [hf, Bool.and_true, if_pos rfl] at h
    obtain ⟨x, hx, -⟩ := Option.map_eq_some_iff.1 h
    cases v <;> simp [Value.formed, Tryz.underlying59] at hf
    rename_i cs
    rw [Tryz.cellsB] at hf
    have hl : cs.toList.length = 2 := by simpa using hf
    obtain ⟨u, v, e⟩ : ∃ u v, cs.toList = [u, v] := by
      match cs.toList, hl with
      | [u, v], _ => exact ⟨u, v, rfl⟩
    simp only [Value.cells] at hx
    rw [e] at hx
    obtain ⟨a, n, rfl, rfl, h1, h2⟩ := key_lits_inv d u v hx
    refine ⟨(a, n), ⟨h1, h2⟩, ?_⟩
    have : cs = #[.int .i64 a, .int .i64 n] := by rw [← Array.toList_inj, e]
    rw [this]; rfl
open Classical in
noncomputable def klB (b : Bk) : Lit := if h : okK b then (key_some b h).choose else .bool false
theorem klB_is (b : Bk) (h : okK b) : keyOf Tryz.prog 59 (bkV b) = some (klB b) := by
  unfold klB
  rw [dif_pos h]
  exact (key_some b h).choose_spec
def coV (s : ByteArray) : Value := .agg #[.string s]
def rqV (r : Rq) : Value := .agg #[.int .i64 r.b.1, .int .i64 r.b.2, .bool r.wr, .string r.s]
theorem bytes_ext {s t : ByteArray} (h : s.data.toList = t.data.toList) : s = t := by
  cases s; cases t; simp at h; rw [h]
theorem coV_inj (x y : ByteArray) (h : coV x = coV y) : x = y := by simpa [coV] using h
theorem rqV_inj (x y : Rq) (h : rqV x = rqV y) : x = y := by
  obtain ⟨⟨a, n⟩, w, s⟩ := x
  obtain ⟨⟨a', n'⟩, w', s'⟩ := y
  simp [rqV] at h
  obtain ⟨rfl, rfl, rfl, rfl⟩ := h
  rfl
def coE (s : ByteArray) : DataW Unit := .lit (.string s.data.toList)
def rqE (r : Rq) : DataW Unit := .agg [.lit (.int .i64 r.b.1), .lit (.int .i64 r.b.2), .lit (.bool r.wr), .lit (.string r.s.data.toList)]
theorem coE_inj (x y : ByteArray) (h : coE x = coE y) : x = y := by
  simp [coE] at h
  exact bytes_ext (by rw [h])
theorem rqE_inj (x y : Rq) (h : rqE x = rqE y) : x = y := by
  obtain ⟨⟨a, n⟩, w, s⟩ := x
  obtain ⟨⟨a', n'⟩, w', s'⟩ := y
  simp [rqE] at h
  obtain ⟨rfl, rfl, rfl, h⟩ := h
  rw [show s = s' from bytes_ext (by rw [h])]
theorem Tryz.zeroCo (w : World) : (zeroValue 122).run Tryz.prog w = .ok (coV ⟨#[]⟩) w := by kernel_rfl
theorem Tryz.zeroRq (w : World) : (zeroValue 154).run Tryz.prog w = .ok (rqV ⟨(0, 0), false, ⟨#[]⟩⟩) w := by kernel_rfl
/-- Blocks by their places. -/
noncomputable def MB : MK Bk ByteArray := ⟨124, 59, 122, bkV, klB, okK, coV, coE, ⟨#[]⟩, Tryz.lawB, Tryz.underlying124, klB_is, key_inv,
  fun x y h => by simpa [bkV, Prod.ext_iff] using h, coV_inj, coE_inj, Tryz.zeroCo⟩
def okI (t : Int) : Prop := (Lit.int .i64 t).wf = true
theorem int_inv (v : Value) (l : Lit) (h : keyOf Tryz.prog 3 v = some l) : ∃ x, okI x ∧ v = .int .i64 x := by
  obtain ⟨x, rfl, -, h2⟩ := Maps.keyOf_int_inv Tryz.underlying3 h
  exact ⟨x, h2, rfl⟩
/-- What is under way, by tickets. -/
def MF : MK Int Rq := ⟨125, 3, 154, Value.int .i64, Lit.int .i64, okI, rqV, rqE, ⟨(0, 0), false, ⟨#[]⟩⟩, int_keyed Tryz.underlying3, Tryz.underlying125, fun _ h => keyOf_int_mk Tryz.underlying3 h, int_inv,
  fun x y h => by simpa using h, rqV_inj, rqE_inj, Tryz.zeroRq⟩
/-- Answers, by tickets. -/
def MA : MK Int ByteArray := ⟨126, 3, 122, Value.int .i64, Lit.int .i64, okI, coV, coE, ⟨#[]⟩, int_keyed Tryz.underlying3, Tryz.underlying126, fun _ h => keyOf_int_mk Tryz.underlying3 h, int_inv,
  fun x y h => by simpa using h, coV_inj, coE_inj, Tryz.zeroCo⟩
/-- The blocks of memory that a device has. -/
def InD (t : Nat) : Nat → Prop := fun k => t ≤ k ∧ k ≤ t + 3
/-- The device, in block t + 3, its maps ahead of it. -/
structure DvIs (w : World) (t : Nat) (d : Dv) : Prop where
  c0 : w.cell? ⟨t + 3, 0, none⟩ = some (.bool (!d.off))
  c1 : w.cell? ⟨t + 3, 1, none⟩ = some (.int .i64 (d.jobs.length : Int))
  c2 : w.cell? ⟨t + 3, 2, none⟩ = some (.map (some t))
  c3 : w.cell? ⟨t + 3, 3, none⟩ = some (.map (some (t + 1)))
  c4 : w.cell? ⟨t + 3, 4, none⟩ = some (.map (some (t + 2)))
  f0 : w.frozen? ⟨t + 3, 0, none⟩ = false
  f1 : w.frozen? ⟨t + 3, 1, none⟩ = false
  mb : MapAs MB w t (lookL d.items)
  mf : MapAs MF w (t + 1) (fl d.jobs)
  ma : MapAs MA w (t + 2) (an d.jobs)
  good : Good d
theorem DvIs.lt {w : World} {t : Nat} {d : Dv} (h : DvIs w t d) : t + 3 < w.heap.size := World.block_lt_of_cell? w _ h.c0
theorem DvIs.keep {w w' : World} {t : Nat} {d : Dv} {S : Nat → Prop} (h : DvIs w t d) (hk : Keeps S w w') (hS : ∀ k, InD t k → ¬ S k) : DvIs w' t d := by
  have hl := h.lt
  have s3 : ¬ S (t + 3) := hS _ ⟨by omega, by omega⟩
  exact ⟨by rw [hk.cell hl s3]; exact h.c0, by rw [hk.cell hl s3]; exact h.c1, by rw [hk.cell hl s3]; exact h.c2, by rw [hk.cell hl s3]; exact h.c3, by rw [hk.cell hl s3]; exact h.c4,
    by rw [hk.frozen hl s3]; exact h.f0, by rw [hk.frozen hl s3]; exact h.f1, h.mb.keep hk (hS _ ⟨by omega, by omega⟩), h.mf.keep hk (hS _ ⟨by omega, by omega⟩), h.ma.keep hk (hS _ ⟨by omega, by omega⟩), h.good⟩
theorem DvIs.below {w w' : World} {t : Nat} {d : Dv} (h : DvIs w t d) (hb : Below w.heap.size w w') : DvIs w' t d := h.keep (Below.keeps (S := fun _ => False) hb) (fun _ _ => id)
theorem DvIs.alloc {w : World} {t : Nat} {d : Dv} (h : DvIs w t d) (o : Obj) : DvIs (w.alloc o) t d := h.below ((Below.refl _ _).alloc (Nat.le_refl _) o)
theorem DvIs.drew {w : World} {t : Nat} {d : Dv} (h : DvIs w t d) (m : Nat) : DvIs (w.drewN m) t d := h.below (below_drewN (Below.refl _ _) m)
/-- The maps have turned, the rest has not. -/
theorem DvIs.maps {w w' : World} {t : Nat} {d d' : Dv} (h : DvIs w t d) (hk : Keeps (fun k => t ≤ k ∧ k ≤ t + 2) w w') (ho : d'.off = d.off) (hj : d'.jobs.length = d.jobs.length) (mb : MapAs MB w' t (lookL d'.items)) (mf : MapAs MF w' (t + 1) (fl d'.jobs)) (ma : MapAs MA w' (t + 2) (an d'.jobs)) (g : Good d') : DvIs w' t d' := by
  have hl := h.lt
  have s3 : ¬ (t ≤ t + 3 ∧ t + 3 ≤ t + 2) := by omega
  exact ⟨by rw [hk.cell hl s3, ho]; exact h.c0, by rw [hk.cell hl s3, hj]; exact h.c1, by rw [hk.cell hl s3]; exact h.c2, by rw [hk.cell hl s3]; exact h.c3, by rw [hk.cell hl s3]; exact h.c4,
    by rw [hk.frozen hl s3]; exact h.f0, by rw [hk.frozen hl s3]; exact h.f1, mb, mf, ma, g⟩
theorem keeps_in {w w' : World} {t : Nat} (h : Keeps (fun k => t ≤ k ∧ k ≤ t + 2) w w') : Keeps (InD t) w w' := h.wider (fun k _ e => ⟨e.1, by omega⟩)
theorem wf_small {a : Int} (h1 : -9223372036854775808 ≤ a) (h2 : a ≤ 9223372036854775807) : (Lit.int .i64 a).wf = true :=
  WalkArith.wf_i64 ⟨h1, h2⟩
theorem okB_okK {b : Bk} (h : okB b = true) : okK b := by
  have := okB_iff.1 h
  exact ⟨wf_small (by omega) (by omega), wf_small (by omega) (by omega)⟩
end Go.Proofs.YtfghfbmmaclcnaaGreat
namespace Go.Proofs.YtfghfbmmaclcnaaGreat
set_option maxRecDepth 20000
open Go.RowKit Go.Maps
def dv0 : Dv := ⟨false, [], []⟩
theorem good0 : Good dv0 := ⟨List.Pairwise.nil, fun p hp => by simp [dv0] at hp, fun p hp => by simp [dv0] at hp, by decide, by decide, fun p hp => by simp [dv0] at hp⟩
theorem device_new (w : World) :
    Calls Tryz.prog 37 #[] w fun e w' => e = .returned (.pointer (some ⟨w.heap.size + 3, 0, none⟩)) ∧ w'.heap.size = w.heap.size + 4 ∧ DvIs w' w.heap.size dv0 ∧ Below w.heap.size w w' := by
  have hmm := @run_makeMap Tryz.prog
  go_enter Tryz.func37, Tryz.ntmps37
  go_wp2
  go_ret
  have a1 := (MapAs.made (M := MB) w).alloc (.map #[] 0)
  have a2 := a1.alloc (.map #[] 0)
  have b1 := MapAs.made (M := MF) (w.alloc (.map #[] 0))
  have b2 := b1.alloc (.map #[] 0)
  have c1 := MapAs.made (M := MA) ((w.alloc (.map #[] 0)).alloc (.map #[] 0))
  have e1 : (w.alloc (.map #[] 0)).heap.size = w.heap.size + 1 := by simp
  have e2 : ((w.alloc (.map #[] 0)).alloc (.map #[] 0)).heap.size = w.heap.size + 2 := by simp
  have e3 : (((w.alloc (.map #[] 0)).alloc (.map #[] 0)).alloc (.map #[] 0)).heap.size = w.heap.size + 3 := by simp
  rw [e1] at b2
  rw [e2] at c1
  have hb := ((((Below.refl w.heap.size w).alloc (Nat.le_refl _) (.map #[] 0)).alloc (by simp) (.map #[] 0)).alloc (by rw [e2]; omega) (.map #[] 0))
  generalize (((w.alloc (.map #[] 0)).alloc (.map #[] 0)).alloc (.map #[] 0)) = x at *
  refine ⟨rfl, by simp [e3], ⟨?_, ?_, ?_, ?_, ?_, ?_, ?_, (a2.alloc _).eq (fun x _ => rfl), (b2.alloc _).eq (fun x _ => ?_), (c1.alloc _).eq (fun x _ => ?_), good0⟩, ?_⟩
  · rw [← e3]; simp [dv0]
  · rw [← e3]; simp [dv0]
  · rw [← e3]; simp
  · rw [← e3]; simp
  · rw [← e3]; simp
  · rw [← e3]; simp
  · rw [← e3]; simp
  · simp [fl, jobAt, dv0]
  · simp [an, jobAt, dv0]
  · exact hb.alloc (by omega) _
def powE (d : Dv) : Int := if d.off = true then 6 else 0
theorem device_power {w : World} {t : Nat} {d : Dv} (h : DvIs w t d) :
    Calls Tryz.prog 100 #[.pointer (some ⟨t + 3, 0, none⟩)] w fun e w' => e = .returned (.int .i64 (powE d)) ∧ w' = w := by
  have h1 := h.c0
  cases ho : d.off <;> rw [ho] at h1
  all_goals
    simp only [Bool.not_false, Bool.not_true] at h1
    have hp : powE d = if d.off = true then 6 else 0 := rfl
    rw [ho] at hp
    simp at hp
    rw [hp]
    clear h hp
    go_enter Tryz.func100, Tryz.ntmps100
    go_wp2
    go_ret
    exact ⟨rfl, rfl⟩
def refE (d : Dv) (b : Bk) : Int := if d.off = true then 6 else if okB b = false then 1 else 0
theorem device_refuses {w : World} {t : Nat} {d : Dv} (h : DvIs w t d) (b : Bk) :
    Calls Tryz.prog 155 #[.pointer (some ⟨t + 3, 0, none⟩), bkV b] w fun e w' => e = .returned (.int .i64 (refE d b)) ∧ Below w.heap.size w w' := by
  obtain ⟨a, n⟩ := b
  simp only [bkV]
  have hp := device_power (h.alloc (.cells #[.int .i64 a, .int .i64 n] 59))
  have hP : powE d = if d.off = true then 6 else 0 := rfl
  have hR : refE d (a, n) = if d.off = true then 6 else if okB (a, n) = false then 1 else 0 := rfl
  generalize refE d (a, n) = r at *
  generalize powE d = q at *
  cases ho : d.off with
  | true =>
    rw [ho] at hP hR
    simp at hP hR
    subst hP hR
    clear h ho
    go_enter Tryz.func155, Tryz.ntmps155
    go_wp2_with fail
    refine hp.mono ?_
    rintro e x ⟨rfl, rfl⟩
    go_wp2
    go_ret
    exact ⟨rfl, (Below.refl _ _).alloc (Nat.le_refl _) _⟩
  | false =>
    rw [ho] at hP hR
    simp only [Bool.false_eq_true, if_false] at hP hR
    subst hP
    have hk : okB (a, n) = true ↔ 0 ≤ a ∧ a ≤ 2 ∧ 0 ≤ n ∧ n ≤ 63 := okB_iff
    have HR := hide hR
    have HK := hide hk
    clear h ho hR hk
    by_cases h1 : a < 0
    · go_enter Tryz.func155, Tryz.ntmps155
      go_wp2_with fail
      refine hp.mono ?_
      rintro e x ⟨rfl, rfl⟩
      go_wp2
      go_ret
      refine ⟨ret_int ?_, (Below.refl _ _).alloc (Nat.le_refl _) _⟩
      rw [HR.out, if_pos (by rw [Bool.eq_false_iff]; intro h; have := HK.out.1 h; omega)]
    by_cases h2 : 2 < a
    · go_enter Tryz.func155, Tryz.ntmps155
      go_wp2_with fail
      refine hp.mono ?_
      rintro e x ⟨rfl, rfl⟩
      go_wp2
      go_ret
      refine ⟨ret_int ?_, (Below.refl _ _).alloc (Nat.le_refl _) _⟩
      rw [HR.out, if_pos (by rw [Bool.eq_false_iff]; intro h; have := HK.out.1 h; omega)]
    by_cases h3 : n < 0
    · go_enter Tryz.func155, Tryz.ntmps155
      go_wp2_with fail
      refine hp.mono ?_
      rintro e x ⟨rfl, rfl⟩
      go_wp2
      go_ret
      refine ⟨ret_int ?_, (Below.refl _ _).alloc (Nat.le_refl _) _⟩
      rw [HR.out, if_pos (by rw [Bool.eq_false_iff]; intro h; have := HK.out.1 h; omega)]
    by_cases h4 : 64 ≤ n
    · go_enter Tryz.func155, Tryz.ntmps155
      go_wp2_with fail
      refine hp.mono ?_
      rintro e x ⟨rfl, rfl⟩
      go_wp2
      go_ret
      refine ⟨ret_int ?_, (Below.refl _ _).alloc (Nat.le_refl _) _⟩
      rw [HR.out, if_pos (by rw [Bool.eq_false_iff]; intro h; have := HK.out.1 h; omega)]
    · go_enter Tryz.func155, Tryz.ntmps155
      go_wp2_with fail
      refine hp.mono ?_
      rintro e x ⟨rfl, rfl⟩
      go_wp2
      go_ret
      refine ⟨ret_int ?_, (Below.refl _ _).alloc (Nat.le_refl _) _⟩
      rw [HR.out, if_neg (by rw [HK.out.2 (by omega)]; simp)]
end Go.Proofs.YtfghfbmmaclcnaaGreat
namespace Go.Proofs.YtfghfbmmaclcnaaGreat
set_option maxRecDepth 20000
open Go.RowKit Go.Maps
set_option maxHeartbeats 1000000 in
theorem device_peek {w : World} {t : Nat} {d : Dv} (h : DvIs w t d) (b : Bk) (hb : okK b) :
    Calls Tryz.prog 20 #[.pointer (some ⟨t + 3, 0, none⟩), bkV b] w fun e w' => e = .returned (.tuple #[.string ((lookL d.items b).getD ⟨#[]⟩), .bool (lookL d.items b).isSome]) ∧ Below w.heap.size w w' := by
  have hl := ((h.mb.alloc (.cells #[.int .i64 b.1, .int .i64 b.2] 59)).drew 1).look hb
  have hl' := (((h.mb.alloc (.cells #[.int .i64 b.1, .int .i64 b.2] 59)).alloc (.cells #[.string ⟨#[]⟩] 122)).drew 1).look hb
  have h2 := cell_alloc h.c2 (.cells #[.int .i64 b.1, .int .i64 b.2] 59)
  have h2' := cell_alloc h2 (.cells #[.string ⟨#[]⟩] 122)
  obtain ⟨a, n⟩ := b
  simp only [bkV, MB, coV] at hl hl' ⊢
  change Sem.run _ _ (World.drew _) = _ at hl
  change Sem.run _ _ (World.drew _) = _ at hl'
  generalize (lookL d.items (a, n)).getD ⟨#[]⟩ = s at *
  generalize (lookL d.items (a, n)).isSome = o at *
  clear h hb
  go_enter Tryz.func20, Tryz.ntmps20
  go_wp2
  go_region_law (fail)
  all_goals
    go_wp2
    go_ret2
    have hB := below_drewN (((Below.refl w.heap.size w).alloc (Nat.le_refl _) (.cells #[.int .i64 a, .int .i64 n] 59)).alloc (by simp) (.cells #[.string ⟨#[]⟩] 122)) 1
    first | exact ⟨rfl, below_drewN (((Below.refl _ _).alloc (Nat.le_refl _) _).alloc (by simp) _) 1⟩ | exact ⟨rfl, hB.setCell (by simp) _⟩
end Go.Proofs.YtfghfbmmaclcnaaGreat
namespace Go.Proofs.YtfghfbmmaclcnaaGreat
set_option maxRecDepth 20000
open Go.RowKit Go.Maps
end Go.Proofs.YtfghfbmmaclcnaaGreat
namespace Go.Proofs.YtfghfbmmaclcnaaGreat
set_option maxRecDepth 20000
open Go.RowKit Go.Maps
/-- The tickets under way, as whole numbers. -/
def tkI (l : List Job) : List Int := (tk (fun _ => true) l).map fun (n : Nat) => (n : Int)
theorem tkI_len (l : List Job) : (tkI l).length = (tk (fun _ => true) l).length := by simp [tkI]
theorem fl_tk {l : List Job} {x : Int} : fl l x ≠ none ↔ x ∈ tkI l := by
  unfold tkI fl
  constructor
  · intro h
    cases e : jobAt l x with
    | none => rw [e] at h; exact absurd rfl h
    | some j =>
      rw [e] at h
      have hst : j.st = 0 := by
        apply Classical.byContradiction
        intro hn
        simp [hn] at h
      have := jobAt_lt e
      refine List.mem_map.2 ⟨x.toNat, tk_mem.2 ⟨j, by rw [show ((x.toNat : Nat) : Int) = x by omega]; exact e, hst, rfl⟩, by omega⟩
  · intro h
    obtain ⟨n, hn, rfl⟩ := List.mem_map.1 h
    obtain ⟨j, h1, h2, -⟩ := tk_mem.1 hn
    simp [h1, h2]
theorem tkI_nodup (l : List Job) : (tkI l).Nodup := by
  unfold tkI
  rw [List.Nodup, List.pairwise_map]
  exact (tk_nodup _ l).imp (fun h e => h (by omega))
theorem okI_small {x : Int} (h1 : 0 ≤ x) (h2 : x ≤ 1000000) : okI x := WalkArith.wf_i64 ⟨by omega, by omega⟩
theorem tkI_ok {l : List Job} (hl : l.length ≤ 1000) {x : Int} (h : x ∈ tkI l) : okI x := by
  obtain ⟨n, hn, rfl⟩ := List.mem_map.1 h
  obtain ⟨j, h1, -⟩ := tk_mem.1 hn
  have := jobAt_lt h1
  exact okI_small (by omega) (by omega)
theorem DvIs.flen {w : World} {t : Nat} {d : Dv} (h : DvIs w t d) (ty : TypeId) : (Builtin.len_ #[125] ty #[.map (some (t + 1))]).run Tryz.prog w = .ok (.int .i64 ((tk (fun _ => true) d.jobs).length : Int)) w := by
  have := h.mf.len (tkI d.jobs) (tkI_nodup _) (fun x hx => ⟨tkI_ok h.good.few hx, fl_tk.2 hx⟩) (fun x _ hx => fl_tk.1 hx) ty
  rw [tkI_len] at this
  exact this
theorem cell_alloc4 (w : World) (a b c d : Value) (T : TypeId) : (w.alloc (.cells #[a, b, c, d] T)).heap[w.heap.size]? = some (.cells #[a, b, c, d] T (0, 0)) := (MapKept.heap_alloc w _).1
/-- ask, where there is no room. -/
theorem device_ask_full {w : World} {t : Nat} {d : Dv} (h : DvIs w t d) (r : Rq) (hf : 32 ≤ (tk (fun _ => true) d.jobs).length) :
    Calls Tryz.prog 158 #[.pointer (some ⟨t + 3, 0, none⟩), rqV r] w fun e w' => e = .returned (.tuple #[.int .i64 0, .int .i64 9]) ∧ Below w.heap.size w w' := by
  obtain ⟨⟨a, n⟩, wr, s⟩ := r
  simp only [rqV]
  have h1 := h.alloc (.cells #[.int .i64 a, .int .i64 n, .bool wr, .string s] 154)
  have hl := h1.flen
  have c3 := h1.c3
  have hB := hide ((Below.refl w.heap.size w).alloc (Nat.le_refl _) (.cells #[.int .i64 a, .int .i64 n, .bool wr, .string s] 154))
  generalize (tk (fun _ => true) d.jobs).length = F at *
  clear h h1
  go_enter Tryz.func158, Tryz.ntmps158
  go_wp2
  go_ret2
  exact ⟨rfl, hB.out⟩
set_option maxHeartbeats 1000000 in
set_option maxRecDepth 10000 in
/-- ask, where there is. -/
theorem device_ask_room {w : World} {t : Nat} {d : Dv} (h : DvIs w t d) (r : Rq) (hb : okB r.b = true) (hs : r.s.size ≤ 131072) (hf : (tk (fun _ => true) d.jobs).length < 32) (hj : d.jobs.length < 1000) :
    Calls Tryz.prog 158 #[.pointer (some ⟨t + 3, 0, none⟩), rqV r] w fun e w' => e = .returned (.tuple #[.int .i64 ((d.jobs.length : Int) + 1), .int .i64 0]) ∧ DvIs w' t { d with jobs := d.jobs ++ [⟨r.b, r.wr, r.s, false, 0⟩] } ∧ Keeps (InD t) w w' := by
  obtain ⟨⟨a, n⟩, wr, s⟩ := r
  simp only [rqV] at *
  have ht := h.lt
  have h1 := h.alloc (.cells #[.int .i64 a, .int .i64 n, .bool wr, .string s] 154)
  have hl := h1.flen
  have c3' := h1.c3
  have c1' := h1.c1
  have f1' := h1.f1
  have c3 := h.c3
  have c1 := h.c1
  have f1 := h.f1
  -- the counter
  have K2 : Keeps (fun k => k = t + 3) w (w.setCell ⟨t + 3, 1, none⟩ (.int .i64 ((d.jobs.length : Int) + 1))) := (Keeps.refl (fun k => k = t + 3) w).setCell ⟨t + 3, 1, none⟩ (fun _ => rfl) _
  have g1 : (w.setCell ⟨t + 3, 1, none⟩ (.int .i64 ((d.jobs.length : Int) + 1))).cell? ⟨t + 3, 1, none⟩ = some (.int .i64 ((d.jobs.length : Int) + 1)) := World.cell?_setCell_same _ _ _ c1
  have hsz : (w.setCell ⟨t + 3, 1, none⟩ (.int .i64 ((d.jobs.length : Int) + 1))).heap.size = w.heap.size := by simp [World.setCell]
  have hm := ((h.mf.keep K2 (by simp)).alloc (.cells #[.int .i64 a, .int .i64 n, .bool wr, .string s] 154)).drew 1
  have KA := (Keeps.refl (fun _ => False) (w.setCell ⟨t + 3, 1, none⟩ (.int .i64 ((d.jobs.length : Int) + 1)))).alloc (.cells #[.int .i64 a, .int .i64 n, .bool wr, .string s] 154)
  obtain ⟨w3, hr, hm3, htu⟩ := hm.store (tkI d.jobs) (fun y _ hy => fl_tk.1 hy) (by rw [tkI_len]; omega) (x := (d.jobs.length : Int) + 1) (okI_small (by omega) (by omega)) ⟨(a, n), wr, s⟩
  have KT := (KA.drewN 1).wider (T := fun k => k = t + 1) (fun _ _ h => h.elim) |>.trans (Keeps.turned htu) (fun _ _ e => e)
  simp only [MF, rqV] at hr
  change Sem.run _ _ (World.drew _) = _ at hr
  have hkeep : ∀ {p : Addr}, p.block = t + 3 → w3.cell? p = (w.setCell ⟨t + 3, 1, none⟩ (.int .i64 ((d.jobs.length : Int) + 1))).cell? p ∧ w3.frozen? p = (w.setCell ⟨t + 3, 1, none⟩ (.int .i64 ((d.jobs.length : Int) + 1))).frozen? p := fun {p} hp => by
    refine ⟨KT.cell (by omega) ?_, KT.frozen (by omega) ?_⟩ <;> (show ¬ p.block = t + 1; omega)
  have hD : DvIs w3 t { d with jobs := d.jobs ++ [⟨(a, n), wr, s, false, 0⟩] } := by
    refine ⟨?_, ?_, ?_, ?_, ?_, ?_, ?_, ?_, hm3.eq (fun y _ => fl_snoc _ _ _ _ y), ?_, ?_⟩
    · rw [(hkeep rfl).1, World.cell?_setCell_other _ _ _ _ (by simp)]; exact h.c0
    · rw [(hkeep rfl).1, g1]; simp
    · rw [(hkeep rfl).1, World.cell?_setCell_other _ _ _ _ (by simp)]; exact h.c2
    · rw [(hkeep rfl).1, World.cell?_setCell_other _ _ _ _ (by simp)]; exact h.c3
    · rw [(hkeep rfl).1, World.cell?_setCell_other _ _ _ _ (by simp)]; exact h.c4
    · rw [(hkeep rfl).2, World.frozen?_setCell]; exact h.f0
    · rw [(hkeep rfl).2, World.frozen?_setCell]; exact h.f1
    · exact (h.mb.keep K2 (by simp)).keep KT (by simp)
    · exact ((h.ma.keep K2 (by simp)).keep KT (by simp)).eq (fun y _ => an_snoc _ _ _ _ y)
    · refine ⟨h.good.rise, h.good.it, fun j hj' => ?_, ?_, by simp; omega, fun j hj' h0 => ?_⟩
      · rcases List.mem_append.1 hj' with hj' | hj'
        · exact h.good.jb j hj'
        · rw [List.mem_singleton.1 hj']; exact ⟨hb, hs⟩
      · simp only; rw [tk_snoc, if_pos ⟨rfl, rfl⟩, List.length_append, List.length_singleton]; omega
      · rcases List.mem_append.1 hj' with hj' | hj'
        · exact h.good.nn j hj' h0
        · rw [List.mem_singleton.1 hj']
  have hK : Keeps (InD t) w w3 := (K2.wider (T := InD t) (fun k _ e => by rw [e]; exact ⟨by omega, by omega⟩)).trans KT (fun k _ e => by rw [e]; exact ⟨by omega, by omega⟩)
  have z1 : w3.cell? ⟨t + 3, 1, none⟩ = some (.int .i64 ((d.jobs.length : Int) + 1)) := by rw [(hkeep rfl).1, g1]
  have HD := hide hD
  have HK := hide hK
  clear hD hK hkeep KT htu hm3 hm K2 h1 h KA hsz hb hs
  generalize (tk (fun _ => true) d.jobs).length = F at *
  generalize d.jobs.length = J at *
  go_enter Tryz.func158, Tryz.ntmps158
  go_wp2
  go_region_law (fail)
  all_goals
    go_wp2
    go_ret2
    exact ⟨rfl, HD.out, HK.out⟩
end Go.Proofs.YtfghfbmmaclcnaaGreat
namespace Go.Proofs.YtfghfbmmaclcnaaGreat
set_option maxRecDepth 20000
open Go.RowKit Go.Maps
theorem an_keys {l : List Job} {x : Int} (h : an l x ≠ none) : x ∈ (List.range (l.length + 1)).map fun (n : Nat) => (n : Int) := by
  unfold an at h
  cases e : jobAt l x with
  | none => rw [e] at h; exact absurd rfl h
  | some j =>
    have := jobAt_lt e
    exact List.mem_map.2 ⟨x.toNat, List.mem_range.2 (by omega), by omega⟩
set_option maxHeartbeats 1000000 in
set_option maxRecDepth 10000 in
theorem device_take {w : World} {t : Nat} {d : Dv} (h : DvIs w t d) (x : Int) (hx : okI x) :
    Calls Tryz.prog 93 #[.pointer (some ⟨t + 3, 0, none⟩), .int .i64 x] w fun e w' => e = .returned (.tuple #[.string (takeS d x), .int .i64 (takeE d x)]) ∧ DvIs w' t (takeD d x) ∧ Keeps (InD t) w w' := by
  have hp := device_power h
  cases ho : d.off with
  | true =>
    have e1 : powE d = 6 := by simp [powE, ho]
    have e2 : takeE d x = 6 := by simp [takeE, ho]
    have e3 : takeS d x = ⟨#[]⟩ := by simp [takeS, e2]
    have e4 : takeD d x = d := by simp [takeD, ho]
    rw [e2, e3, e4]
    rw [e1] at hp
    have H := hide h
    clear h ho e1 e2 e3 e4
    go_enter Tryz.func93, Tryz.ntmps93
    go_wp2_with fail
    refine hp.mono ?_
    rintro e w1 ⟨rfl, rfl⟩
    go_wp2
    go_ret2
    exact ⟨rfl, H.out, Keeps.refl _ _⟩
  | false =>
    have e1 : powE d = 0 := by simp [powE, ho]
    rw [e1] at hp
    have hl := h.mf.look hx
    have c3 := h.c3
    have c4 := h.c4
    simp only [MF] at hl
    cases hf : fl d.jobs x with
    | some r =>
      have e2 : takeE d x = 10 := by simp [takeE, ho, hf]
      have e3 : takeS d x = ⟨#[]⟩ := by simp [takeS, e2]
      rw [e2, e3, takeD_fly hf]
      rw [hf] at hl
      obtain ⟨⟨a, n⟩, wr, s⟩ := r
      simp only [Option.getD_some, Option.isSome_some, rqV] at hl
      have H := hide h
      clear h ho e1 e2 e3 hf hx
      go_enter Tryz.func93, Tryz.ntmps93
      go_wp2_with fail
      refine hp.mono ?_
      rintro e w1 ⟨rfl, rfl⟩
      go_wp2
      go_ret2
      exact ⟨rfl, H.out.alloc _, (Keeps.refl _ _).alloc _⟩
    | none =>
      rw [hf] at hl
      simp only [Option.getD_none, Option.isSome_none, rqV] at hl
      have h1 := h.alloc (.cells #[.int .i64 0, .int .i64 0, .bool false, .string ⟨#[]⟩] 154)
      have K1 := (Keeps.refl (InD t) w).alloc (.cells #[.int .i64 0, .int .i64 0, .bool false, .string ⟨#[]⟩] 154)
      have hl2 := h1.ma.look hx
      have c4' := h1.c4
      simp only [MA] at hl2
      obtain ⟨t1, t2, t3, t4, t5⟩ := takeD_on ho x
      have hg := h.good.take x
      cases hn : an d.jobs x with
      | none =>
        have e2 : takeE d x = 7 := by simp [takeE, ho, hf, hn]
        have e3 : takeS d x = ⟨#[]⟩ := by simp [takeS, e2]
        rw [e2, e3]
        rw [hn] at hl2
        simp only [Option.getD_none, Option.isSome_none, coV] at hl2
        have hD : DvIs w t (takeD d x) := h.maps (Keeps.refl _ _) t1 t3 (by rw [t2]; exact h.mb) (h.mf.eq (fun y _ => t4 y)) (h.ma.eq (fun y _ => by
          rw [t5 hf]
          split
          · rename_i e; subst e; exact hn.symm
          · rfl)) hg
        have H := hide hD
        clear h h1 ho e1 e2 e3 hf hn hx t1 t2 t3 t4 t5 hg hD K1
        go_enter Tryz.func93, Tryz.ntmps93
        go_wp2_with fail
        refine hp.mono ?_
        rintro e w1 ⟨rfl, rfl⟩
        go_wp2
        go_ret2
        exact ⟨rfl, (H.out.alloc _).alloc _, ((Keeps.refl _ _).alloc _).alloc _⟩
      | some s =>
        have e2 : takeE d x = 0 := by simp [takeE, ho, hf, hn]
        have e3 : takeS d x = s := by simp [takeS, e2, hn]
        rw [e2, e3]
        rw [hn] at hl2
        simp only [Option.getD_some, Option.isSome_some, coV] at hl2
        have h2 := h1.alloc (.cells #[.string s] 122)
        have K2 := K1.alloc (.cells #[.string s] 122)
        have c4'' := h2.c4
        have hd : ∃ w3, (∀ ty, (Builtin.delete_ #[126, 3] ty #[.map (some (t + 2)), .int .i64 x]).run Tryz.prog ((w.alloc (.cells #[.int .i64 0, .int .i64 0, .bool false, .string ⟨#[]⟩] 154)).alloc (.cells #[.string s] 122)) = .ok (.tuple #[]) w3) ∧ DvIs w3 t (takeD d x) ∧ Keeps (InD t) w w3 ∧ w3.cell? ⟨w.heap.size + 1, 0, none⟩ = some (.string s) := by
          obtain ⟨w3, hr, hm, htu⟩ := h2.ma.drop hx 0
          have KT := (Keeps.turned htu).wider (T := fun k => t ≤ k ∧ k ≤ t + 2) (fun k _ e => by rw [e]; exact ⟨by omega, by omega⟩)
          have ht := h.lt
          refine ⟨w3, fun ty => hr, h2.maps KT t1 t3 (by rw [t2]; exact h2.mb.keep (Keeps.turned htu) (by simp)) ((h2.mf.keep (Keeps.turned htu) (by simp)).eq (fun y _ => t4 y)) (hm.eq (fun y _ => t5 hf y)) hg, K2.trans (keeps_in KT) (fun _ _ h => h), ?_⟩
          rw [KT.cell (by simp) (by simp; omega)]
          simp
        obtain ⟨w3, hr, hD, hK, hc⟩ := hd
        have H := hide hD
        have HK := hide hK
        clear h h1 h2 ho e1 e2 e3 hf hn hx t1 t2 t3 t4 t5 hg hD K1 K2 hK
        go_enter Tryz.func93, Tryz.ntmps93
        go_wp2_with fail
        refine hp.mono ?_
        rintro e w1 ⟨rfl, rfl⟩
        go_wp2
        go_ret2
        exact ⟨rfl, H.out, HK.out⟩
end Go.Proofs.YtfghfbmmaclcnaaGreat
namespace Go.Proofs.YtfghfbmmaclcnaaGreat
set_option maxRecDepth 20000
open Go.RowKit Go.Maps
theorem items_keys {d : Dv} (g : Good d) : (d.items.map Prod.fst).length < 4611686018427387904 := by
  have := items_few g.rise (fun p hp => (g.it p hp).1)
  simp; omega
theorem an_few {d : Dv} (g : Good d) : ((List.range (d.jobs.length + 1)).map fun (n : Nat) => (n : Int)).length < 4611686018427387904 := by
  have := g.few
  simp; omega
theorem cells4 {w w' : World} {a b c d : Value} {T : TypeId} {S : Nat → Prop} (hk : Keeps S (w.alloc (.cells #[a, b, c, d] T)) w') (hS : ¬ S w.heap.size) :
    w'.cell? ⟨w.heap.size, 0, none⟩ = some a ∧ w'.cell? ⟨w.heap.size, 1, none⟩ = some b ∧ w'.cell? ⟨w.heap.size, 2, none⟩ = some c ∧ w'.cell? ⟨w.heap.size, 3, none⟩ = some d := by
  refine ⟨?_, ?_, ?_, ?_⟩ <;> rw [hk.cell (by simp) hS] <;> simp
set_option maxHeartbeats 1000000 in
set_option maxRecDepth 10000 in
theorem device_do_not {w : World} {t : Nat} {d : Dv} (h : DvIs w t d) (x : Int) (hx : okI x) (hq : d.off = true ∨ fl d.jobs x = none) :
    Calls Tryz.prog 38 #[.pointer (some ⟨t + 3, 0, none⟩), .int .i64 x] w fun e w' => e = .returned (.int .i64 (doE d x)) ∧ Below w.heap.size w w' := by
  have hp := device_power h
  cases ho : d.off with
  | true =>
    have e1 : powE d = 6 := by simp [powE, ho]
    have e2 : doE d x = 6 := by simp [doE, ho]
    rw [e2]
    rw [e1] at hp
    clear h ho e1 e2 hq
    go_enter Tryz.func38, Tryz.ntmps38
    go_wp2_with fail
    refine hp.mono ?_
    rintro e w1 ⟨rfl, rfl⟩
    go_wp2
    go_ret
    exact ⟨rfl, Below.refl _ _⟩
  | false =>
    have hf : fl d.jobs x = none := by
      rcases hq with h | h
      · rw [ho] at h; cases h
      · exact h
    have e1 : powE d = 0 := by simp [powE, ho]
    have e2 : doE d x = 7 := by simp [doE, ho, hf]
    rw [e2]
    rw [e1] at hp
    have hl := h.mf.look hx
    have c3 := h.c3
    simp only [MF] at hl
    rw [hf] at hl
    simp only [Option.getD_none, Option.isSome_none, rqV] at hl
    clear h ho e1 e2 hf hq
    go_enter Tryz.func38, Tryz.ntmps38
    go_wp2_with fail
    refine hp.mono ?_
    rintro e w1 ⟨rfl, rfl⟩
    go_wp2
    go_ret
    exact ⟨rfl, (Below.refl _ _).alloc (Nat.le_refl _) _⟩
/-- What is under way is struck off the map. -/
theorem do_struck {w : World} {t : Nat} {d : Dv} (h : DvIs w t d) (x : Int) (hx : okI x) (o : Obj) :
    ∃ w2, (∀ ty, (Builtin.delete_ #[125, 3] ty #[.map (some (t + 1)), .int .i64 x]).run Tryz.prog (w.alloc o) = .ok (.tuple #[]) w2) ∧ Keeps (fun k => k = t + 1) (w.alloc o) w2 ∧ MapAs MF w2 (t + 1) (fun y => if y = x then none else fl d.jobs y) ∧ w2.heap.size = w.heap.size + 1 := by
  obtain ⟨w2, hr, hm, htu⟩ := (h.alloc o).mf.drop hx 0
  exact ⟨w2, fun ty => hr, Keeps.turned htu, hm, by rw [turned_size htu]; simp⟩
set_option maxHeartbeats 1000000 in
set_option maxRecDepth 10000 in
theorem device_do_write {w : World} {t : Nat} {d : Dv} (h : DvIs w t d) (x : Int) (hx : okI x) (ho : d.off = false) {r : Rq} (hf : fl d.jobs x = some r) (hw : r.wr = true) :
    Calls Tryz.prog 38 #[.pointer (some ⟨t + 3, 0, none⟩), .int .i64 x] w fun e w' => e = .returned (.int .i64 0) ∧ DvIs w' t (doD d x) ∧ Keeps (InD t) w w' := by
  have hp := device_power h
  have e1 : powE d = 0 := by simp [powE, ho]
  rw [e1] at hp
  have hl := h.mf.look hx
  have c3 := h.c3
  simp only [MF] at hl
  rw [hf] at hl
  obtain ⟨t1, t2, t3, t4, t5⟩ := doD_some h.good ho hf
  obtain ⟨j, hj, hst, hrj⟩ := fl_some hf
  have hjb := h.good.jb j (jobAt_mem hj)
  have hbk : okK r.b := okB_okK (by rw [hrj]; exact hjb.1)
  clear hrj hj hst hjb
  obtain ⟨⟨a, n⟩, wr, s⟩ := r
  simp only [Option.getD_some, Option.isSome_some, rqV] at hl t2 t5 hw hbk
  subst hw
  simp only [if_true] at t2 t5
  have ht := h.lt
  obtain ⟨w2, hr2, k2, m2, z2⟩ := do_struck h x hx (.cells #[.int .i64 a, .int .i64 n, .bool true, .string s] 154)
  have h1 := h.alloc (.cells #[.int .i64 a, .int .i64 n, .bool true, .string s] 154)
  have c3' := h1.c3
  obtain ⟨y0, y1, y2, y3⟩ := cells4 k2 (by omega)
  have d2 : w2.cell? ⟨t + 3, 2, none⟩ = some (.map (some t)) := by rw [k2.cell h1.lt (by simp)]; exact h1.c2
  obtain ⟨w3, hr3, m3, tu3⟩ := ((h1.mb.keep k2 (by simp)).drew 1).store (d.items.map Prod.fst) (fun y _ hy => lookL_mem.1 hy) (items_keys h.good) hbk s
  have k3 := Keeps.turned tu3
  simp only [MB, bkV, coV] at hr3
  change Sem.run _ _ (World.drew _) = _ at hr3
  have K3 : Keeps (fun k => t ≤ k ∧ k ≤ t + 2) (w.alloc (.cells #[.int .i64 a, .int .i64 n, .bool true, .string s] 154)) w3 :=
    ((k2.drewN 1).wider (T := fun k => t ≤ k ∧ k ≤ t + 2) (fun k _ e => by omega)).trans k3 (fun k _ e => by omega)
  have d4 : w3.cell? ⟨t + 3, 4, none⟩ = some (.map (some (t + 2))) := by rw [K3.cell h1.lt (by simp)]; exact h1.c4
  obtain ⟨w4, hr4, m4, tu4⟩ := (((h1.ma.keep k2 (by simp)).drew 1).keep k3 (by simp)).store _ (fun y _ hy => an_keys hy) (an_few h.good) hx ⟨#[]⟩
  have k4 := Keeps.turned tu4
  simp only [MA, coV] at hr4
  have K4 := K3.trans k4 (fun k _ e => by omega)
  have hD : DvIs w4 t (doD d x) := h1.maps K4 t1 t3 ((m3.keep k4 (by simp)).eq (fun y _ => by rw [t2, lookL_lay])) ((((m2.drew 1).keep k3 (by simp)).keep k4 (by simp)).eq (fun y _ => t4 y)) (m4.eq (fun y _ => t5 y)) (h.good.done x)
  have hK : Keeps (InD t) w w4 := ((Keeps.refl (InD t) w).alloc _).trans (keeps_in K4) (fun _ _ h => h)
  have H := hide hD
  have HK := hide hK
  clear hD hK K4 K3 k4 k3 k2 m4 m3 m2 tu3 tu4 t1 t2 t3 t4 t5 h1 h hf ho hbk e1 z2
  go_enter Tryz.func38, Tryz.ntmps38
  go_wp2_with fail
  refine hp.mono ?_
  rintro e w1 ⟨rfl, rfl⟩
  go_wp2
  go_region_law (fail)
  all_goals
    go_wp2
    go_ret
    exact ⟨rfl, H.out, HK.out⟩
end Go.Proofs.YtfghfbmmaclcnaaGreat
namespace Go.Proofs.YtfghfbmmaclcnaaGreat
set_option maxRecDepth 20000
open Go.RowKit Go.Maps
theorem set_new (x : World) (u v : Value) (T : TypeId) : ((x.alloc (.cells #[u] T)).drewN 1).setCell ⟨x.heap.size, 0, none⟩ v = (x.alloc (.cells #[v] T)).drewN 1 := by
  have := World.setCell_alloc_at (w := x) #[u] T x.heap.size 0 v rfl
  show ((x.alloc (.cells #[u] T)).setCell ⟨x.heap.size, 0, none⟩ v).drewN 1 = _
  rw [this]
  rfl
set_option maxHeartbeats 1000000 in
set_option maxRecDepth 10000 in
theorem device_do_read {w : World} {t : Nat} {d : Dv} (h : DvIs w t d) (x : Int) (hx : okI x) (ho : d.off = false) {r : Rq} (hf : fl d.jobs x = some r) (hw : r.wr = false) :
    Calls Tryz.prog 38 #[.pointer (some ⟨t + 3, 0, none⟩), .int .i64 x] w fun e w' => e = .returned (.int .i64 0) ∧ DvIs w' t (doD d x) ∧ Keeps (InD t) w w' := by
  have hp := device_power h
  have e1 : powE d = 0 := by simp [powE, ho]
  rw [e1] at hp
  have hl := h.mf.look hx
  have c3 := h.c3
  simp only [MF] at hl
  rw [hf] at hl
  obtain ⟨t1, t2, t3, t4, t5⟩ := doD_some h.good ho hf
  obtain ⟨j, hj, hst, hrj⟩ := fl_some hf
  have hjb := h.good.jb j (jobAt_mem hj)
  have hbk : okK r.b := okB_okK (by rw [hrj]; exact hjb.1)
  clear hrj hj hst hjb
  obtain ⟨⟨a, n⟩, wr, s⟩ := r
  simp only [Option.getD_some, Option.isSome_some, rqV] at hl t2 t5 hw hbk
  subst hw
  simp only [Bool.false_eq_true, if_false] at t2 t5
  have ht := h.lt
  obtain ⟨w2, hr2, k2, m2, z2⟩ := do_struck h x hx (.cells #[.int .i64 a, .int .i64 n, .bool false, .string s] 154)
  have h1 := h.alloc (.cells #[.int .i64 a, .int .i64 n, .bool false, .string s] 154)
  have c3' := h1.c3
  obtain ⟨y0, y1, y2, y3⟩ := cells4 k2 (by omega)
  have d2 : w2.cell? ⟨t + 3, 2, none⟩ = some (.map (some t)) := by rw [k2.cell h1.lt (by simp)]; exact h1.c2
  have d4 : w2.cell? ⟨t + 3, 4, none⟩ = some (.map (some (t + 2))) := by rw [k2.cell h1.lt (by simp)]; exact h1.c4
  have d2' := cell_alloc d2 (.cells #[.string ⟨#[]⟩] 122)
  have y0' := cell_alloc y0 (.cells #[.string ⟨#[]⟩] 122)
  have y1' := cell_alloc y1 (.cells #[.string ⟨#[]⟩] 122)
  have mb2 := h1.mb.keep k2 (by simp)
  have ma2 := h1.ma.keep k2 (by simp)
  have hl1 := (mb2.drew 1).look hbk
  have hl2 := ((mb2.alloc (.cells #[.string ⟨#[]⟩] 122)).drew 1).look hbk
  simp only [MB, bkV, coV] at hl1 hl2
  change Sem.run _ _ (World.drew _) = _ at hl1
  change Sem.run _ _ (World.drew _) = _ at hl2
  have K2 : Keeps (fun k => t ≤ k ∧ k ≤ t + 2) (w.alloc (.cells #[.int .i64 a, .int .i64 n, .bool false, .string s] 154)) w2 := k2.wider (T := fun k => t ≤ k ∧ k ≤ t + 2) (fun k _ e => by omega)
  have KA : Keeps (InD t) w (w.alloc (.cells #[.int .i64 a, .int .i64 n, .bool false, .string s] 154)) := (Keeps.refl (InD t) w).alloc _
  cases hk : lookL d.items (a, n) with
  | none =>
    rw [hk] at hl1 hl2 t5
    simp only [Option.getD_none, Option.isSome_none] at hl1 hl2
    have hD : DvIs w2 t (doD d x) := h1.maps K2 t1 t3 (by rw [t2]; exact mb2) (m2.eq (fun y _ => t4 y)) (ma2.eq (fun y _ => by
      rw [t5]
      split
      · rename_i e
        subst e
        obtain ⟨j, hj, hst, -⟩ := fl_some hf
        simp [an, hj, hst]
      · rfl)) (h.good.done x)
    have hK := KA.trans (keeps_in K2) (fun _ _ h => h)
    have H := hide hD
    have HK := hide hK
    clear hD hK K2 k2 KA m2 t1 t2 t3 t4 t5 h1 h hf ho hbk e1 mb2 ma2 hk
    go_enter Tryz.func38, Tryz.ntmps38
    go_wp2_with fail
    refine hp.mono ?_
    rintro e w1 ⟨rfl, rfl⟩
    go_wp2
    go_region_law (fail)
    all_goals
      go_wp2
      go_ret
      first
        | exact ⟨rfl, (H.out.alloc _).drew 1, (HK.out.alloc _).drewN 1⟩
        | (rw [← z2, set_new]; exact ⟨rfl, (H.out.alloc _).drew 1, (HK.out.alloc _).drewN 1⟩)
  | some u =>
    rw [hk] at hl1 hl2 t5
    simp only [Option.getD_some, Option.isSome_some] at hl1 hl2
    have hy : ∃ y, y = (w2.alloc (.cells #[.string u] 122)).drewN 1 ∧ (y.cell? ⟨w2.heap.size, 0, none⟩ = some (.string u)) ∧ y.cell? ⟨t + 3, 4, none⟩ = some (.map (some (t + 2))) ∧
        ∃ w5, (Instr.mapUpdate 126 (.map (some (t + 2))) (.int .i64 x) (.agg #[.string u])).run Tryz.prog y.drew = .ok () w5 ∧ DvIs w5 t (doD d x) ∧ Keeps (InD t) w w5 := by
      refine ⟨_, rfl, by simp, cell_alloc d4 _, ?_⟩
      obtain ⟨w5, hr5, m5, tu5⟩ := (((ma2.alloc (.cells #[.string u] 122)).drew 1).drew 1).store _ (fun y _ hy => an_keys hy) (an_few h.good) hx u
      have k5 := Keeps.turned tu5
      have K5 : Keeps (fun k => t ≤ k ∧ k ≤ t + 2) (w.alloc (.cells #[.int .i64 a, .int .i64 n, .bool false, .string s] 154)) w5 :=
        (((K2.alloc (.cells #[.string u] 122)).drewN 1).drewN 1).trans k5 (fun k _ e => by omega)
      simp only [MA, coV] at hr5
      refine ⟨w5, hr5, h1.maps K5 t1 t3 (by rw [t2]; exact (((mb2.alloc _).drew 1).drew 1).keep k5 (by simp)) (((((m2.alloc _).drew 1).drew 1).keep k5 (by simp)).eq (fun y _ => t4 y)) (m5.eq (fun y _ => t5 y)) (h.good.done x), KA.trans (keeps_in K5) (fun _ _ h => h)⟩
    obtain ⟨y, hy, q1, q2, w5, hr5, hD, hK⟩ := hy
    have H := hide hD
    have HK := hide hK
    have HY := hide hy
    clear hy hD hK K2 k2 KA m2 t1 t2 t3 t4 t5 h1 h hf ho hbk e1 mb2 ma2 hk
    rw [z2] at q1
    go_enter Tryz.func38, Tryz.ntmps38
    go_wp2_with fail
    refine hp.mono ?_
    rintro e w1 ⟨rfl, rfl⟩
    go_wp2
    go_region_law (fail)
    all_goals
      first
        | rw [show (w2.drewN 1).alloc (.cells #[.string u] 122) = y from HY.out.symm]
        | rw [show ((w2.alloc (.cells #[.string ⟨#[]⟩] 122)).drewN 1).setCell ⟨w1.heap.size + 1, 0, none⟩ (.string u) = y from by rw [← z2, set_new]; exact HY.out.symm]
      go_wp2
      go_region_law (fail)
      all_goals
        go_wp2
        go_ret
        exact ⟨rfl, H.out, HK.out⟩
/-- Do. -/
theorem device_do {w : World} {t : Nat} {d : Dv} (h : DvIs w t d) (x : Int) (hx : okI x) :
    Calls Tryz.prog 38 #[.pointer (some ⟨t + 3, 0, none⟩), .int .i64 x] w fun e w' => e = .returned (.int .i64 (doE d x)) ∧ DvIs w' t (doD d x) ∧ Keeps (InD t) w w' := by
  by_cases hq : d.off = true ∨ fl d.jobs x = none
  · refine (device_do_not h x hx hq).mono ?_
    rintro e w' ⟨rfl, hb⟩
    have e : doD d x = d := by
      rcases hq with hq | hq
      · simp [doD, hq]
      · exact doD_none hq
    rw [e]
    exact ⟨rfl, h.below hb, Below.keeps hb⟩
  · have ho : d.off = false := by
      cases e : d.off
      · rfl
      · exact absurd (.inl e) hq
    cases hf : fl d.jobs x with
    | none => exact absurd (.inr hf) hq
    | some r =>
      have e : doE d x = 0 := by simp [doE, ho, hf]
      rw [e]
      cases hw : r.wr
      · exact device_do_read h x hx ho hf hw
      · exact device_do_write h x hx ho hf hw
end Go.Proofs.YtfghfbmmaclcnaaGreat
namespace Go.Proofs.YtfghfbmmaclcnaaGreat
set_option maxRecDepth 20000
open Go.RowKit Go.Maps
theorem field_co (w : World) (s : ByteArray) : (Instr.field 122 (.agg #[.string s]) 0).run Tryz.prog w = .ok (.string s) w := by kernel_rfl
/-- A block is laid. -/
theorem lay_store {w : World} {t : Nat} {d : Dv} (h : DvIs w t d) {b : Bk} {s : ByteArray} (hb : okB b = true) (hs : s.size ≤ 131072) :
    ∃ w3, (Instr.mapUpdate 124 (.map (some t)) (.agg #[.int .i64 b.1, .int .i64 b.2]) (.agg #[.string s])).run Tryz.prog w = .ok () w3 ∧ DvIs w3 t { d with items := lay b s d.items } ∧ Keeps (InD t) w w3 := by
  obtain ⟨w3, hr3, m3, tu3⟩ := h.mb.store (d.items.map Prod.fst) (fun y _ hy => lookL_mem.1 hy) (items_keys h.good) (okB_okK hb) s
  have k3 := Keeps.turned tu3
  have K3 := k3.wider (T := fun k => t ≤ k ∧ k ≤ t + 2) (fun k _ e => by omega)
  exact ⟨w3, hr3, h.maps K3 rfl rfl (m3.eq (fun y _ => lookL_lay _ _ _ y)) (h.mf.keep k3 (by simp)) (h.ma.keep k3 (by simp)) ⟨lay_rising h.good.rise, lay_good hb hs h.good.it, h.good.jb, h.good.fly, h.good.few, h.good.nn⟩, keeps_in K3⟩
end Go.Proofs.YtfghfbmmaclcnaaGreat
