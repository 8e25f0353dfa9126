/- What a device answers, as plain functions. -/
import Derived.Test.YtjhndhibojndfaaDm
import Derived.Test.YtjhndhibojndfaaDa
namespace Go.Proofs.Ytjhndhibojndfaa
/-- The job of a ticket. -/
def jobAt (l : List Job) (t : Int) : Option Job := if 1 ≤ t then l[(t - 1).toNat]? else none
def fl (l : List Job) (t : Int) : Option Rq := (jobAt l t).bind fun j => if j.st = 0 then some j.rq else none
def an (l : List Job) (t : Int) : Option ByteArray := (jobAt l t).bind fun j => if j.st = 1 ∧ j.no = false then some j.s else none
theorem jobAt_snoc (l : List Job) (j : Job) (t : Int) : jobAt (l ++ [j]) t = if t = (l.length : Int) + 1 then some j else jobAt l t := by
  unfold jobAt
  by_cases h1 : 1 ≤ t
  · rw [if_pos h1, if_pos h1]
    by_cases h2 : t = (l.length : Int) + 1
    · rw [if_pos h2, List.getElem?_append_right (by omega), show (t - 1).toNat - l.length = 0 by omega]; rfl
    · rw [if_neg h2]
      by_cases h3 : (t - 1).toNat < l.length
      · rw [List.getElem?_append_left h3]
      · rw [List.getElem?_eq_none (by simp; omega), List.getElem?_eq_none (by omega)]
  · rw [if_neg h1, if_neg h1, if_neg (by omega)]
theorem jobAt_lt {l : List Job} {t : Int} {j : Job} (h : jobAt l t = some j) : 1 ≤ t ∧ t ≤ l.length ∧ l[(t - 1).toNat]? = some j := by
  unfold jobAt at h
  split at h
  · have := (List.getElem?_eq_some_iff.1 h).1
    exact ⟨by assumption, by omega, h⟩
  · cases h
theorem jobAt_none {l : List Job} {t : Int} (h : jobAt l t = none) : t < 1 ∨ (l.length : Int) < t := by
  unfold jobAt at h
  split at h
  · have := List.getElem?_eq_none_iff.1 h
    omega
  · omega
theorem jobAt_mem {l : List Job} {t : Int} {j : Job} (h : jobAt l t = some j) : j ∈ l := List.mem_of_getElem? (jobAt_lt h).2.2
theorem jobAt_set (l : List Job) (t : Int) (j : Job) (h1 : 1 ≤ t) (h2 : t ≤ l.length) (u : Int) : jobAt (l.set (t - 1).toNat j) u = if u = t then some j else jobAt l u := by
  unfold jobAt
  by_cases hu : 1 ≤ u
  · rw [if_pos hu, if_pos hu, List.getElem?_set]
    by_cases e : u = t
    · subst e
      rw [if_pos rfl, if_pos rfl, if_pos (by omega)]
    · rw [if_neg e, if_neg (by omega)]
  · rw [if_neg hu, if_neg hu, if_neg (by omega)]
theorem jobAt_map (l : List Job) (f : Job → Job) (t : Int) : jobAt (l.map f) t = (jobAt l t).map f := by
  unfold jobAt
  split <;> simp
/-- The tickets of those under way that fit. -/
def tk (p : Job → Bool) (l : List Job) : List Nat := ((List.range l.length).filter fun i => decide ((l.getD i default).st = 0) && p (l.getD i default)).map (· + 1)
theorem tk_snoc (p : Job → Bool) (l : List Job) (j : Job) : tk p (l ++ [j]) = tk p l ++ (if j.st = 0 ∧ p j = true then [l.length + 1] else []) := by
  unfold tk
  rw [List.length_append, List.length_singleton, List.range_succ, List.filter_append, List.map_append]
  congr 1
  · congr 1
    refine List.filter_congr (fun i hi => ?_)
    have : i < l.length := List.mem_range.1 hi
    simp [List.getD_eq_getElem?_getD, List.getElem?_append_left this]
  · have : (l ++ [j]).getD l.length default = j := by simp [List.getD_eq_getElem?_getD]
    by_cases h : j.st = 0 ∧ p j = true
    · simp [h.1, h.2]
    · have : (decide (j.st = 0) && p j) = false := by
        rw [Bool.eq_false_iff]
        intro h'
        simp at h'
        exact h h'
      simp_all
theorem tk_mem {p : Job → Bool} {l : List Job} {n : Nat} : n ∈ tk p l ↔ ∃ j, jobAt l n = some j ∧ j.st = 0 ∧ p j = true := by
  induction l using snoc_ind with
  | h0 => simp [tk, jobAt]
  | h1 l x ih =>
    rw [tk_snoc, List.mem_append, ih]
    constructor
    · rintro (⟨j, h1, h2⟩ | h)
      · refine ⟨j, ?_, h2⟩
        rw [jobAt_snoc, if_neg (by have := jobAt_lt h1; omega)]
        exact h1
      · split at h
        · rename_i hx
          rw [List.mem_singleton.1 h]
          exact ⟨x, by rw [jobAt_snoc, if_pos (by omega)], hx⟩
        · simp at h
    · rintro ⟨j, h1, h2⟩
      rw [jobAt_snoc] at h1
      split at h1
      · cases h1
        rename_i e
        exact .inr (by rw [if_pos h2, List.mem_singleton]; omega)
      · exact .inl ⟨j, h1, h2⟩
theorem tk_rising (p : Job → Bool) (l : List Job) : (tk p l).Pairwise (· < ·) := by
  unfold tk
  rw [List.pairwise_map]
  exact (List.pairwise_lt_range.filter _).imp (fun h => by omega)
theorem tk_nodup (p : Job → Bool) (l : List Job) : (tk p l).Nodup := (tk_rising p l).imp (fun h => Nat.ne_of_lt h)
theorem tk_len (p : Job → Bool) (l : List Job) : (tk p l).length ≤ l.length := by
  unfold tk
  rw [List.length_map]
  exact Nat.le_trans (List.length_filter_le _ _) (by simp)
/-- The jobs of those tickets. -/
def wrs (p : Job → Bool) (l : List Job) : List Job := l.filter fun j => decide (j.st = 0) && p j
theorem wrs_snoc (p : Job → Bool) (l : List Job) (j : Job) : wrs p (l ++ [j]) = wrs p l ++ (if j.st = 0 ∧ p j = true then [j] else []) := by
  unfold wrs
  rw [List.filter_append]
  congr 1
  by_cases h : j.st = 0 ∧ p j = true
  · simp [h.1, h.2]
  · have : (decide (j.st = 0) && p j) = false := by
      rw [Bool.eq_false_iff]
      intro h'
      simp at h'
      exact h h'
    simp_all
theorem tk_wrs (p : Job → Bool) (l : List Job) : (tk p l).length = (wrs p l).length ∧ ∀ (i n : Nat), (tk p l)[i]? = some n → ∃ j, (wrs p l)[i]? = some j ∧ jobAt l n = some j := by
  induction l using snoc_ind with
  | h0 => exact ⟨rfl, fun i n h => by simp [tk] at h⟩
  | h1 l x ih =>
    obtain ⟨i1, i2⟩ := ih
    rw [tk_snoc, wrs_snoc]
    by_cases hx : x.st = 0 ∧ p x = true
    · rw [if_pos hx, if_pos hx]
      refine ⟨by simp [i1], fun i n h => ?_⟩
      by_cases hi : i < (tk p l).length
      · rw [List.getElem?_append_left hi] at h
        obtain ⟨j, h1, h2⟩ := i2 i n h
        exact ⟨j, by rw [List.getElem?_append_left (by omega)]; exact h1, by rw [jobAt_snoc, if_neg (by have := jobAt_lt h2; omega)]; exact h2⟩
      · rw [List.getElem?_append_right (by omega)] at h
        have h0 : i - (tk p l).length = 0 := by
          have := (List.getElem?_eq_some_iff.1 h).1
          simp at this
          omega
        rw [h0] at h
        simp at h
        refine ⟨x, by rw [List.getElem?_append_right (by omega), ← i1, h0]; rfl, by rw [jobAt_snoc, if_pos (by omega)]⟩
    · rw [if_neg hx, if_neg hx]
      refine ⟨by simp [i1], fun i n h => ?_⟩
      rw [List.append_nil] at h
      obtain ⟨j, h1, h2⟩ := i2 i n h
      exact ⟨j, by rw [List.append_nil]; exact h1, by rw [jobAt_snoc, if_neg (by have := jobAt_lt h2; omega)]; exact h2⟩
/-- What a torn write leaves. -/
def tornN (n : Nat) (p : Int) : Nat := ((p - 2) % ((n : Int) + 1)).toNat
def tornS (had tobe : ByteArray) (p : Int) : ByteArray := tobe.extract 0 (tornN tobe.size p) ++ had.extract (min (tornN tobe.size p) had.size) had.size
theorem tornN_le (n : Nat) (p : Int) : tornN n p ≤ n := by
  unfold tornN
  have h1 := Int.emod_lt_of_pos (p - 2) (b := (n : Int) + 1) (by omega)
  have h2 := Int.emod_nonneg (p - 2) (b := (n : Int) + 1) (by omega)
  omega
theorem tornS_size {had tobe : ByteArray} {p : Int} {m : Nat} (h1 : had.size ≤ m) (h2 : tobe.size ≤ m) : (tornS had tobe p).size ≤ m := by
  have := tornN_le tobe.size p
  unfold tornS
  rw [ByteArray.size_append, ByteArray.size_extract, ByteArray.size_extract]
  omega
def leave (p : Int) (j : Job) (l : List (Bk × ByteArray)) : List (Bk × ByteArray) :=
  if p ≤ 0 then l else if p = 1 then lay j.b j.s l else lay j.b (tornS ((lookL l j.b).getD ⟨#[]⟩) j.s p) l
/-- What the blocks are when the first i writes have been left. -/
def crK (pk : Nat → Int) (ws : List Job) (l : List (Bk × ByteArray)) : Nat → List (Bk × ByteArray)
  | 0 => l
  | i + 1 => match ws[i]? with
    | some j => leave (pk i) j (crK pk ws l i)
    | none => crK pk ws l i
theorem crK_append (pk : Nat → Int) (ws vs : List Job) (l : List (Bk × ByteArray)) (i : Nat) (h : i ≤ ws.length) : crK pk (ws ++ vs) l i = crK pk ws l i := by
  induction i with
  | zero => rfl
  | succ i ih => simp only [crK]; rw [ih (by omega), List.getElem?_append_left (by omega)]
theorem crK_snoc (pk : Nat → Int) (ws : List Job) (j : Job) (l : List (Bk × ByteArray)) : crK pk (ws ++ [j]) l (ws.length + 1) = leave (pk ws.length) j (crK pk ws l ws.length) := by
  simp only [crK]
  rw [List.getElem?_append_right (Nat.le_refl _), Nat.sub_self, crK_append _ _ _ _ _ (Nat.le_refl _)]
  rfl
/-- What holds of every device. -/
structure Good (d : Dv) : Prop where
  rise : d.items.Pairwise (fun p q => ltB p.1 q.1)
  it : ∀ p ∈ d.items, okB p.1 = true ∧ p.2.size ≤ 131072
  jb : ∀ j ∈ d.jobs, okB j.b = true ∧ j.s.size ≤ 131072
  fly : (tk (fun _ => true) d.jobs).length ≤ 32
  few : d.jobs.length ≤ 1000
  nn : ∀ j ∈ d.jobs, j.st = 0 → j.no = false
theorem okB_iff {b : Bk} : okB b = true ↔ 0 ≤ b.1 ∧ b.1 ≤ 2 ∧ 0 ≤ b.2 ∧ b.2 ≤ 63 := by unfold okB; simp; omega
theorem items_few {l : List (Bk × ByteArray)} (h : l.Pairwise (fun p q => ltB p.1 q.1)) (h2 : ∀ p ∈ l, okB p.1 = true) : l.length ≤ 192 := by
  have hn : (l.map (fun p => (p.1.1 * 64 + p.1.2).toNat)).Nodup := by
    rw [List.Nodup, List.pairwise_map]
    refine List.Pairwise.imp_of_mem (fun {p q} hp hq hlt e => ?_) h
    have h3 := okB_iff.1 (h2 p hp)
    have h4 := okB_iff.1 (h2 q hq)
    unfold ltB at hlt
    omega
  have := nodup_len_le (b := List.range 192) hn (fun x hx => by
    obtain ⟨p, hp, rfl⟩ := List.mem_map.1 hx
    have h3 := okB_iff.1 (h2 p hp)
    rw [List.mem_range]
    omega)
  simpa using this
theorem fl_snoc (l : List Job) (b : Bk) (wr : Bool) (s : ByteArray) (t : Int) : fl (l ++ [⟨b, wr, s, false, 0⟩]) t = if t = (l.length : Int) + 1 then some ⟨b, wr, s⟩ else fl l t := by
  unfold fl
  rw [jobAt_snoc]
  split <;> rfl
theorem an_snoc (l : List Job) (b : Bk) (wr : Bool) (s : ByteArray) (t : Int) : an (l ++ [⟨b, wr, s, false, 0⟩]) t = an l t := by
  unfold an
  rw [jobAt_snoc]
  split
  · rename_i e
    have : jobAt l t = none := by
      unfold jobAt
      rw [if_pos (by omega), List.getElem?_eq_none (by omega)]
    rw [this]; rfl
  · rfl
/-- Ask. -/
def askE (d : Dv) (b : Bk) (wr : Bool) (s : ByteArray) : Int :=
  if d.off = true then 6 else if okB b = false then 1 else if 131072 < s.size then 5 else if wr = true ∧ (tk (fun j => j.wr && decide (j.b = b)) d.jobs).length ≠ 0 then 10 else if 32 ≤ (tk (fun _ => true) d.jobs).length then 9 else 0
def askT (d : Dv) (b : Bk) (wr : Bool) (s : ByteArray) : Int := if askE d b wr s = 0 then (d.jobs.length : Int) + 1 else 0
def askD (d : Dv) (b : Bk) (wr : Bool) (s : ByteArray) : Dv := if askE d b wr s = 0 then { d with jobs := d.jobs ++ [⟨b, wr, s, false, 0⟩] } else d
theorem Good.ask {d : Dv} (h : Good d) (b : Bk) (wr : Bool) (s : ByteArray) (hf : d.jobs.length < 1000) : Good (askD d b wr s) := by
  unfold askD
  by_cases e : askE d b wr s = 0
  · rw [if_pos e]
    unfold askE at e
    split at e; · omega
    split at e; · omega
    split at e; · omega
    split at e; · omega
    split at e; · omega
    rename_i h1 h2 h3 h4 h5
    refine ⟨h.rise, h.it, fun j hj => ?_, ?_, by simp; omega, fun j hj h0 => ?_⟩
    · rcases List.mem_append.1 hj with hj | hj
      · exact h.jb j hj
      · rw [List.mem_singleton.1 hj]
        exact ⟨by simpa using h2, by simp only; omega⟩
    · simp only; rw [tk_snoc, if_pos ⟨rfl, rfl⟩, List.length_append, List.length_singleton]; omega
    · rcases List.mem_append.1 hj with hj | hj
      · exact h.nn j hj h0
      · rw [List.mem_singleton.1 hj]
  · rw [if_neg e]; exact h
/-- Do. -/
def doneJ (d : Dv) (j : Job) : Job := if j.wr = true then { j with st := 1, s := ⟨#[]⟩ } else { j with st := 1, s := (lookL d.items j.b).getD ⟨#[]⟩, no := (lookL d.items j.b).isNone }
def doE (d : Dv) (t : Int) : Int := if d.off = true then 6 else match fl d.jobs t with | some _ => 0 | none => 7
def doD (d : Dv) (t : Int) : Dv :=
  if d.off = true then d else match jobAt d.jobs t with
    | none => d
    | some j => if j.st = 0 then ⟨d.off, if j.wr = true then lay j.b j.s d.items else d.items, d.jobs.set (t - 1).toNat (doneJ d j)⟩ else d
/-- Take. -/
def takeE (d : Dv) (t : Int) : Int := if d.off = true then 6 else if (fl d.jobs t).isSome then 10 else if (an d.jobs t).isSome then 0 else 7
def takeS (d : Dv) (t : Int) : ByteArray := if takeE d t = 0 then (an d.jobs t).getD ⟨#[]⟩ else ⟨#[]⟩
def takeD (d : Dv) (t : Int) : Dv :=
  if d.off = true then d else match jobAt d.jobs t with
    | none => d
    | some j => if j.st = 1 then { d with jobs := d.jobs.set (t - 1).toNat { j with st := 2 } } else d
/-- Crash, Start. -/
def crashE (d : Dv) : Int := if d.off = true then 6 else 0
def crashD (d : Dv) (pk : Nat → Int) : Dv := if d.off = true then d else ⟨true, crK pk (wrs Job.wr d.jobs) d.items (wrs Job.wr d.jobs).length, d.jobs.map fun j => { j with st := 2 }⟩
def startE (d : Dv) : Int := if d.off = true then 0 else 10
def startD (d : Dv) : Dv := { d with off := false }
theorem tk_sub {p : Job → Bool} {l m : List Job} (h : ∀ n : Nat, (∃ j, jobAt l n = some j ∧ j.st = 0 ∧ p j = true) → ∃ j, jobAt m n = some j ∧ j.st = 0 ∧ p j = true) : (tk p l).length ≤ (tk p m).length :=
  nodup_len_le (tk_nodup p l) (fun n hn => tk_mem.2 (h n (tk_mem.1 hn)))
theorem set_mem {l : List Job} {i : Nat} {x j : Job} (h : j ∈ l.set i x) : j = x ∨ j ∈ l := by
  rcases List.mem_or_eq_of_mem_set h with h | h
  · exact .inr h
  · exact .inl h
theorem lay_good {b : Bk} {s : ByteArray} {l : List (Bk × ByteArray)} (hb : okB b = true) (hs : s.size ≤ 131072) (h : ∀ p ∈ l, okB p.1 = true ∧ p.2.size ≤ 131072) : ∀ p ∈ lay b s l, okB p.1 = true ∧ p.2.size ≤ 131072 := by
  intro p hp
  rcases lay_mem.1 hp with rfl | ⟨hp, _⟩
  · exact ⟨hb, hs⟩
  · exact h p hp
theorem look_small {l : List (Bk × ByteArray)} (h : ∀ p ∈ l, okB p.1 = true ∧ p.2.size ≤ 131072) (b : Bk) : ((lookL l b).getD ⟨#[]⟩).size ≤ 131072 := by
  cases e : lookL l b with
  | none => exact Nat.zero_le _
  | some s => exact (h _ (lookL_some e)).2
theorem Good.done {d : Dv} (h : Good d) (t : Int) : Good (doD d t) := by
  unfold doD
  split
  · exact h
  · split
    · exact h
    · rename_i j hj
      obtain ⟨h1, h2, h3⟩ := jobAt_lt hj
      obtain ⟨g1, g2⟩ := h.jb j (jobAt_mem hj)
      split
      · rename_i hst
        refine ⟨?_, ?_, ?_, ?_, by simpa using h.few, fun k hk hk0 => ?_⟩
        · simp only; split
          · exact lay_rising h.rise
          · exact h.rise
        · simp only; split
          · exact lay_good g1 g2 h.it
          · exact h.it
        · intro k hk
          rcases set_mem hk with rfl | hk
          · unfold doneJ
            split
            · exact ⟨g1, Nat.zero_le _⟩
            · exact ⟨g1, look_small h.it _⟩
          · exact h.jb k hk
        · refine Nat.le_trans (tk_sub (m := d.jobs) (fun n => ?_)) h.fly
          rintro ⟨k, hk, hk0, hp⟩
          simp only at hk
          rw [jobAt_set _ _ _ h1 h2] at hk
          split at hk
          · cases hk
            unfold doneJ at hk0
            split at hk0 <;> simp at hk0
          · exact ⟨k, hk, hk0, hp⟩
        · rcases set_mem hk with rfl | hk
          · unfold doneJ at hk0
            split at hk0 <;> simp at hk0
          · exact h.nn k hk hk0
      · exact h
theorem Good.take {d : Dv} (h : Good d) (t : Int) : Good (takeD d t) := by
  unfold takeD
  split
  · exact h
  · split
    · exact h
    · rename_i j hj
      obtain ⟨h1, h2, h3⟩ := jobAt_lt hj
      split
      · refine ⟨h.rise, h.it, ?_, ?_, by simpa using h.few, fun k hk hk0 => ?_⟩
        · intro k hk
          rcases set_mem hk with rfl | hk
          · exact h.jb j (jobAt_mem hj)
          · exact h.jb k hk
        · refine Nat.le_trans (tk_sub (m := d.jobs) (fun n => ?_)) h.fly
          rintro ⟨k, hk, hk0, hp⟩
          simp only at hk
          rw [jobAt_set _ _ _ h1 h2] at hk
          split at hk
          · cases hk; simp at hk0
          · exact ⟨k, hk, hk0, hp⟩
        · rcases set_mem hk with rfl | hk
          · simp at hk0
          · exact h.nn k hk hk0
      · exact h
theorem leave_good {p : Int} {j : Job} {l : List (Bk × ByteArray)} (hj : okB j.b = true ∧ j.s.size ≤ 131072) (h1 : l.Pairwise (fun p q => ltB p.1 q.1)) (h2 : ∀ p ∈ l, okB p.1 = true ∧ p.2.size ≤ 131072) :
    (leave p j l).Pairwise (fun p q => ltB p.1 q.1) ∧ ∀ x ∈ leave p j l, okB x.1 = true ∧ x.2.size ≤ 131072 := by
  unfold leave
  split
  · exact ⟨h1, h2⟩
  · split
    · exact ⟨lay_rising h1, lay_good hj.1 hj.2 h2⟩
    · exact ⟨lay_rising h1, lay_good hj.1 (tornS_size (look_small h2 _) hj.2) h2⟩
theorem crK_good {pk : Nat → Int} {ws : List Job} {l : List (Bk × ByteArray)} (hj : ∀ j ∈ ws, okB j.b = true ∧ j.s.size ≤ 131072) (h1 : l.Pairwise (fun p q => ltB p.1 q.1)) (h2 : ∀ p ∈ l, okB p.1 = true ∧ p.2.size ≤ 131072) (i : Nat) :
    (crK pk ws l i).Pairwise (fun p q => ltB p.1 q.1) ∧ ∀ p ∈ crK pk ws l i, okB p.1 = true ∧ p.2.size ≤ 131072 := by
  induction i with
  | zero => exact ⟨h1, h2⟩
  | succ i ih =>
    simp only [crK]
    split
    · rename_i j e
      exact leave_good (hj j (List.mem_of_getElem? e)) ih.1 ih.2
    · exact ih
theorem wrs_mem {p : Job → Bool} {l : List Job} {j : Job} (h : j ∈ wrs p l) : j ∈ l := (List.mem_filter.1 h).1
theorem Good.crash {d : Dv} (h : Good d) (pk : Nat → Int) : Good (crashD d pk) := by
  unfold crashD
  split
  · exact h
  · obtain ⟨g1, g2⟩ := crK_good (pk := pk) (ws := wrs Job.wr d.jobs) (fun j hj => h.jb j (wrs_mem hj)) h.rise h.it (wrs Job.wr d.jobs).length
    refine ⟨g1, g2, ?_, ?_, by simpa using h.few, fun k hk hk0 => ?_⟩
    · intro k hk
      obtain ⟨j, hj, rfl⟩ := List.mem_map.1 hk
      exact h.jb j hj
    · refine Nat.le_trans (tk_sub (m := d.jobs) (fun n => ?_)) h.fly
      rintro ⟨k, hk, hk0, hp⟩
      simp only at hk
      rw [jobAt_map] at hk
      obtain ⟨j, -, rfl⟩ := Option.map_eq_some_iff.1 hk
      simp at hk0
    · obtain ⟨j, hj, rfl⟩ := List.mem_map.1 hk
      simp at hk0
theorem Good.start {d : Dv} (h : Good d) : Good (startD d) := ⟨h.rise, h.it, h.jb, h.fly, h.few, h.nn⟩
theorem fl_set {l : List Job} {t : Int} {j : Job} (h1 : 1 ≤ t) (h2 : t ≤ l.length) (hj : j.st ≠ 0) (u : Int) : fl (l.set (t - 1).toNat j) u = if u = t then none else fl l u := by
  unfold fl
  rw [jobAt_set _ _ _ h1 h2]
  split
  · simp [hj]
  · rfl
theorem an_set {l : List Job} {t : Int} {j : Job} (h1 : 1 ≤ t) (h2 : t ≤ l.length) (u : Int) : an (l.set (t - 1).toNat j) u = if u = t then (if j.st = 1 ∧ j.no = false then some j.s else none) else an l u := by
  unfold an
  rw [jobAt_set _ _ _ h1 h2]
  split <;> rfl
theorem fl_gone (l : List Job) (u : Int) : fl (l.map fun j => { j with st := 2 }) u = none := by
  unfold fl
  rw [jobAt_map]
  cases jobAt l u <;> rfl
theorem an_gone (l : List Job) (u : Int) : an (l.map fun j => { j with st := 2 }) u = none := by
  unfold an
  rw [jobAt_map]
  cases jobAt l u <;> rfl
theorem fl_some {l : List Job} {x : Int} {r : Rq} (h : fl l x = some r) : ∃ j, jobAt l x = some j ∧ j.st = 0 ∧ r = j.rq := by
  unfold fl at h
  obtain ⟨j, hj, h⟩ := Option.bind_eq_some_iff.1 h
  split at h
  · cases h; exact ⟨j, hj, by assumption, rfl⟩
  · cases h
theorem fl_job {l : List Job} {x : Int} {j : Job} (h : jobAt l x = some j) (hs : j.st ≠ 0) : fl l x = none := by simp [fl, h, hs]
theorem takeD_on {d : Dv} (ho : d.off = false) (x : Int) : (takeD d x).off = d.off ∧ (takeD d x).items = d.items ∧ (takeD d x).jobs.length = d.jobs.length ∧ (∀ y, fl (takeD d x).jobs y = fl d.jobs y) ∧ (fl d.jobs x = none → ∀ y, an (takeD d x).jobs y = if y = x then none else an d.jobs y) := by
  unfold takeD
  rw [if_neg (by rw [ho]; simp)]
  cases hj : jobAt d.jobs x with
  | none => exact ⟨rfl, rfl, rfl, fun _ => rfl, fun _ y => by
      simp only
      split
      · rename_i e; subst e; simp [an, hj]
      · rfl⟩
  | some j =>
    obtain ⟨h1, h2, -⟩ := jobAt_lt hj
    simp only
    by_cases hs : j.st = 1
    · rw [if_pos hs]
      refine ⟨rfl, rfl, by simp, fun y => ?_, fun _ y => ?_⟩
      · rw [fl_set h1 h2 (by simp)]
        split
        · rename_i e; subst e; rw [fl_job hj (by omega)]
        · rfl
      · rw [an_set h1 h2]
        simp
    · rw [if_neg hs]
      refine ⟨rfl, rfl, rfl, fun _ => rfl, fun h0 y => ?_⟩
      split
      · rename_i e; subst e; simp [an, hj, hs]
      · rfl
theorem takeD_fly {d : Dv} {x : Int} {r : Rq} (h : fl d.jobs x = some r) : takeD d x = d := by
  obtain ⟨j, hj, hs, -⟩ := fl_some h
  unfold takeD
  split
  · rfl
  · simp [hj, hs]
theorem doD_none {d : Dv} {x : Int} (h : fl d.jobs x = none) : doD d x = d := by
  unfold doD
  split
  · rfl
  · cases hj : jobAt d.jobs x with
    | none => rfl
    | some j =>
      simp only
      rw [if_neg]
      intro hs
      simp [fl, hj, hs] at h
theorem doD_some {d : Dv} {x : Int} {r : Rq} (g : Good d) (ho : d.off = false) (h : fl d.jobs x = some r) :
    (doD d x).off = d.off ∧ (doD d x).items = (if r.wr = true then lay r.b r.s d.items else d.items) ∧ (doD d x).jobs.length = d.jobs.length ∧ (∀ y, fl (doD d x).jobs y = if y = x then none else fl d.jobs y) ∧
    (∀ y, an (doD d x).jobs y = if y = x then (if r.wr = true then some ⟨#[]⟩ else lookL d.items r.b) else an d.jobs y) := by
  obtain ⟨j, hj, hs, rfl⟩ := fl_some h
  obtain ⟨h1, h2, -⟩ := jobAt_lt hj
  have hn := g.nn j (jobAt_mem hj) hs
  unfold doD
  rw [if_neg (by rw [ho]; simp)]
  simp only [hj, hs, if_true, Job.rq]
  refine ⟨trivial, rfl, by simp, fun y => ?_, fun y => ?_⟩
  · rw [fl_set h1 h2]
    unfold doneJ
    split <;> simp
  · rw [an_set h1 h2]
    unfold doneJ
    by_cases hw : j.wr = true
    · simp [hw, hn]
    · simp [hw]
      split
      · cases lookL d.items j.b <;> simp
      · rfl
end Go.Proofs.Ytjhndhibojndfaa
