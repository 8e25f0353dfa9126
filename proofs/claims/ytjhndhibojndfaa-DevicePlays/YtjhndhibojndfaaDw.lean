/- What was done lasts: what is known of one block, call by call. -/
import Derived.Test.YtjhndhibojndfaaDn
namespace Go.Proofs.Ytjhndhibojndfaa
/-- One block's text, its write that is under way, and what it is to be. -/
structure Lst (d : Dv) (b : Bk) (was : ByteArray) (tick : Int) (next : ByteArray) : Prop where
  look : (lookL d.items b).getD ⟨#[]⟩ = was
  only : ∀ t j, jobAt d.jobs t = some j → j.st = 0 → j.wr = true → j.b = b → t = tick ∧ j.s = next
  has : tick ≠ 0 → ∃ j, jobAt d.jobs tick = some j ∧ j.st = 0 ∧ j.wr = true ∧ j.b = b ∧ j.s = next
  pos : 0 ≤ tick
theorem lst0 (b : Bk) : Lst ⟨false, [], []⟩ b ⟨#[]⟩ 0 ⟨#[]⟩ := ⟨rfl, fun t j h => by simp [jobAt] at h, fun h => absurd rfl h, by decide⟩
theorem jobAt_new {l : List Job} {j : Job} {t : Int} {k : Job} (h : jobAt (l ++ [j]) t = some k) : (t = (l.length : Int) + 1 ∧ k = j) ∨ jobAt l t = some k := by
  rw [jobAt_snoc] at h
  split at h
  · cases h; exact .inl ⟨by assumption, rfl⟩
  · exact .inr h
theorem askD_items (d : Dv) (b : Bk) (wr : Bool) (s : ByteArray) : (askD d b wr s).items = d.items := by unfold askD; split <;> rfl
theorem askD_len (d : Dv) (b : Bk) (wr : Bool) (s : ByteArray) : (askD d b wr s).jobs.length ≤ d.jobs.length + 1 := by
  unfold askD; split
  · simp
  · omega
/-- A write of the block, taken. -/
theorem Lst.wrote {d : Dv} {b : Bk} {was next : ByteArray} {tick : Int} (h : Lst d b was tick next) (s : ByteArray) (he : askE d b true s = 0) : Lst (askD d b true s) b was (askT d b true s) s := by
  have hD : askD d b true s = { d with jobs := d.jobs ++ [⟨b, true, s, false, 0⟩] } := by unfold askD; rw [if_pos he]
  have hT : askT d b true s = (d.jobs.length : Int) + 1 := by unfold askT; rw [if_pos he]
  have hno : ∀ t j, jobAt d.jobs t = some j → j.st = 0 → j.wr = true → j.b = b → False := by
    intro t j h1 h2 h3 h4
    have hl := jobAt_lt h1
    have hm : t.toNat ∈ tk (fun j => j.wr && decide (j.b = b)) d.jobs := tk_mem.2 ⟨j, by rw [show ((t.toNat : Nat) : Int) = t by omega]; exact h1, h2, by simp [h3, h4]⟩
    have hp := List.length_pos_of_mem hm
    unfold askE at he
    split at he; · omega
    split at he; · omega
    split at he; · omega
    split at he
    · omega
    · rename_i hq
      exact hq ⟨rfl, by omega⟩
  rw [hD, hT]
  refine ⟨h.look, fun t j h1 h2 h3 h4 => ?_, fun _ => ⟨⟨b, true, s, false, 0⟩, ?_, rfl, rfl, rfl, rfl⟩, by omega⟩
  · rcases jobAt_new h1 with ⟨e, rfl⟩ | h1
    · exact ⟨e, rfl⟩
    · exact (hno t j h1 h2 h3 h4).elim
  · simp only; rw [jobAt_snoc, if_pos rfl]
/-- A write of another block, or a read, or one that was not taken. -/
theorem Lst.other {d : Dv} {b : Bk} {was next : ByteArray} {tick : Int} (h : Lst d b was tick next) (b' : Bk) (wr : Bool) (s : ByteArray) (ho : askE d b' wr s ≠ 0 ∨ b' ≠ b ∨ wr = false) : Lst (askD d b' wr s) b was tick next := by
  by_cases he : askE d b' wr s = 0
  · have hD : askD d b' wr s = { d with jobs := d.jobs ++ [⟨b', wr, s, false, 0⟩] } := by unfold askD; rw [if_pos he]
    rw [hD]
    refine ⟨h.look, fun t j h1 h2 h3 h4 => ?_, fun hn => ?_, h.pos⟩
    · rcases jobAt_new h1 with ⟨e, rfl⟩ | h1
      · rcases ho with ho | ho | ho
        · exact absurd he ho
        · exact absurd h4 ho
        · simp only at h3; rw [ho] at h3; cases h3
      · exact h.only t j h1 h2 h3 h4
    · obtain ⟨j, h1, h2⟩ := h.has hn
      refine ⟨j, ?_, h2⟩
      have := jobAt_lt h1
      simp only; rw [jobAt_snoc, if_neg (by omega)]; exact h1
  · have hD : askD d b' wr s = d := by unfold askD; rw [if_neg he]
    rw [hD]; exact h
theorem jobAt_doD {d : Dv} {x : Int} {j : Job} (ho : d.off = false) (hj : jobAt d.jobs x = some j) (hs : j.st = 0) (t : Int) : jobAt (doD d x).jobs t = if t = x then some (doneJ d j) else jobAt d.jobs t := by
  have := jobAt_lt hj
  unfold doD
  rw [if_neg (by rw [ho]; simp), hj]
  simp only [hs, if_true]
  exact jobAt_set _ _ _ this.1 this.2.1 t
theorem doneJ_st (d : Dv) (j : Job) : (doneJ d j).st = 1 := by unfold doneJ; split <;> rfl
theorem doE_zero {d : Dv} {x : Int} (h : doE d x = 0) : d.off = false ∧ ∃ j, jobAt d.jobs x = some j ∧ j.st = 0 := by
  unfold doE at h
  split at h
  · omega
  · rename_i ho
    refine ⟨by simpa using ho, ?_⟩
    cases hf : fl d.jobs x with
    | none => rw [hf] at h; simp at h
    | some r => obtain ⟨j, h1, h2, -⟩ := fl_some hf; exact ⟨j, h1, h2⟩
theorem doD_fail {d : Dv} {x : Int} (h : doE d x ≠ 0) : doD d x = d := by
  unfold doE at h
  split at h
  · rename_i ho; simp [doD, ho]
  · cases hf : fl d.jobs x with
    | none => exact doD_none hf
    | some r => rw [hf] at h; simp at h
/-- The write of the block is done. -/
theorem Lst.done {d : Dv} {b : Bk} {was next : ByteArray} {tick : Int} (h : Lst d b was tick next) (he : doE d tick = 0) (hp : 0 < tick) : Lst (doD d tick) b next 0 next := by
  obtain ⟨ho, -⟩ := doE_zero he
  obtain ⟨j, h1, h2, h3, h4, h5⟩ := h.has (by omega)
  have hl := jobAt_lt h1
  have hi : (doD d tick).items = lay b next d.items := by
    unfold doD
    rw [if_neg (by rw [ho]; simp), h1]
    simp [h2, h3, h4, h5]
  refine ⟨by rw [hi, lookL_lay, if_pos rfl]; rfl, fun t k k1 k2 k3 k4 => ?_, fun hn => absurd rfl hn, by decide⟩
  rw [jobAt_doD ho h1 h2] at k1
  split at k1
  · cases k1; rw [doneJ_st] at k2; omega
  · exact absurd (h.only t k k1 k2 k3 k4).1 (by assumption)
/-- Something else is done, or nothing. -/
theorem Lst.done_other {d : Dv} {b : Bk} {was next : ByteArray} {tick : Int} (h : Lst d b was tick next) (x : Int) (hq : doE d x ≠ 0 ∨ ¬ 0 < tick ∨ x ≠ tick) : Lst (doD d x) b was tick next := by
  by_cases he : doE d x = 0
  · obtain ⟨ho, j, h1, h2⟩ := doE_zero he
    have hl := jobAt_lt h1
    have hne : x ≠ tick := by
      rcases hq with hq | hq | hq
      · exact absurd he hq
      · have := h.pos; omega
      · exact hq
    have hi : (lookL (doD d x).items b) = lookL d.items b := by
      unfold doD
      rw [if_neg (by rw [ho]; simp), h1]
      simp only [h2, if_true]
      split
      · rename_i hw
        rw [lookL_lay, if_neg]
        intro e
        exact hne (h.only x j h1 h2 hw e.symm).1
      · rfl
    refine ⟨by rw [hi]; exact h.look, fun t k k1 k2 k3 k4 => ?_, fun hn => ?_, h.pos⟩
    · rw [jobAt_doD ho h1 h2] at k1
      split at k1
      · cases k1; rw [doneJ_st] at k2; omega
      · exact h.only t k k1 k2 k3 k4
    · obtain ⟨k, k1, k2⟩ := h.has hn
      exact ⟨k, by rw [jobAt_doD ho h1 h2, if_neg (fun e => hne e.symm)]; exact k1, k2⟩
  · rw [doD_fail he]; exact h
theorem Lst.took {d : Dv} {b : Bk} {was next : ByteArray} {tick : Int} (h : Lst d b was tick next) (x : Int) : Lst (takeD d x) b was tick next := by
  unfold takeD
  split
  · exact h
  · split
    · exact h
    · rename_i j hj
      have hl := jobAt_lt hj
      split
      · rename_i hs
        refine ⟨h.look, fun t k k1 k2 k3 k4 => ?_, fun hn => ?_, h.pos⟩
        · simp only at k1
          rw [jobAt_set _ _ _ hl.1 hl.2.1] at k1
          split at k1
          · cases k1; simp at k2
          · exact h.only t k k1 k2 k3 k4
        · obtain ⟨k, k1, k2, k3⟩ := h.has hn
          refine ⟨k, ?_, k2, k3⟩
          simp only; rw [jobAt_set _ _ _ hl.1 hl.2.1, if_neg]
          · exact k1
          · intro e; rw [e, hj] at k1; cases k1; omega
      · exact h
theorem Lst.started {d : Dv} {b : Bk} {was next : ByteArray} {tick : Int} (h : Lst d b was tick next) : Lst (startD d) b was tick next := ⟨h.look, h.only, h.has, h.pos⟩
/-- Between what it was and what it was to be. -/
def Btw (s was next : ByteArray) : Prop := s = next ∨ ∃ n, n ≤ next.size ∧ s = next.extract 0 n ++ was.extract (min n was.size) was.size
theorem crash_look {d : Dv} {b : Bk} {was next : ByteArray} {tick : Int} (h : Lst d b was tick next) (pk : Nat → Int) (i : Nat) :
    (lookL (crK pk (wrs Job.wr d.jobs) d.items i) b).getD ⟨#[]⟩ = was ∨ ((∃ (k : Nat) (j : Job), k < i ∧ (wrs Job.wr d.jobs)[k]? = some j ∧ j.b = b) ∧ Btw ((lookL (crK pk (wrs Job.wr d.jobs) d.items i) b).getD ⟨#[]⟩) was next) := by
  obtain ⟨hlen, hjob⟩ := tk_wrs Job.wr d.jobs
  have hone : ∀ (k : Nat) (j : Job), (wrs Job.wr d.jobs)[k]? = some j → ∃ n : Nat, (tk Job.wr d.jobs)[k]? = some n ∧ jobAt d.jobs n = some j ∧ j.st = 0 ∧ j.wr = true := by
    intro k j hk
    have hk' := (List.getElem?_eq_some_iff.1 hk).1
    obtain ⟨n, hn⟩ : ∃ n, (tk Job.wr d.jobs)[k]? = some n := ⟨_, List.getElem?_eq_getElem (by omega)⟩
    obtain ⟨j', h1, h2⟩ := hjob k n hn
    rw [hk] at h1; cases h1
    obtain ⟨j2, h3, h4, h5⟩ := tk_mem.1 (List.mem_of_getElem? hn)
    rw [h2] at h3; cases h3
    exact ⟨n, hn, h2, h4, h5⟩
  induction i with
  | zero => exact .inl h.look
  | succ i ih =>
    cases hw : (wrs Job.wr d.jobs)[i]? with
    | none =>
      simp only [crK, hw]
      rcases ih with ih | ⟨⟨k, j, h1, h2⟩, h3⟩
      · exact .inl ih
      · exact .inr ⟨⟨k, j, by omega, h2⟩, h3⟩
    | some j =>
      obtain ⟨n, hn, hj1, hj2, hj3⟩ := hone i j hw
      simp only [crK, hw]
      by_cases hb : j.b = b
      · obtain ⟨e1, e2⟩ := h.only n j hj1 hj2 hj3 hb
        have ih' : (lookL (crK pk (wrs Job.wr d.jobs) d.items i) b).getD ⟨#[]⟩ = was := by
          rcases ih with ih | ⟨⟨k, j', h1, h2, h3⟩, -⟩
          · exact ih
          · exfalso
            obtain ⟨n', hn', hj1', hj2', hj3'⟩ := hone k j' h2
            have e3 := (h.only n' j' hj1' hj2' hj3' h3).1
            have hlt := (List.pairwise_iff_getElem.1 (tk_rising Job.wr d.jobs)) k i (List.getElem?_eq_some_iff.1 hn').1 (List.getElem?_eq_some_iff.1 hn).1 h1
            rw [(List.getElem?_eq_some_iff.1 hn').2, (List.getElem?_eq_some_iff.1 hn).2] at hlt
            omega
        unfold leave
        split
        · exact .inl ih'
        · right
          refine ⟨⟨i, j, by omega, hw, hb⟩, ?_⟩
          split
          · rw [lookL_lay, if_pos hb.symm]; exact .inl e2
          · rw [lookL_lay, if_pos hb.symm, hb, ih']
            exact .inr ⟨tornN j.s.size (pk i), by rw [← e2]; exact tornN_le _ _, by rw [← e2]; rfl⟩
      · have e : lookL (leave (pk i) j (crK pk (wrs Job.wr d.jobs) d.items i)) b = lookL (crK pk (wrs Job.wr d.jobs) d.items i) b := by
          unfold leave
          split
          · rfl
          · split
            · rw [lookL_lay, if_neg (fun e => hb e.symm)]
            · rw [lookL_lay, if_neg (fun e => hb e.symm)]
        rw [e]
        rcases ih with ih | ⟨⟨k, j', h1, h2⟩, h3⟩
        · exact .inl ih
        · exact .inr ⟨⟨k, j', by omega, h2⟩, h3⟩
/-- A crash: as it was, or between. -/
theorem Lst.crashed {d : Dv} {b : Bk} {was next : ByteArray} {tick : Int} (h : Lst d b was tick next) (pk : Nat → Int) (he : crashE d = 0) :
    ∃ s, Lst (crashD d pk) b s 0 next ∧ (s = was ∨ (tick ≠ 0 ∧ Btw s was next)) := by
  have ho : d.off = false := by
    cases e : d.off with
    | false => rfl
    | true => simp [crashE, e] at he
  have hD : crashD d pk = ⟨true, crK pk (wrs Job.wr d.jobs) d.items (wrs Job.wr d.jobs).length, d.jobs.map fun j => { j with st := 2 }⟩ := by simp [crashD, ho]
  refine ⟨(lookL (crK pk (wrs Job.wr d.jobs) d.items (wrs Job.wr d.jobs).length) b).getD ⟨#[]⟩, ?_, ?_⟩
  · rw [hD]
    refine ⟨rfl, fun t j h1 h2 => ?_, fun hn => absurd rfl hn, by decide⟩
    simp only at h1
    rw [jobAt_map] at h1
    obtain ⟨k, -, rfl⟩ := Option.map_eq_some_iff.1 h1
    simp at h2
  · rcases crash_look h pk (wrs Job.wr d.jobs).length with h1 | ⟨⟨k, j, -, h2, h3⟩, h4⟩
    · exact .inl h1
    · refine .inr ⟨?_, h4⟩
      have hm := List.mem_of_getElem? h2
      have hf := (List.mem_filter.1 hm).2
      simp at hf
      obtain ⟨i, hi⟩ := List.getElem?_of_mem (wrs_mem hm)
      have hja : jobAt d.jobs ((i : Int) + 1) = some j := by
        unfold jobAt
        rw [if_pos (by omega), show ((i : Int) + 1 - 1).toNat = i by omega]
        exact hi
      have := (h.only _ j hja hf.1 hf.2 h3).1
      omega
theorem crashD_fail {d : Dv} {pk : Nat → Int} (h : crashE d ≠ 0) : crashD d pk = d := by
  unfold crashE at h
  split at h
  · rename_i ho; simp [crashD, ho]
  · exact absurd rfl h
theorem doD_len (d : Dv) (x : Int) : (doD d x).jobs.length = d.jobs.length := by
  unfold doD; split
  · rfl
  · split
    · rfl
    · split
      · simp
      · rfl
theorem takeD_len (d : Dv) (x : Int) : (takeD d x).jobs.length = d.jobs.length := by
  unfold takeD; split
  · rfl
  · split
    · rfl
    · split
      · simp
      · rfl
theorem crashD_len (d : Dv) (pk : Nat → Int) : (crashD d pk).jobs.length = d.jobs.length := by
  unfold crashD; split
  · rfl
  · simp
end Go.Proofs.Ytjhndhibojndfaa
