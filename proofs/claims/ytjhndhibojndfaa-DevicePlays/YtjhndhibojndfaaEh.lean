/- The reference: Crash, the plain part. -/
import Derived.Test.YtjhndhibojndfaaEg
namespace Go.Proofs.Ytjhndhibojndfaa
open Go.RowKit
def crJ (l : List Job) (k : Nat) : List Job := (l.take k).map (fun j => { j with st := 2 }) ++ l.drop k
def crD (d : Dv) (pk : Nat → Int) (k : Nat) : Dv := ⟨d.off, crK pk (wrs Job.wr (d.jobs.take k)) d.items (wrs Job.wr (d.jobs.take k)).length, crJ d.jobs k⟩
theorem crJ_len (l : List Job) (k : Nat) (hk : k ≤ l.length) : (crJ l k).length = l.length := by simp [crJ]; omega
theorem crJ_get (l : List Job) (k : Nat) (hk : k < l.length) : getJ (crJ l k) k = getJ l k := by
  unfold getJ crJ
  rw [List.getD_eq_getElem?_getD, List.getD_eq_getElem?_getD, List.getElem?_append_right (by simp; omega)]
  simp [Nat.min_eq_left (Nat.le_of_lt hk)]
theorem crJ_step (l : List Job) (k : Nat) (hk : k < l.length) : (crJ l k).set k { getJ l k with st := 2 } = crJ l (k + 1) := by
  unfold crJ
  rw [List.set_append_right _ _ (by simp; omega), getJ_take l k hk, List.map_append, List.append_assoc]
  congr 1
  have e : l.drop k = getJ l k :: l.drop (k + 1) := by
    rw [List.drop_eq_getElem_cons hk]
    simp [getJ, List.getD_eq_getElem?_getD, hk]
  rw [e]
  simp [Nat.min_eq_left (Nat.le_of_lt hk)]
theorem crD_zero (d : Dv) (pk : Nat → Int) : crD d pk 0 = d := by
  cases d
  simp [crD, crJ, wrs, crK]
theorem crD_end (d : Dv) (pk : Nat → Int) (ho : d.off = false) : { crD d pk d.jobs.length with off := true } = crashD d pk := by
  unfold crashD crD crJ
  rw [if_neg (by rw [ho]; simp)]
  simp [List.take_length]
theorem crD_good {d : Dv} (g : Good d) (pk : Nat → Int) (k : Nat) (hk : k ≤ d.jobs.length) : Good (crD d pk k) := by
  obtain ⟨g1, g2⟩ := crK_good (pk := pk) (ws := wrs Job.wr (d.jobs.take k)) (fun j hj => g.jb j (List.mem_of_mem_take (wrs_mem hj))) g.rise g.it (wrs Job.wr (d.jobs.take k)).length
  refine ⟨g1, g2, fun j hj => ?_, ?_, by simp only [crD]; rw [crJ_len _ _ hk]; exact g.few, fun j hj h0 => ?_⟩
  · rcases List.mem_append.1 hj with hj | hj
    · obtain ⟨i, hi, rfl⟩ := List.mem_map.1 hj
      exact g.jb i (List.mem_of_mem_take hi)
    · exact g.jb j (List.mem_of_mem_drop hj)
  · refine Nat.le_trans (tk_sub (m := d.jobs) (fun n => ?_)) g.fly
    rintro ⟨j, h1, h2, h3⟩
    simp only [crD] at h1
    have hl := jobAt_lt h1
    rw [crJ_len _ _ hk] at hl
    have hn := hl.2.2
    unfold crJ at hn
    by_cases hlt : ((n : Int) - 1).toNat < k
    · rw [List.getElem?_append_left (by simp; omega)] at hn
      rw [List.getElem?_map] at hn
      obtain ⟨i, -, rfl⟩ := Option.map_eq_some_iff.1 hn
      simp at h2
    · rw [List.getElem?_append_right (by simp; omega)] at hn
      simp only [List.length_map, List.length_take, Nat.min_eq_left hk, List.getElem?_drop] at hn
      refine ⟨j, ?_, h2, h3⟩
      unfold jobAt
      rw [if_pos hl.1, ← hn]
      congr 1
      omega
  · rcases List.mem_append.1 hj with hj | hj
    · obtain ⟨i, hi, rfl⟩ := List.mem_map.1 hj
      simp at h0
    · exact g.nn j (List.mem_of_mem_drop hj) h0
/-- A job that is no write under way: nothing of the blocks turns. -/
theorem crD_skip {d : Dv} {pk : Nat → Int} {k : Nat} (hk : k < d.jobs.length) (hn : ¬ ((getJ d.jobs k).st = 0 ∧ (getJ d.jobs k).wr = true)) :
    crD d pk (k + 1) = ⟨d.off, (crD d pk k).items, (crJ d.jobs k).set k { getJ d.jobs k with st := 2 }⟩ ∧ (wrs Job.wr (d.jobs.take (k + 1))).length = (wrs Job.wr (d.jobs.take k)).length := by
  have e : wrs Job.wr (d.jobs.take (k + 1)) = wrs Job.wr (d.jobs.take k) := by rw [getJ_take _ _ hk, wrs_snoc, if_neg hn, List.append_nil]
  exact ⟨by unfold crD; rw [e, crJ_step _ _ hk], by rw [e]⟩
/-- A write that is under way. -/
theorem crD_left {d : Dv} {pk : Nat → Int} {k : Nat} (hk : k < d.jobs.length) (hn : (getJ d.jobs k).st = 0 ∧ (getJ d.jobs k).wr = true) :
    crD d pk (k + 1) = ⟨d.off, leave (pk (wrs Job.wr (d.jobs.take k)).length) (getJ d.jobs k) (crD d pk k).items, (crJ d.jobs k).set k { getJ d.jobs k with st := 2 }⟩ ∧ (wrs Job.wr (d.jobs.take (k + 1))).length = (wrs Job.wr (d.jobs.take k)).length + 1 := by
  have e : wrs Job.wr (d.jobs.take (k + 1)) = wrs Job.wr (d.jobs.take k) ++ [getJ d.jobs k] := by rw [getJ_take _ _ hk, wrs_snoc, if_pos hn]
  refine ⟨?_, by rw [e]; simp⟩
  unfold crD
  rw [e, crJ_step _ _ hk, List.length_append, List.length_singleton, crK_snoc]
theorem wrs_few (d : Dv) (k : Nat) : (wrs Job.wr (d.jobs.take k)).length ≤ k := Nat.le_trans (List.length_filter_le _ _) (by rw [List.length_take]; omega)
end Go.Proofs.Ytjhndhibojndfaa
