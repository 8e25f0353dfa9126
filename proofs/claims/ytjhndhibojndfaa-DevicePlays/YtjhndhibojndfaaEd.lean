/- The reference: Flight, Take. -/
import Derived.Test.YtjhndhibojndfaaEc
namespace Go.Proofs.Ytjhndhibojndfaa
open Go.RowKit
theorem getJ_take (l : List Job) (k : Nat) (h : k < l.length) : l.take (k + 1) = l.take k ++ [getJ l k] := by
  rw [List.take_succ_eq_append_getElem h]; simp [getJ, List.getD_eq_getElem?_getD, h]
theorem own_sl {w : World} {base : Nat} {v : Value} {l : List Nat} (h : w.ownsRow base 3 1 v l.length (intsN l)) : ∃ ao cap, v = .slice ao l.length cap ∧ Sl .i64 w ao l.length (fun j => ((l.getD j 0 : Nat) : Int)) := by
  obtain ⟨ao, cap, hv, -, -, hc⟩ := own_slice h
  refine ⟨ao, cap, hv, fun j hj => ?_⟩
  obtain ⟨g, h1, -, h2, -⟩ := hc j _ (intsN_get l j hj)
  exact ⟨g, 0, h1, by rw [Nat.zero_add, h2]; simp [List.getD_eq_getElem?_getD]⟩
set_option maxHeartbeats 1000000 in
theorem ref_flight {w : World} {m : Nat} {d : Dv} {vi vj : Value} (h : RefD w m d vi vj) (L : List Nat) (hL : L = tk (fun _ => true) d.jobs) :
    Calls Try.prog 12 #[.pointer (some ⟨m, 0, none⟩)] w fun e w' => ∃ ao cap, e = .returned (.slice ao L.length cap) ∧ Sl .i64 w' ao L.length (fun j => ((L.getD j 0 : Nat) : Int)) ∧ Below w.heap.size w w' := by
  obtain ⟨i0, hi, hz0, hz1, hz2⟩ := info_parts Try.infoInt
  have hfew := h.good.few
  have hO0 := World.ownsRow_made (base := w.heap.size) (e := 3) (size := 1) w #[] 0 (Nat.le_refl _) (by decide) (by simp)
  have hb0 := (Below.refl w.heap.size w).alloc (Nat.le_refl _) (.cells #[] 3)
  have HALL : Hid (tk (fun _ => true) (d.jobs.take d.jobs.length) = L) := by rw [List.take_length, hL]; exact rfl
  have HT : Hid (∀ k, k < d.jobs.length → tk (fun _ => true) (d.jobs.take (k + 1)) = tk (fun _ => true) (d.jobs.take k) ++ (if (getJ d.jobs k).st = 0 then [k + 1] else [])) := fun k hk => by
    rw [getJ_take d.jobs k hk, tk_snoc, List.length_take, Nat.min_eq_left (by omega)]
    by_cases h0 : (getJ d.jobs k).st = 0 <;> simp [h0]
  have HLN : Hid (∀ k, (tk (fun _ => true) (d.jobs.take k)).length ≤ k) := fun k => Nat.le_trans (tk_len _ _) (by rw [List.length_take]; omega)
  have H := hide h
  clear hL h
  go_enter Try.func12, Try.ntmps12
  go_wp2
  generalize hLL : d.jobs.length = J at *
  go_loopw [3, 4] (fun vo vi' wr => ∃ k : Nat, k ≤ J ∧ vi' = .int .i64 k ∧ wr.ownsRow w.heap.size 3 1 vo (tk (fun _ => true) (d.jobs.take k)).length (intsN (tk (fun _ => true) (d.jobs.take k))) ∧ Below w.heap.size w wr) (fun _ vi' _ => J - (intOf vi').toNat)
  case atStart => exact ⟨0, Nat.zero_le _, rfl, hO0, hb0⟩
  case round =>
    clear hO0 hb0
    obtain ⟨k, hk, rfl, hown, hbel⟩ := hrel
    have hsz := hbel.size
    have hRw := H.out.below hbel
    obtain ⟨ao, cap, hv, hc1, hc2, hjb⟩ := hRw.job
    have c2 := hRw.c2
    rw [hv, hLL] at c2
    have hlk := HLN.out k
    by_cases hlt : k < J
    · obtain ⟨g, rfl, -, -, -, -, -, -, e5, -⟩ := hjb k (by omega)
      have HT2 := hide (HT.out k (by omega))
      generalize tk (fun _ => true) (d.jobs.take k) = lk at *
      generalize (getJ d.jobs k).st = st at *
      clear hRw hjb hv HT HALL HLN
      by_cases h0 : st = 0
      · have HT3 : Hid (tk (fun _ => true) (d.jobs.take (k + 1)) = lk ++ [k + 1]) := by rw [HT2.out, if_pos h0]; exact rfl
        subst h0
        clear HT2
        have hown2 := World.ownsRow.alloc hown (.cells #[.int .i64 ((k : Int) + 1)] 3)
        have hnews := cell_one wr (.int .i64 ((k : Int) + 1)) 3
        have e5' : wr.cell? ⟨g, k * 6 + 5, none⟩ = some (.int .i64 0) := e5
        clear e5
        go_wp2_with (at_builtin; refine wpList_append_lies _ rfl _ _ 33 rfl w.heap.size 3 i0 (.int .i64 0) 1 8 Try.underlying33 hi hz0 hz1 hz2 rfl (by decide) _ _ _ rfl hown2 ⟨wr.heap.size, 0, none⟩ 1 1 [.int .i64 ((k : Int) + 1)] rfl rfl hnews one_int (by decide) ?c3 ?c4 ?c5 (wr.heap.size + 1) (by simp) ?_)
        case c3 => unfold maxLen; omega
        case c4 => omega
        case c5 => first | omega | (simp; omega)
        intro g' cap' y hown' hgrow hat hlt'
        have hb2 := grow_step hown hsz hbel hgrow
        clear hown2 hnews hgrow hat hlt'
        go_wp2
        go_roundw
        case rel => exact ⟨k + 1, by omega, by go_num, by rw [HT3.out, intsN_snoc, List.length_append]; simpa using hown', hb2⟩
        case measure => simp [intOf]; omega
      · have HT3 : Hid (tk (fun _ => true) (d.jobs.take (k + 1)) = lk) := by rw [HT2.out, if_neg h0, List.append_nil]; exact rfl
        have h0' : ((st : Int) == 0) = false := by simp; omega
        clear HT2 h0
        go_wp2
        go_roundw
        case rel => exact ⟨k + 1, by omega, by go_num, by rw [HT3.out]; exact hown, hbel⟩
        case measure => simp [intOf]; omega
    · have ek : k = J := by omega
      subst ek
      rw [HALL.out] at hown
      obtain ⟨ao', cap', rfl, hsl⟩ := own_sl hown
      clear hown hRw hjb hv HT HALL HLN
      go_wp2
      go_ret
      exact ⟨ao', cap', rfl, hsl, hbel⟩
/-- A job's state is written. -/
theorem RefD.setSt {w : World} {m : Nat} {d : Dv} {vi vj : Value} (h : RefD w m d vi vj) {g : Nat} (hg : vj.ownBlock = some g) (k : Nat) (hk : k < d.jobs.length) (st : Nat) (gd : Good { d with jobs := d.jobs.set k { getJ d.jobs k with st := st } }) :
    RefD (w.setCell ⟨g, k * 6 + 5, none⟩ (.int .i64 (st : Int))) m { d with jobs := d.jobs.set k { getJ d.jobs k with st := st } } vi vj ∧ Keeps (fun k => k = g) w (w.setCell ⟨g, k * 6 + 5, none⟩ (.int .i64 (st : Int))) := by
  have K : Keeps (fun k => k = g) w (w.setCell ⟨g, k * 6 + 5, none⟩ (.int .i64 (st : Int))) := (Keeps.refl (fun k => k = g) w).setCell ⟨g, k * 6 + 5, none⟩ (fun _ => rfl) _
  have hgm := (h.gj hg).1
  have hl := h.lt
  have nm : ¬ m = g := by omega
  refine ⟨⟨?_, ?_, ?_, ?_, ?_, ?_, own_keep h.oi K (fun q e e' => by subst e'; exact h.ne q e hg), ?_, h.ne, gd⟩, K⟩
  · rw [K.cell hl nm]; exact h.c0
  · rw [K.cell hl nm]; exact h.c1
  · rw [K.cell hl nm]; exact h.c2
  · rw [K.frozen hl nm]; exact h.f0
  · rw [K.frozen hl nm]; exact h.f1
  · rw [K.frozen hl nm]; exact h.f2
  · have ho := own_set h.oj hg (k * 6 + 5) (.int .i64 (st : Int))
    simp only [List.length_set]
    rw [show jobsV (d.jobs.set k { getJ d.jobs k with st := st }) = (jobsV d.jobs).set (k * 6 + 5) (.int .i64 (st : Int)) from flat_set jbV 6 jbV_len d.jobs k (getJ d.jobs k) _ (getJ_some hk) 5 (by omega) _ rfl]
    exact ho
end Go.Proofs.Ytjhndhibojndfaa
