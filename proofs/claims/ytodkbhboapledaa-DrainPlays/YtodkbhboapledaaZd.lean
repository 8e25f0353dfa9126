/- Package drain: Waiting, Least; what copy does to a row of structs. -/
import Derived.Test.YtodkbhboapledaaZc
import Derived.Laws.CopyOwn
namespace Go.Proofs.Ytodkbhboapledaa
open Go.RowKit
theorem run_copy_whole {P : Program} (w : World) (dT sT ty elem : TypeId) (g n cap : Nat) (ad : Addr) (sCap size : Nat) (cur : Array Value) (t : TypeId) (cs : List Value)
    (hu : P.underlying dT = some (.slice elem)) (hs : (P.info? elem).map (·.size) = some size)
    (hg : w.heap[g]? = some (.cells cur t (0, 0))) (hn : cs.length = n * size)
    (hsrc : ∀ j v, cs[j]? = some v → w.cell? (ad.add j) = some v) (hfit : cs.length ≤ cur.size) (h1 : ∀ v ∈ cs, v.oneCell' = true) :
    (Builtin.copy_ #[dT, sT] ty #[.slice (some ⟨g, 0, none⟩) n cap, .slice (some ad) n sCap]).run P w =
      .ok (goInt n) (w.setRow g (cs ++ cur.toList.drop cs.length).toArray) := by
  have hl := run_firstCells_some (P := P) w size n ad n sCap cs hn hsrc
  have hst := run_storeCells_at P g 0 t cs 0 cur w hg (by simpa using hfit) h1
  simp only [Nat.add_zero, List.take_zero, List.nil_append, Nat.zero_add] at hst
  have hmin : Nat.min n n = n := Nat.min_self n
  cases hq : P.info? elem with
  | none => simp [hq] at hs
  | some i =>
    have hi : i.size = size := by simpa [hq] using hs
    simp [Builtin.copy_, run_underlying hu, Builtin.lenOf, sizeOf, typeInfo, hq, hi, hmin, hl, hst]
theorem run_copy_zero {P : Program} (w : World) (dT sT ty elem : TypeId) (d a : Option Addr) (dCap sCap size : Nat) (hu : P.underlying dT = some (.slice elem)) (hs : (P.info? elem).map (·.size) = some size) :
    (Builtin.copy_ #[dT, sT] ty #[.slice d 0 dCap, .slice a 0 sCap]).run P w = .ok (goInt 0) w := by
  cases hq : P.info? elem with
  | none => simp [hq] at hs
  | some i =>
    have hl : ∀ (x : Addr), (loadCells x 0).run P w = .ok #[] w := fun x => by simpa using run_loadCells_list (P := P) w x [] (by simp)
    cases d <;> cases a <;> simp [Builtin.copy_, run_underlying hu, Builtin.lenOf, Builtin.firstCells, sizeOf, typeInfo, hq, storeCells, hl]
/-- copy of a whole row of structs into one that is as long and owned. -/
theorem run_copy_own {P : Program} {w : World} (dT sT ty : TypeId) (elem : TypeId) (hu : P.underlying dT = some (.slice elem)) (size : Nat) (hsz : (P.info? elem).map (·.size) = some size)
    (g n cap sCap : Nat) (sp : Option Addr) (base : Nat) (xs : List Value) (hown : w.ownsRow base elem size (.slice (some ⟨g, 0, none⟩) n cap) n xs) (cs : List Value) (hn : cs.length = n * size)
    (hsrc : 0 < n → ∃ ad, sp = some ad ∧ ∀ j v, cs[j]? = some v → w.cell? (ad.add j) = some v) (h1 : ∀ v ∈ cs, v.oneCell' = true) :
    ∃ w', (Builtin.copy_ #[dT, sT] ty #[.slice (some ⟨g, 0, none⟩) n cap, .slice sp n sCap]).run P w = .ok (goInt n) w' ∧ w'.ownsRow base elem size (.slice (some ⟨g, 0, none⟩) n cap) n cs ∧ w.grownBy w' (some g) := by
  by_cases h0 : n = 0
  · subst h0
    obtain rfl : cs = [] := List.eq_nil_of_length_eq_zero (by omega)
    have hx : xs = [] := List.eq_nil_of_length_eq_zero (by rw [hown.1]; omega)
    subst hx
    exact ⟨w, run_copy_zero (P := P) w dT sT ty elem (some ⟨g, 0, none⟩) sp cap sCap size hu hsz, hown, ⟨rfl, rfl, rfl, Nat.le_refl _, fun _ _ _ => rfl⟩⟩
  · obtain ⟨ad, rfl, hc⟩ := hsrc (by omega)
    rcases hown.2 with ⟨h', _⟩ | ⟨g', cap', cur, h', hb, hg, hnc, hm, hcs, _⟩
    · simp at h'
    · simp only [Value.slice.injEq, Option.some.injEq, Addr.mk.injEq, and_true, true_and] at h'
      obtain ⟨rfl, rfl⟩ := h'
      have hle : cs.length ≤ cur.size := by rw [hn, hcs]; exact Nat.mul_le_mul_right _ hnc
      refine ⟨_, run_copy_whole (P := P) w dT sT ty elem g n cap ad sCap size cur elem cs hu hsz hg hn hc hle h1, ⟨hn, .inr ⟨g, cap, _, rfl, hb, by simpa using setRow_heap w g cur _ elem _ hg, hnc, hm, ?_, ?_⟩⟩, ⟨rfl, rfl, rfl, by simp [World.setRow], fun k _ hk => setRow_other w g k _ (fun e => hk (by rw [e]))⟩⟩
      · simp only [List.size_toArray, List.length_append, List.length_drop, Array.length_toList]; omega
      · rw [← hn]; exact List.take_left
theorem actsV_one (l : List A3) : ∀ u ∈ actsV l, u.oneCell' = true := by
  intro u hu
  simp only [actsV, List.mem_flatMap, A3.cells] at hu
  obtain ⟨a, _, h⟩ := hu
  exact three_ints u h
theorem Try.sizeAct : (Try.prog.info? 33).map (·.size) = some 3 := by kernel_rfl
set_option maxHeartbeats 400000 in
theorem drain_waiting {w : World} {S : Nat → Prop} {t : Nat} {l : List A3} (h : DrIs w S t l) (hl : l.length ≤ 16) :
    Calls Try.prog 14 #[.pointer (some ⟨t, 0, none⟩)] w fun e w' => ∃ ao cap, e = .returned (.slice ao l.length cap) ∧ As w' ao l.length (getL l) ∧ (∀ g off, ao = some ⟨g, off, none⟩ → w.heap.size ≤ g) ∧ Below w.heap.size w w' := by
  obtain ⟨i0, hi, hz0, hz1, hz2⟩ := info_parts Try.infoAct
  obtain ⟨v, h1, h2, h3, h4, h5⟩ := h
  have ht : t < w.heap.size := World.block_lt_of_cell? w _ h1
  obtain ⟨ao, cap, rfl, hs, hao, hc⟩ := h4.form
  generalize hn : l.length = n at *
  go_enter Try.func14, Try.ntmps14
  go_wp2_with (at_make; refine wpList_make_full _ rfl _ _ 27 rfl 0 33 i0 (.agg #[.int .u64 0, .int .i64 0, .int .i64 0]) 3 Try.underlying27 hi hz0 hz1 _ _ _ _ n rfl rfl rfl rfl ?b1 ?b2 (Nat.zero_le _) ?_)
  case b1 => rw [hz2]; omega
  case b2 => unfold maxLen; omega
  intro w1 hown hgrow
  have hb1 : Below w.heap.size w w1 := (Below.refl _ _).grown hgrow (Nat.le_refl _) (by simp)
  have h1' : w1.cell? ⟨t, 0, none⟩ = some (.slice ao n cap) := by rw [hb1.cell ht]; exact h1
  have hsrc : 0 < n → ∃ ad, ao = some ad ∧ ∀ j v, (actsV l)[j]? = some v → w1.cell? (ad.add j) = some v := by
    intro h0
    obtain ⟨b, off, e, -⟩ := hs 0 h0
    have ho : (Value.slice ao n cap).ownBlock = some b := hao b off e
    have h4' := h4.below hb1
    rcases h4'.2 with ⟨_, hz⟩ | ⟨g', cap', cur, hv, _⟩
    · omega
    · simp only [Value.slice.injEq] at hv
      obtain ⟨rfl, -, -⟩ := hv
      exact ⟨_, rfl, h4'.cells (g := g') rfl⟩
  obtain ⟨w2, hrun, hown2, hgrow2⟩ := run_copy_own (P := Try.prog) 27 27 3 33 Try.underlying27 3 Try.sizeAct w.heap.size n n cap ao 0 _ hown (actsV l) (by rw [actsV_length, hn]) hsrc (actsV_one l)
  clear hgrow hsrc hi
  go_wp2
  go_ret
  obtain ⟨ao', cap', e, q1, q2, -⟩ := Own3.form (w := w2) (v := .slice (some ⟨w.heap.size, 0, none⟩) n n) (l := l) (by unfold Own3; rw [hn]; exact hown2)
  simp only [Value.slice.injEq] at e
  obtain ⟨rfl, -, rfl⟩ := e
  rw [hn] at q1
  exact ⟨_, _, rfl, q1, fun g off hg => by simp at hg; omega, hb1.grown hgrow2 hb1.size (fun k hk => by simp at hk; omega)⟩
/-- The least epoch of the first k, and the first one's. -/
def leastK (l : List A3) : Nat → Int
  | 0 => (getL l 0).e
  | k + 1 => min (leastK l k) (getL l k).e
def leastL (l : List A3) : Int := if l.length = 0 then 0 else leastK l l.length
set_option maxHeartbeats 400000 in
theorem drain_least {w : World} {S : Nat → Prop} {t : Nat} {l : List A3} (h : DrIs w S t l) :
    Calls Try.prog 16 #[.pointer (some ⟨t, 0, none⟩)] w fun e w' => e = .returned (.int .u64 (leastL l)) ∧ Below w.heap.size w w' := by
  have hlen := drain_len h
  obtain ⟨v, h1, h2, h3, h4, h5⟩ := h
  have ht : t < w.heap.size := World.block_lt_of_cell? w _ h1
  obtain ⟨ao, cap, rfl, hs, hao, hc⟩ := h4.form
  by_cases h0 : l.length = 0
  · rw [leastL, if_pos h0]
    go_enter Try.func16, Try.ntmps16
    go_wp2_with fail
    refine hlen.mono ?_
    rintro e x ⟨rfl, rfl⟩
    rw [h0]
    go_wp2
    go_ret
    exact ⟨rfl, Below.refl _ _⟩
  · rw [leastL, if_neg h0]
    have HK : Hid (∀ k, leastK l (k + 1) = min (leastK l k) (getL l k).e) := fun k => rfl
    have hk0 : leastK l 0 = (getL l 0).e := rfl
    generalize hn : l.length = n at *
    obtain ⟨b, off, rfl, c0, -, -⟩ := hs 0 (by omega)
    rw [← hk0, Nat.zero_mul, Nat.add_zero] at c0
    have hpos : ((n : Int) == 0) = false := by simp; omega
    clear hk0
    generalize leastK l = z at *
    go_enter Try.func16, Try.ntmps16
    go_wp2_with fail
    refine hlen.mono ?_
    rintro e x ⟨rfl, rfl⟩
    go_wp2
    go_loopw [3, 21] (fun a i wr => ∃ k : Nat, k ≤ n ∧ i = .int .i64 k ∧ a = .int .u64 (z k) ∧ Below x.heap.size x wr)
      (fun _ i _ => n - (intOf i).toNat)
    case atStart => exact ⟨0, Nat.zero_le _, rfl, rfl, Below.refl _ _⟩
    case round =>
      obtain ⟨k, hk, rfl, rfl, hbel⟩ := hrel
      have hB := hbel.size
      have hs' := hs.below hbel
      by_cases hlt : k < n
      · obtain ⟨b', off', e, c1, c2, c3⟩ := hs' k hlt
        simp only [Option.some.injEq, Addr.mk.injEq, and_true] at e
        obtain ⟨rfl, rfl⟩ := e
        have HK1 := hide (HK.out k)
        generalize getL l k = a at *
        obtain ⟨ae, ak, ap⟩ := a
        simp only at c1 c2 c3
        clear c0
        go_wp2
        go_roundw
        case rel => exact ⟨k + 1, by omega, by go_num, by rw [HK1.out]; congr 1; simp only; split <;> omega, hbel.alloc hB _⟩
        case measure => simp [intOf]; omega
      · have e : k = n := by omega
        subst e
        go_wp2
        go_ret
        exact ⟨rfl, hbel⟩
end Go.Proofs.Ytodkbhboapledaa
