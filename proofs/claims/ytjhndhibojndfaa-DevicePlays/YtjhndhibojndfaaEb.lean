/- The reference: May, Start, At, Peek. -/
import Derived.Test.YtjhndhibojndfaaEa
namespace Go.Proofs.Ytjhndhibojndfaa
open Go.RowKit
theorem ref_may (w : World) (b : Bk) : Calls Try.prog 38 #[bkV b] w fun e w' => e = .returned (.bool (okB b)) ∧ Below w.heap.size w w' := by
  obtain ⟨a, n⟩ := b
  simp only [bkV]
  have hk : okB (a, n) = true ↔ 0 ≤ a ∧ a ≤ 2 ∧ 0 ≤ n ∧ n ≤ 63 := okB_iff
  have HK := hide hk
  have HB := hide ((Below.refl w.heap.size w).alloc (Nat.le_refl _) (.cells #[.int .i64 a, .int .i64 n] 32))
  generalize okB (a, n) = r at *
  clear hk
  have hf : ¬ (0 ≤ a ∧ a ≤ 2 ∧ 0 ≤ n ∧ n ≤ 63) → r = false := fun h => by rw [Bool.eq_false_iff]; exact fun e => h (HK.out.1 e)
  by_cases h1 : 0 ≤ a
  · by_cases h2 : a ≤ 2
    · by_cases h3 : 0 ≤ n
      · by_cases h4 : n ≤ 63
        · have hr : r = true := HK.out.2 ⟨h1, h2, h3, h4⟩
          rw [hr]
          clear hf
          go_enter Try.func38, Try.ntmps38
          go_wp2
          go_ret
          exact ⟨rfl, HB.out⟩
        · rw [hf (by omega)]
          clear hf
          go_enter Try.func38, Try.ntmps38
          go_wp2
          go_ret
          exact ⟨rfl, HB.out⟩
      · rw [hf (by omega)]
        clear hf
        go_enter Try.func38, Try.ntmps38
        go_wp2
        go_ret
        exact ⟨rfl, HB.out⟩
    · rw [hf (by omega)]
      clear hf
      go_enter Try.func38, Try.ntmps38
      go_wp2
      go_ret
      exact ⟨rfl, HB.out⟩
  · rw [hf (by omega)]
    clear hf
    go_enter Try.func38, Try.ntmps38
    go_wp2
    go_ret
    exact ⟨rfl, HB.out⟩
/-- A cell of the struct itself is written. -/
theorem RefD.off {w : World} {m : Nat} {d : Dv} {vi vj : Value} (h : RefD w m d vi vj) (o : Bool) (g : Good { d with off := o }) : RefD (w.setCell ⟨m, 0, none⟩ (.bool o)) m { d with off := o } vi vj ∧ Below m w (w.setCell ⟨m, 0, none⟩ (.bool o)) := by
  have K : Keeps (fun k => k = m) w (w.setCell ⟨m, 0, none⟩ (.bool o)) := (Keeps.refl (fun k => k = m) w).setCell ⟨m, 0, none⟩ (fun _ => rfl) _
  refine ⟨⟨World.cell?_setCell_same _ _ _ h.c0, ?_, ?_, ?_, ?_, ?_, own_keep h.oi K (fun k e e' => by have := h.gi e; omega), own_keep h.oj K (fun k e e' => by have := h.gj e; omega), h.ne, g⟩, K.below (Nat.le_of_lt h.lt) (fun k e => by omega)⟩
  · rw [World.cell?_setCell_other _ _ _ _ (by simp)]; exact h.c1
  · rw [World.cell?_setCell_other _ _ _ _ (by simp)]; exact h.c2
  · rw [World.frozen?_setCell]; exact h.f0
  · rw [World.frozen?_setCell]; exact h.f1
  · rw [World.frozen?_setCell]; exact h.f2
theorem ref_start {w : World} {m : Nat} {d : Dv} {vi vj : Value} (h : RefD w m d vi vj) :
    Calls Try.prog 27 #[.pointer (some ⟨m, 0, none⟩)] w fun e w' => e = .returned (.int .i64 (startE d)) ∧ RefD w' m (startD d) vi vj ∧ Below m w w' := by
  have c0 := h.c0
  have f0 := h.f0
  have hE : startE d = if d.off = true then 0 else 10 := rfl
  cases ho : d.off with
  | false =>
    rw [ho] at c0 hE
    simp at hE
    rw [hE]
    have hd : startD d = d := by unfold startD; cases d; simp at ho; subst ho; rfl
    rw [hd]
    have H := hide h
    clear h hE hd
    go_enter Try.func27, Try.ntmps27
    go_wp2
    go_ret
    exact ⟨rfl, H.out, Below.refl _ _⟩
  | true =>
    rw [ho] at c0 hE
    simp at hE
    rw [hE]
    have H := hide (h.off false h.good.start)
    clear h hE
    go_enter Try.func27, Try.ntmps27
    go_wp2
    go_ret
    exact ⟨rfl, H.out.1, H.out.2⟩
/-- At. -/
def atB (l : List Job) (x : Int) (st : Nat) : Bool := match jobAt l x with | some j => decide (j.st = st) | none => false
theorem jobAt_getJ {l : List Job} {x : Int} (h1 : 1 ≤ x) (h2 : x ≤ l.length) : jobAt l x = some (getJ l (x - 1).toNat) := by
  unfold jobAt
  rw [if_pos h1, getJ_some (by omega)]
theorem ref_at {w : World} {m : Nat} {d : Dv} {vi vj : Value} (h : RefD w m d vi vj) (x : Int) (hx : okI x) (st : Nat) :
    Calls Try.prog 39 #[.pointer (some ⟨m, 0, none⟩), .int .i64 x, .int .i64 (st : Int)] w fun e w' => e = .returned (.bool (atB d.jobs x st)) ∧ w' = w := by
  have hxb := bounds_i64 hx
  obtain ⟨ao, cap, hv, hc1, hc2, hj⟩ := h.job
  have c2 := h.c2
  rw [hv] at c2
  have hfew := h.good.few
  by_cases h1 : 1 ≤ x
  · by_cases h2 : x ≤ d.jobs.length
    · obtain ⟨k, hk⟩ : ∃ k : Nat, x = (k : Int) + 1 := ⟨(x - 1).toNat, by omega⟩
      have e : atB d.jobs x st = decide ((getJ d.jobs k).st = st) := by
        unfold atB
        rw [jobAt_getJ h1 h2, show (x - 1).toNat = k by omega]
      rw [e]
      obtain ⟨g, e1, -, -, -, -, -, -, e5, -⟩ := hj k (by omega)
      subst e1 hk
      have i1 : ((k : Int) + 1 - 1) = (k : Int) := by omega
      have i2 : k < d.jobs.length := by omega
      generalize (getJ d.jobs k).st = s1 at *
      generalize d.jobs.length = J at *
      by_cases hs : s1 = st
      · subst hs
        simp only [decide_true]
        clear h hj e hv
        go_enter Try.func39, Try.ntmps39
        go_wp2
        go_ret
        exact ⟨rfl, rfl⟩
      · have hs' : ((s1 : Int) == (st : Int)) = false := by simp; omega
        simp only [hs, decide_false]
        clear h hj e hv
        go_enter Try.func39, Try.ntmps39
        go_wp2
        go_ret
        exact ⟨rfl, rfl⟩
    · have e : atB d.jobs x st = false := by
        unfold atB jobAt
        rw [if_pos h1, List.getElem?_eq_none (by omega)]
      rw [e]
      generalize d.jobs.length = J at *
      clear h hj e hv
      go_enter Try.func39, Try.ntmps39
      go_wp2
      go_ret
      exact ⟨rfl, rfl⟩
  · have e : atB d.jobs x st = false := by
      unfold atB jobAt
      rw [if_neg h1]
    rw [e]
    clear h hj e hv
    go_enter Try.func39, Try.ntmps39
    go_wp2
    go_ret
    exact ⟨rfl, rfl⟩
theorem lookL_at {l : List (Bk × ByteArray)} {b : Bk} {k : Nat} (h : ∀ j, j < k → (getI l j).1 ≠ b) (hk : k < l.length) (e : (getI l k).1 = b) : lookL l b = some (getI l k).2 := by
  unfold lookL
  have : l.find? (fun p => decide (p.1 = b)) = some (getI l k) := by
    rw [List.find?_eq_some_iff_getElem]
    refine ⟨by simp [e], k, hk, by simp [getI, List.getD_eq_getElem?_getD, hk], fun j hj => ?_⟩
    have := h j hj
    simp [getI, List.getD_eq_getElem?_getD, show j < l.length by omega] at this
    simpa using this
  rw [this]; rfl
theorem lookL_no {l : List (Bk × ByteArray)} {b : Bk} (h : ∀ j, j < l.length → (getI l j).1 ≠ b) : lookL l b = none := by
  unfold lookL
  rw [List.find?_eq_none.2 (fun p hp => by
    obtain ⟨j, hj⟩ := List.getElem?_of_mem hp
    have hl := (List.getElem?_eq_some_iff.1 hj).1
    have := h j hl
    rw [getI_some hl] at hj
    cases hj
    simpa using this)]
  rfl
set_option maxHeartbeats 1000000 in
theorem ref_peek {w : World} {m : Nat} {d : Dv} {vi vj : Value} (h : RefD w m d vi vj) (b : Bk) :
    Calls Try.prog 41 #[.pointer (some ⟨m, 0, none⟩), bkV b] w fun e w' => e = .returned (.tuple #[.string ((lookL d.items b).getD ⟨#[]⟩), .bool (lookL d.items b).isSome]) ∧ Below w.heap.size w w' := by
  obtain ⟨a, n⟩ := b
  simp only [bkV]
  have h1 := h.alloc (.cells #[.int .i64 a, .int .i64 n] 32)
  obtain ⟨ao, cap, hv, hc1, hc2, hj⟩ := h1.item
  have c1 := h1.c1
  rw [hv] at c1
  have hfew := items_few h.good.rise (fun p hp => (h.good.it p hp).1)
  have x0 : (w.alloc (.cells #[.int .i64 a, .int .i64 n] 32)).cell? ⟨w.heap.size, 0, none⟩ = some (.int .i64 a) := by simp
  have x1 : (w.alloc (.cells #[.int .i64 a, .int .i64 n] 32)).cell? ⟨w.heap.size, 1, none⟩ = some (.int .i64 n) := by simp
  have HB := hide ((Below.refl w.heap.size w).alloc (Nat.le_refl _) (.cells #[.int .i64 a, .int .i64 n] 32))
  have HA := hide (fun k (hk : k < d.items.length) (hn : ∀ j, j < k → (getI d.items j).1 ≠ (a, n)) (e : (getI d.items k).1 = (a, n)) => lookL_at hn hk e)
  have HN := hide (fun (hn : ∀ j, j < d.items.length → (getI d.items j).1 ≠ (a, n)) => lookL_no hn)
  have HJ := hide hj
  clear h h1 hv hj
  generalize lookL d.items (a, n) = lk at *
  generalize hL : d.items.length = L at *
  go_enter Try.func41, Try.ntmps41
  go_wp2
  generalize hxx : w.alloc (.cells #[.int .i64 a, .int .i64 n] 32) = x at *
  generalize hbb : w.heap.size = B at *
  clear hxx
  go_loopw [6] (fun v wr => ∃ k : Nat, k ≤ L ∧ v = .int .i64 k ∧ Hid (∀ j, j < k → (getI d.items j).1 ≠ (a, n)) ∧ ∃ q, wr = x.drewN q) (fun v _ => L - (intOf v).toNat)
  case atStart => exact ⟨0, Nat.zero_le _, rfl, fun j hj => by omega, 0, rfl⟩
  case round =>
    obtain ⟨k, hk, rfl, hno, q, rfl⟩ := hrel
    by_cases hlt : k < L
    · obtain ⟨g, rfl, -, y0, y1, y2⟩ := HJ.out k hlt
      have HE : Hid ((getI d.items k).1 = (a, n) → lk = some (getI d.items k).2) := fun e => HA.out k hlt hno.out e
      have HK : Hid ((getI d.items k).1 ≠ (a, n) → ∀ j, j < k + 1 → (getI d.items j).1 ≠ (a, n)) := fun hne j hj => by
        by_cases e : j = k
        · subst e; exact hne
        · exact hno.out j (by omega)
      generalize getI d.items k = it at *
      obtain ⟨⟨ia, inn⟩, is⟩ := it
      simp only at y0 y1 y2 HE HK
      by_cases e1 : ia = a
      · by_cases e2 : inn = n
        · subst e1 e2
          have hlk := HE.out rfl
          subst hlk
          clear HE HA HN HJ hno HK
          go_wp2
          go_quiet ((fail))
          go_wp2
          go_ret2
          exact ⟨rfl, by rw [hbb]; exact below_drewN HB.out _⟩
        · have HX := hide (HK.out (fun e => e2 (congrArg Prod.snd e)))
          subst e1
          clear HE HA HN HJ hno HK
          go_wp2
          go_quiet ((fail))
          go_wp2
          go_roundw
          case rel => exact ⟨k + 1, by omega, by go_num, HX.out, _, rfl⟩
          case measure => simp [intOf]; omega
      · have HX := hide (HK.out (fun e => e1 (congrArg Prod.fst e)))
        clear HE HA HN HJ hno HK
        go_wp2
        go_quiet ((fail))
        go_wp2
        go_roundw
        case rel => exact ⟨k + 1, by omega, by go_num, HX.out, _, rfl⟩
        case measure => simp [intOf]; omega
    · have hlk := HN.out (fun j hj => hno.out j (by omega))
      subst hlk
      clear HA HN HJ hno
      go_wp2
      go_ret2
      exact ⟨rfl, by rw [hbb]; exact below_drewN HB.out _⟩
end Go.Proofs.Ytjhndhibojndfaa
