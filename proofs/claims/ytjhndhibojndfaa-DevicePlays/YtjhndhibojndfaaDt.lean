/- Package device: Blocks. -/
import Derived.Test.YtjhndhibojndfaaDs
namespace Go.Proofs.Ytjhndhibojndfaa
open Go.RowKit Go.Maps Go.Sort
/-- A slice of blocks that is read. -/
def Bs (w : World) (ao : Option Addr) (n : Nat) (z : Nat → Bk) : Prop :=
  ∀ j, j < n → ∃ b off, ao = some ⟨b, off, none⟩ ∧ w.cell? ⟨b, off + j * 2, none⟩ = some (.int .i64 (z j).1) ∧ w.cell? ⟨b, off + j * 2 + 1, none⟩ = some (.int .i64 (z j).2)
theorem Bs.below {w w' : World} {ao : Option Addr} {n : Nat} {z : Nat → Bk} (h : Bs w ao n z) (hb : Below w.heap.size w w') : Bs w' ao n z := by
  intro j hj
  obtain ⟨b, off, h1, h2, h3⟩ := h j hj
  exact ⟨b, off, h1, by rw [hb.cell (World.block_lt_of_cell? w _ h2)]; exact h2, by rw [hb.cell (World.block_lt_of_cell? w _ h3)]; exact h3⟩
def bksV (l : List Bk) : List Value := l.flatMap encB
theorem bksV_snoc (l : List Bk) (b : Bk) : bksV (l ++ [b]) = bksV l ++ [.int .i64 b.1, .int .i64 b.2] := by simp [bksV, encB]
theorem bksV_get (l : List Bk) (j c : Nat) (hj : j < l.length) (hc : c < 2) : (bksV l)[j * 2 + c]? = some ((encB l.toArray[j]!)[c]!) := by
  induction l generalizing j with
  | nil => simp at hj
  | cons b l ih =>
    have e : bksV (b :: l) = .int .i64 b.1 :: .int .i64 b.2 :: bksV l := rfl
    match j with
    | 0 =>
      match c, hc with
      | 0, _ => simp [e, encB]
      | 1, _ => simp [e, encB]
    | j + 1 =>
      have := ih j (by simpa using hj)
      rw [e, show (j + 1) * 2 + c = j * 2 + c + 1 + 1 by omega]
      simpa using this
theorem own_holdsB {w : World} {base : Nat} {v : Value} {zs : List Bk} (h : w.ownsRow base 32 2 v zs.length (bksV zs)) (hn : 0 < zs.length) :
    ∃ g cap, v = .slice (some ⟨g, 0, none⟩) zs.length cap ∧ base ≤ g ∧ g < w.heap.size ∧ HoldsK encB 2 w g 0 zs.toArray := by
  have h' := h
  rcases h.2 with ⟨_, h0⟩ | ⟨g, cap, cur, hv, hb, hg, _, _, _, _⟩
  · omega
  · refine ⟨g, cap, hv, hb, (Array.getElem?_eq_some_iff.1 hg).1, fun j hj => ⟨?_, ?_⟩⟩
    · rw [size_flatK] at hj
      simp at hj
      have hg' := bksV_get zs (j / 2) (j % 2) (by omega) (by omega)
      rw [show j / 2 * 2 + j % 2 = j by omega] at hg'
      have hc := h'.cells (g := g) (by rw [hv]; rfl) j _ hg'
      have hadd : (⟨g, 0, none⟩ : Addr).add j = ⟨g, j, none⟩ := by unfold Addr.add; split <;> simp_all
      rw [hadd] at hc
      rw [Nat.zero_add, get_flatK _ _ _ _ (by simpa using hj)]
      exact hc
    · simp [World.frozen?, hg]
theorem holds_bs {w : World} {g : Nat} {zs : List Bk} (h : HoldsK encB 2 w g 0 zs.toArray) : Bs w (some ⟨g, 0, none⟩) zs.length (fun j => zs.getD j (0, 0)) := by
  intro j hj
  have e : zs.toArray[j]! = zs.getD j (0, 0) := by simp [List.getD_eq_getElem?_getD, hj]
  have c0 := (h.cell (i := j) (c := 0) (by simpa using hj) (by omega)).1
  have c1 := (h.cell (i := j) (c := 1) (by simpa using hj) (by omega)).1
  rw [e] at c0 c1
  exact ⟨g, 0, rfl, by rw [show 0 + j * 2 = 0 + j * 2 + 0 by omega, c0]; rfl, by rw [c1]; rfl⟩
theorem sort_isB {zs K : List Bk} (hn : zs.Nodup) (hK : K.Pairwise ltB) (hm : ∀ x, x ∈ zs ↔ x ∈ K) : zs.mergeSort (fun x y => !(ltOf cfB) y x) = K := by
  have hp := List.mergeSort_perm zs (fun x y => !(ltOf cfB) y x)
  have hb : ∀ a b, (!(ltOf cfB) b a) = true ↔ ¬ ltB b a := fun a b => by
    rw [← ltB_of]
    cases ltOf cfB b a <;> simp
  have hs : (zs.mergeSort (fun x y => !(ltOf cfB) y x)).Pairwise (fun x y => (!(ltOf cfB) y x) = true) :=
    List.pairwise_mergeSort (fun a b c h1 h2 => by
      rw [hb] at *
      intro h
      rcases ltB_or a b with h3 | h3 | h3
      · exact h2 (ltB_trans h h3)
      · subst h3; exact h2 h
      · exact h1 h3) (fun a b => by
      rcases ltB_or a b with h3 | h3 | h3
      · have : (!(ltOf cfB) b a) = true := (hb a b).2 (fun h => ltB_irrefl _ (ltB_trans h h3))
        simp [this]
      · subst h3
        have : (!(ltOf cfB) a a) = true := (hb a a).2 (ltB_irrefl _)
        simp [this]
      · have : (!(ltOf cfB) a b) = true := (hb b a).2 (fun h => ltB_irrefl _ (ltB_trans h h3))
        simp [this]) zs
  have hn' : (zs.mergeSort (fun x y => !(ltOf cfB) y x)).Nodup := hp.nodup_iff.2 hn
  refine rising_ext (lt := ltB) ltB_irrefl (fun h1 h2 => ltB_trans h1 h2) ?_ hK (fun x => by rw [hp.mem_iff, hm])
  exact (hs.and hn').imp (fun {a b} h => by
    have h1 := (hb a b).1 h.1
    have h2 : a ≠ b := h.2
    rcases ltB_or a b with h3 | h3 | h3
    · exact h3
    · exact absurd h3 h2
    · exact absurd h3 h1)
theorem Try.infoB : (Try.prog.info? 32).map (fun i => (i.zero, i.size, i.bytes)) = some (some (.agg #[.int .i64 0, .int .i64 0]), 2, 16) := by kernel_rfl
theorem two_ints {a b : Int} : ∀ u ∈ [Value.int .i64 a, Value.int .i64 b], u.oneCell' = true := by
  intro u hu; simp at hu; rcases hu with rfl | rfl <;> rfl
theorem cell_two (w : World) (a b : Value) (t : TypeId) : ∀ j u, [a, b][j]? = some u → (w.alloc (.cells #[a, b] t)).cell? ((⟨w.heap.size, 0, none⟩ : Addr).add j) = some u := by
  intro j u hj
  match j, hj with
  | 0, hj => simp at hj; subst hj; simp [Addr.add]
  | 1, hj => simp at hj; subst hj; simp [Addr.add]
set_option maxHeartbeats 2000000 in
set_option maxRecDepth 10000 in
theorem device_blocks {w : World} {t : Nat} {d : Dv} (h : DvIs w t d) (K : List Bk) (hK : K = d.items.map Prod.fst) :
    Calls Try.prog 22 #[.pointer (some ⟨t + 3, 0, none⟩)] w fun e w' => ∃ ao cap, e = .returned (.slice ao K.length cap) ∧ Bs w' ao K.length (fun j => K.getD j (0, 0)) ∧ Below w.heap.size w w' := by
  obtain ⟨i0, hi, hz0, hz1, hz2⟩ := info_parts Try.infoB
  have hlen : K.length ≤ 192 := by
    rw [hK, List.length_map]
    exact items_few h.good.rise (fun p hp => (h.good.it p hp).1)
  have hmem : ∀ x, x ∈ K ↔ okK x ∧ lookL d.items x ≠ none := by
    intro x
    rw [lookL_mem, ← hK]
    refine ⟨fun hx => ⟨?_, hx⟩, fun hx => hx.2⟩
    rw [hK] at hx
    obtain ⟨p, hp, rfl⟩ := List.mem_map.1 hx
    exact okB_okK (h.good.it p hp).1
  have hris : K.Pairwise ltB := by rw [hK, List.pairwise_map]; exact h.good.rise
  obtain ⟨w0, hr0, hrg0, hb0, hs0⟩ := h.mb.range
  simp only [MB] at hr0
  have c2 := h.c2
  have ht := h.lt
  have HM := hide hmem
  have HI := hide hris
  clear hK hmem hris h
  go_enter Try.func22, Try.ntmps22
  go_wp2
  go_loopw [3] (fun v wr => ∃ (left : Bk → Bool) (acc : List Bk), RangeAs MB wr t w.heap.size (lookL d.items) left ∧ wr.ownsRow (w.heap.size + 1) 32 2 v acc.length (bksV acc) ∧ acc.Nodup ∧ (∀ x, x ∈ acc ↔ (okK x ∧ lookL d.items x ≠ none) ∧ left x = false) ∧ Below w.heap.size w wr ∧ w.heap.size < wr.heap.size) (fun _ wr => wr.rangeLeft t w.heap.size)
  case atStart =>
    refine ⟨_, [], hrg0, World.ownsRow_nil _ _ _ _, List.nodup_nil, fun x => ?_, hb0, by omega⟩
    constructor
    · intro h; simp at h
    · rintro ⟨⟨-, h1⟩, h2⟩
      cases e : lookL d.items x with
      | none => exact absurd e h1
      | some s => rw [e] at h2; cases h2
  case round =>
    obtain ⟨left, acc, hrg, hown, hnd, hacc, hbel, hsz⟩ := hrel
    have hal : acc.length ≤ 192 := Nat.le_trans (nodup_len_le (b := K) hnd (fun x hx => (HM.out x).2 ((hacc x).1 hx).1)) hlen
    rcases hrg.next 0 with ⟨hl0, hrn⟩ | ⟨x, r, w1, hx, hlx, hfx, hrn, hrg1, hlt1, hg1, hs1, hen⟩
    · have hfin : ∀ x, x ∈ acc ↔ x ∈ K := fun x => by
        rw [HM.out x, hacc x]
        exact ⟨fun h => h.1, fun h => ⟨h, hl0 x h.1⟩⟩
      have hso := sort_isB hnd HI.out hfin
      have hll : acc.length = K.length := by
        have := congrArg List.length hso
        simpa using this
      have HR := hide hbel
      by_cases h0 : acc.length = 0
      · have hv : ∃ ao cap, u3 = .slice ao 0 cap := by
          rcases hown.2 with ⟨e, -⟩ | ⟨g', cap, cur, e, -⟩
          · exact ⟨none, 0, e⟩
          · exact ⟨some ⟨g', 0, none⟩, cap, by rw [e, h0]⟩
        obtain ⟨ao, cap, rfl⟩ := hv
        have hL0 : K.length = 0 := by omega
        clear hown hrg hacc hfin hso hnd hr0 hrg0 hb0 hs0 c2 hi HM HI hbel
        go_wp2_with fail
        refine (sort_bks_none _ _ _ _).mono ?_
        rintro e y ⟨rfl, rfl⟩
        go_wp2
        go_ret
        exact ⟨ao, cap, by rw [hL0]; rfl, fun j hj => by omega, HR.out⟩
      · obtain ⟨gg, cap, rfl, hgb, hgl, hH⟩ := own_holdsB hown (by omega)
        have HS := sort_bks gg cap acc wr hH hgl (by omega)
        rw [hso] at HS
        have HLL := hide hll
        clear hll h0
        clear hown hrg hacc hfin hso hnd hr0 hrg0 hb0 hs0 c2 hi HM HI hbel hH
        go_wp2_with fail
        refine HS.mono ?_
        rintro e y ⟨rfl, hy, hk⟩
        go_wp2
        go_ret
        exact ⟨some ⟨gg, 0, none⟩, cap, by rw [← HLL.out]; rfl, holds_bs hy, HR.out.trans (hk.below (Nat.le_of_lt hsz) (fun k e => by omega))⟩
    · have hw1 : Below w.heap.size w w1 := hbel.grown hg1 hbel.size (fun k hk => by cases hk; exact Nat.le_refl _)
      have own1 : w1.ownsRow (w.heap.size + 1) 32 2 u3 acc.length (bksV acc) := hown.kept hg1 (by
        rcases hown.2 with ⟨e, -⟩ | ⟨g', cap, cur, e, hb', -⟩
        · exact .inl (by rw [e]; rfl)
        · exact .inr (by rw [e]; simp [Value.ownBlock]; omega))
      have HX : Hid (∀ y, y ∈ acc ++ [x] ↔ (okK y ∧ lookL d.items y ≠ none) ∧ (fun y => left y && !decide (y = x)) y = false) := fun y => by
        by_cases e : y = x
        · subst e
          have h1 : okK y ∧ lookL d.items y ≠ none := ⟨hx, by rw [hfx]; simp⟩
          simp [h1]
        · have := hacc y
          simp only [List.mem_append, List.mem_singleton, e, or_false, decide_false, Bool.not_false, Bool.and_true]
          exact this
      have hxa : x ∉ acc := fun h => by
        have := ((hacc x).1 h).2
        rw [hlx] at this; cases this
      obtain ⟨a, n⟩ := x
      have hb2 := (hw1.alloc hw1.size (.cells #[.int .i64 a, .int .i64 n] 32)).alloc (by simp; have := hw1.size; omega) (.cells #[.int .i64 a, .int .i64 n] 32)
      have own2 := (own1.alloc (.cells #[.int .i64 a, .int .i64 n] 32)).alloc (.cells #[.int .i64 a, .int .i64 n] 32)
      obtain ⟨hrg2, hl2⟩ := hrg1.keep (World.grownBy_alloc w1 (.cells #[.int .i64 a, .int .i64 n] 32) none) (by simp) (by simp)
      obtain ⟨hrg3, hl3⟩ := hrg2.keep (World.grownBy_alloc _ (.cells #[.int .i64 a, .int .i64 n] 32) none) (by simp) (by simp)
      have hnews : ∀ j u, [Value.int .i64 a, .int .i64 n][j]? = some u → ((w1.alloc (.cells #[.int .i64 a, .int .i64 n] 32)).alloc (.cells #[.int .i64 a, .int .i64 n] 32)).cell? ((⟨w1.heap.size + 1, 0, none⟩ : Addr).add j) = some u := by
        have := cell_two (w1.alloc (.cells #[.int .i64 a, .int .i64 n] 32)) (.int .i64 a) (.int .i64 n) 32
        simpa using this
      simp only [MB, bkV, coV] at hrn hen
      have hsz2 : w.heap.size < w1.heap.size := by omega
      clear hrg hown hacc hbel hr0 hrg0 hb0 hs0 c2 own1 hrg1 hw1 hrg2 hs1
      go_wp2_with (at_builtin; refine wpList_append_lies _ rfl _ _ 54 rfl (w.heap.size + 1) 32 i0 (.agg #[.int .i64 0, .int .i64 0]) 2 16 Try.underlying54 hi hz0 hz1 hz2 rfl (by decide) _ _ _ rfl own2 ⟨w1.heap.size + 1, 0, none⟩ 1 1 [.int .i64 a, .int .i64 n] rfl rfl hnews two_ints (by decide) ?c3 ?c4 ?c5 (w1.heap.size + 2) (by simp) ?_)
      case c3 => unfold maxLen; omega
      case c4 => omega
      case c5 => first | omega | (simp; omega)
      intro g' cap' y2 hown' hgrow hat hlt'
      have hob : ∀ k, (u3).ownBlock = some k → w.heap.size + 1 ≤ k := fun k hk => (own2.lt k hk).1
      obtain ⟨hrg5, hl5⟩ := hrg3.keep hgrow (fun e => by have := hob _ e.symm; omega) (fun e => by have := hob _ e.symm; omega)
      have hb5 := hb2.grown hgrow (by simp; omega) (fun k hk => by have := hob k hk; omega)
      have hs5 := hgrow.size
      simp only [World.size_alloc] at hs5
      clear own2 hnews hgrow hat hrg3
      go_wp2
      go_roundw
      case rel => exact ⟨_, acc ++ [(a, n)], hrg5, by rw [bksV_snoc, List.length_append]; exact hown', List.nodup_append.2 ⟨hnd, by simp, fun p hp r hr e => by simp at hr; subst hr; subst e; exact hxa hp⟩, HX.out, hb5, by omega⟩
      case measure => rw [hl5, hl3, hl2]; exact hlt1
end Go.Proofs.Ytjhndhibojndfaa
