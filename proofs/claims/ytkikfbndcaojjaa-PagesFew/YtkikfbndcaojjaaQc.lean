/- The reference: Open. -/
import Derived.Test.YtkikfbndcaojjaaQb
namespace Go.Proofs.Ytkikfbndcaojjaa
open Go.RowKit
/-- One round of Open. -/
def insS (x : Nat × Nat) (a : List (Nat × Nat) × Bool) (y : Nat × Nat) : List (Nat × Nat) × Bool := if a.2 = false ∧ x.1 < y.1 then (a.1 ++ [x] ++ [y], true) else (a.1 ++ [y], a.2)
def insA (x : Nat × Nat) (K : List (Nat × Nat)) : List (Nat × Nat) × Bool := K.foldl (insS x) ([], false)
def insL (x : Nat × Nat) (K : List (Nat × Nat)) : List (Nat × Nat) := if (insA x K).2 then (insA x K).1 else (insA x K).1 ++ [x]
theorem insA_snoc (x : Nat × Nat) (K : List (Nat × Nat)) (y : Nat × Nat) : insA x (K ++ [y]) = insS x (insA x K) y := by simp [insA, List.foldl_append]
theorem getK_take (l : List (Nat × Nat)) (k : Nat) (h : k < l.length) : l.take (k + 1) = l.take k ++ [getK l k] := by
  rw [List.take_succ_eq_append_getElem h]; simp [getK, List.getD_eq_getElem?_getD, h]
theorem insA_take (x : Nat × Nat) (l : List (Nat × Nat)) (k : Nat) (h : k < l.length) : insA x (l.take (k + 1)) = insS x (insA x (l.take k)) (getK l k) := by rw [getK_take l k h, insA_snoc]
theorem rev_ind {α : Type} {p : List α → Prop} (h0 : p []) (h1 : ∀ l a, p l → p (l ++ [a])) (l : List α) : p l := by
  have : ∀ l : List α, p l.reverse := fun l => by
    induction l with
    | nil => exact h0
    | cons a l ih => rw [List.reverse_cons]; exact h1 _ _ ih
  simpa using this l.reverse
theorem insA_is (x : Nat × Nat) (K : List (Nat × Nat)) : ((insA x K).2 = false ∧ (insA x K).1 = K ∧ ∀ y ∈ K, y.1 ≤ x.1) ∨ ((insA x K).2 = true ∧ ∃ l1 z l3, K = l1 ++ z :: l3 ∧ (insA x K).1 = l1 ++ x :: z :: l3 ∧ (∀ y ∈ l1, y.1 ≤ x.1) ∧ x.1 < z.1) := by
  refine rev_ind (p := fun K => ((insA x K).2 = false ∧ (insA x K).1 = K ∧ ∀ y ∈ K, y.1 ≤ x.1) ∨ ((insA x K).2 = true ∧ ∃ l1 z l3, K = l1 ++ z :: l3 ∧ (insA x K).1 = l1 ++ x :: z :: l3 ∧ (∀ y ∈ l1, y.1 ≤ x.1) ∧ x.1 < z.1)) ?_ ?_ K
  · exact .inl ⟨rfl, rfl, fun y hy => by simp at hy⟩
  · intro l a ih
    rw [insA_snoc]
    rcases ih with ⟨h1, h2, h3⟩ | ⟨h1, l1, z, l3, h2, h3, h4, h5⟩
    · by_cases hx : x.1 < a.1
      · refine .inr ⟨by simp [insS, h1, hx], l, a, [], by simp, by simp [insS, h1, hx, h2], h3, hx⟩
      · refine .inl ⟨by simp [insS, hx, h1], by simp [insS, hx, h2], fun y hy => ?_⟩
        rcases List.mem_append.1 hy with hy | hy
        · exact h3 y hy
        · simp at hy; subst hy; omega
    · exact .inr ⟨by simp [insS, h1], l1, z, l3 ++ [a], by simp [h2], by simp [insS, h1, h3], h4, h5⟩
theorem insL_is (x : Nat × Nat) (K : List (Nat × Nat)) : ∃ l1 l2, K = l1 ++ l2 ∧ insL x K = l1 ++ x :: l2 ∧ (∀ y ∈ l1, y.1 ≤ x.1) ∧ ∀ z l3, l2 = z :: l3 → x.1 < z.1 := by
  rcases insA_is x K with ⟨h1, h2, h3⟩ | ⟨h1, l1, z, l3, h2, h3, h4, h5⟩
  · exact ⟨K, [], by simp, by simp [insL, h1, h2], h3, fun z l3 e => by cases e⟩
  · exact ⟨l1, z :: l3, h2, by simp [insL, h1, h3], h4, fun z' l3' e => by cases e; exact h5⟩
theorem insL_perm (x : Nat × Nat) (K : List (Nat × Nat)) : (insL x K).Perm (x :: K) := by
  obtain ⟨l1, l2, h1, h2, -⟩ := insL_is x K
  rw [h2, h1]
  exact List.perm_middle
theorem insA_len (x : Nat × Nat) (K : List (Nat × Nat)) : (insA x K).1.length ≤ K.length + 1 := by
  rcases insA_is x K with ⟨-, h, -⟩ | ⟨-, l1, z, l3, h2, h3, -⟩
  · rw [h]; omega
  · rw [h3, h2]; simp; omega
/-- What the loop of Open has: a row of its own. -/
structure OutP (w3 : World) (h0 s : Nat) (wr : World) (v : Value) (l : List (Nat × Nat)) : Prop where
  own : wr.ownsRow h0 44 2 v l.length (onesV s l)
  far : ∀ k, v.ownBlock = some k → k = h0 ∨ w3.heap.size ≤ k
  kp : Keeps (fun k => k = h0) w3 wr
theorem OutP.step {w3 wr y : World} {h0 s g cap : Nat} {v : Value} {l : List (Nat × Nat)} {x : Nat × Nat} {o : Obj} (h : OutP w3 h0 s wr v l) (hg : (wr.alloc o).grownBy y v.ownBlock)
    (hown : y.ownsRow h0 44 2 (.slice (some ⟨g, 0, none⟩) (l.length + 1) cap) (l.length + 1) (onesV s l ++ [.int .i64 (x.1 : Int), .slice (some ⟨x.2, 0, none⟩) s s])) (hat : v.ownBlock = some g ∨ g = wr.heap.size + 1) :
    OutP w3 h0 s y (.slice (some ⟨g, 0, none⟩) (l.length + 1) cap) (l ++ [x]) := by
  refine ⟨by rw [onesV_snoc, List.length_append]; exact hown, fun k e => ?_, (h.kp.alloc o).grown hg (fun k e hk => by rcases h.far k e with h1 | h1; exact h1; omega)⟩
  have e1 : g = k := by simpa [Value.ownBlock] using e
  subst e1
  rcases hat with hat | hat
  · exact h.far g hat
  · have := h.kp.size; exact .inr (by omega)
theorem OutP.cell {w3 wr : World} {h0 s : Nat} {v : Value} {l : List (Nat × Nat)} (h : OutP w3 h0 s wr v l) {p : Addr} {u : Value} (hp : w3.cell? p = some u) (hne : p.block ≠ h0) : wr.cell? p = some u := by
  rw [h.kp.cell (World.block_lt_of_cell? w3 _ hp) hne]; exact hp
theorem two_cells {a : Int} {ao : Option Addr} {n c : Nat} : ∀ u ∈ [Value.int .i64 a, Value.slice ao n c], u.oneCell' = true := by
  intro u hu; simp at hu; rcases hu with rfl | rfl <;> rfl
theorem cell_2 (w : World) (a b : Value) (t : TypeId) : ∀ j u, [a, b][j]? = some u → (w.alloc (.cells #[a, b] t)).cell? ((⟨w.heap.size, 0, none⟩ : Addr).add j) = some u := by
  intro j u hj
  match j, hj with
  | 0, hj => simp at hj; subst hj; simp [Addr.add]
  | 1, hj => simp at hj; subst hj; simp [Addr.add]
section
variable {w : World} {M : Nat → Prop} {m n : Nat} {bits : Int} {K : List (Nat × Nat)} {V : Nat → Nat → Int} {vl : Value}
theorem rb_open_neg (m : Nat) (page : Int) (hp : page < 0) (w : World) :
    Calls Try.prog 27 #[.pointer (some ⟨m, 0, none⟩), .int .i64 page] w fun e w' => e = .returned (.int .i64 1) ∧ w' = w := by
  go_enter Try.func27, Try.ntmps27
  go_wp2
  go_ret
  exact ⟨rfl, rfl⟩
theorem rb_open_there (h : RbIs w M m n bits K V vl) (i : Nat) (hi : i < K.length) (P : Nat) (hP : (getK K i).1 = P) (hfirst : ∀ j, j < i → (getK K j).1 ≠ P) :
    Calls Try.prog 27 #[.pointer (some ⟨m, 0, none⟩), .int .i64 (P : Int)] w fun e w' => e = .returned (.int .i64 8) ∧ w' = w := by
  have hat := rb_at_yes h i hi P hP hfirst
  clear h hP hfirst
  go_enter Try.func27, Try.ntmps27
  go_wp2_with fail
  refine hat.mono ?_
  rintro e x ⟨rfl, rfl⟩
  go_wp2
  go_ret
  exact ⟨rfl, rfl⟩
set_option maxHeartbeats 1000000 in
theorem rb_open_busy (h : RbIs w M m n bits K V vl) (P : Nat) (hPm : P ≤ 9223372036854775807) (hno : ∀ j, j < K.length → (getK K j).1 ≠ P) (i : Nat) (hi : i < K.length) (hres : (getK K i).1 % n = P % n) :
    Calls Try.prog 27 #[.pointer (some ⟨m, 0, none⟩), .int .i64 (P : Int)] w fun e w' => e = .returned (.int .i64 10) ∧ Below w.heap.size w w' := by
  have hat := rb_at_no h (P : Int) (fun j hj e => hno j hj (by omega))
  obtain ⟨ao, cap, hv, hc1, hc2, hcells⟩ := h.form
  have c2 := h.c2
  have c1 := h.c1
  rw [hv] at c2
  have hn := h.hn
  have HC := hide hcells
  have hz : ((n : Int) == 0) = false := by simp; omega
  clear h hcells hv hno
  generalize hLL : K.length = L at *
  have HLL := hide hLL
  clear hLL
  obtain ⟨q, hq⟩ : ∃ q, q = P % n := ⟨_, rfl⟩
  have hm : (P : Int) % (n : Int) = (q : Int) := by rw [hq]; simp
  rw [← hq] at hres
  clear hq
  go_enter Try.func27, Try.ntmps27
  go_wp2_with fail
  refine hat.mono ?_
  rintro e x ⟨rfl, rfl⟩
  go_wp2
  go_loopw [5] (fun vi wr => ∃ k : Nat, k ≤ i ∧ vi = .int .i64 k ∧ ∃ d, wr = x.drewN d) (fun vi _ => L - (intOf vi).toNat)
  case atStart => exact ⟨0, Nat.zero_le _, rfl, 0, rfl⟩
  case round =>
    obtain ⟨k, hk, rfl, d, rfl⟩ := hrel
    have hkl : k < L := by omega
    obtain ⟨g, rfl, -, q0, -⟩ := HC.out k hkl
    obtain ⟨r, hr⟩ : ∃ r, r = (getK K k).1 % n := ⟨_, rfl⟩
    have hmk : ((getK K k).1 : Int) % (n : Int) = (r : Int) := by rw [hr]; simp
    by_cases e : r = q
    · subst e
      have hX : ((r : Int) == (r : Int)) = true := by simp
      clear hr hres
      generalize (getK K k).1 = p at *
      go_wp2
      go_quiet (fail)
      go_wp2
      go_ret
      exact ⟨rfl, below_drewN (below_drewN (Below.refl _ _) d) _⟩
    · have hX : ((r : Int) == (q : Int)) = false := by simp; omega
      have hki : k ≠ i := fun e' => e (by rw [hr, e', hres])
      clear hr hres e
      generalize (getK K k).1 = p at *
      go_wp2
      go_quiet (fail)
      go_wp2
      go_roundw
      case rel => exact ⟨k + 1, by omega, by go_num, _, rfl⟩
      case measure => simp [intOf]; omega
set_option maxHeartbeats 4000000 in
set_option maxRecDepth 10000 in
theorem rb_open_yes (h : RbIs w M m n bits K V vl) (hfew : K.length ≤ 1000) (P : Nat) (hPm : P ≤ 9223372036854775807) (hres : ∀ j, j < K.length → (getK K j).1 % n ≠ P % n) :
    Calls Try.prog 27 #[.pointer (some ⟨m, 0, none⟩), .int .i64 (P : Int)] w fun e w' => e = .returned (.int .i64 0) ∧ (∃ lb vl', RbIs w' (More M w w') m n bits (insL (P, lb) K) (fun b j => if b = lb then 0 else V b j) vl' ∧ w.heap.size ≤ lb) ∧ Keeps M w w' := by
  obtain ⟨i1, hi1, hy0, hy1, hy2⟩ := info_parts Try.infoW64
  obtain ⟨i0, hi0, hz0, hz1, hz2⟩ := info_parts Try.infoOne
  have hat := rb_at_no h (P : Int) (fun j hj e => hres j hj (by have : (getK K j).1 = P := by omega
                                                                rw [this]))
  have HEND : Hid (∀ (y : World) (v : Value) (lb : Nat), Below w.heap.size w y → w.heap.size ≤ lb → v.ownBlock ≠ some lb → (∀ j, j < sizeN bits → y.cell? ⟨lb, j, none⟩ = some (.int .u64 0) ∧ y.frozen? ⟨lb, j, none⟩ = false) → y.ownsRow w.heap.size 44 2 v (insL (P, lb) K).length (onesV (sizeN bits) (insL (P, lb) K)) → RbIs (y.setCell ⟨m, 2, none⟩ v) (More M w (y.setCell ⟨m, 2, none⟩ v)) m n bits (insL (P, lb) K) (fun b j => if b = lb then 0 else V b j) v ∧ Keeps M w (y.setCell ⟨m, 2, none⟩ v)) := by
    intro y v lb hb hlb hvl hw ho
    have hp := sizeN_pos h.hb
    have hperm := insL_perm (P, lb) K
    have hold : ∀ x ∈ K, x.2 < w.heap.size := fun x hx => World.block_lt_of_cell? w _ (h.ws x hx 0 (by omega)).1
    refine h.setL hb ho (fun x hx => ?_) ?_
    · rcases List.mem_cons.1 (hperm.mem_iff.1 hx) with rfl | hx
      · exact .inr ⟨hlb, hPm, hvl, fun j hj => by simpa using hw j hj⟩
      · refine .inl ⟨hx, fun j => ?_⟩
        have := hold x hx
        exact if_neg (by omega)
    · rw [(hperm.map Prod.snd).nodup_iff, List.map_cons, List.nodup_cons]
      refine ⟨fun hx => ?_, h.nd⟩
      obtain ⟨x, hx, e⟩ := List.mem_map.1 hx
      have := hold x hx
      simp only at e
      omega
  have hl := h.lt
  obtain ⟨ao, cap, hv, hc1, hc2, hcells⟩ := h.form
  have c2 := h.c2
  have c1 := h.c1
  have c0 := h.c0
  rw [hv] at c2
  have hf2 := h.f2
  have hn := h.hn
  have hsp := sizeN_pos h.hb
  have hsb := sizeN_bounds bits
  have hvl : ∀ g, ao = some ⟨g, 0, none⟩ → 0 < K.length → g < w.heap.size := fun g e h0 => by
    obtain ⟨g', e', e2, -⟩ := hcells 0 h0
    rw [e] at e'; cases e'
    exact (h.own.lt g e2).2
  have HV := hide hvl
  have HC := hide hcells
  have HR := hide hres
  have hz : ((n : Int) == 0) = false := by simp; omega
  clear h hcells hv hres hvl
  have HT := hide (fun lb k (hk : k < K.length) => insA_take (P, lb) K k hk)
  have HLN := hide (fun lb k => insA_len (P, lb) (K.take k))
  have hALL : Hid (K.take K.length = K) := List.take_length
  generalize hLL : K.length = L at *
  have HLL := hide hLL
  clear hLL
  obtain ⟨q, hq⟩ : ∃ q, q = P % n := ⟨_, rfl⟩
  have hm : (P : Int) % (n : Int) = (q : Int) := by rw [hq]; simp
  rw [← hq] at HR
  clear hq
  generalize hss : sizeN bits = s at *
  go_enter Try.func27, Try.ntmps27
  go_wp2_with fail
  refine hat.mono ?_
  rintro e x ⟨rfl, rfl⟩
  go_wp2
  go_loopw [5] (fun vi wr => ∃ k : Nat, k ≤ L ∧ vi = .int .i64 k ∧ ∃ d, wr = x.drewN d) (fun vi _ => L - (intOf vi).toNat)
  case atStart => exact ⟨0, Nat.zero_le _, rfl, 0, rfl⟩
  case round =>
    obtain ⟨k, hk, rfl, d, rfl⟩ := hrel
    by_cases hkl : k < L
    · obtain ⟨g, rfl, -, q0, -⟩ := HC.out k hkl
      obtain ⟨r, hr⟩ : ∃ r, r = (getK K k).1 % n := ⟨_, rfl⟩
      have hmk : ((getK K k).1 : Int) % (n : Int) = (r : Int) := by rw [hr]; simp
      have e : r ≠ q := by rw [hr]; exact HR.out k hkl
      have hX : ((r : Int) == (q : Int)) = false := by simp; omega
      clear hr e HEND HT
      generalize (getK K k).1 = p at *
      go_wp2
      go_quiet (fail)
      go_wp2
      go_roundw
      case rel => exact ⟨k + 1, by omega, by go_num, _, rfl⟩
      case measure => simp [intOf]; omega
    · have e : L = k := by omega
      subst e
      clear hat HR hkl hk
      have hO0 := World.ownsRow_made (base := x.heap.size) (e := 44) (size := 2) (x.drewN d) #[] 0 (by simp) (by decide) (by simp)
      have hO1 : ((x.drewN d).alloc (.cells #[] 44)).ownsRow x.heap.size 44 2 (.slice (some ⟨x.heap.size, 0, none⟩) 0 0) 0 [] := by simpa using hO0
      have b0 := (below_drewN (Below.refl x.heap.size x) d).alloc (by simp) (.cells #[] 44)
      have hs0 : ((x.drewN d).alloc (.cells #[] 44)).heap.size = x.heap.size + 1 := by simp
      have d0 : ((x.drewN d).alloc (.cells #[] 44)).cell? ⟨m, 0, none⟩ = some (.int .i64 bits) := by rw [b0.cell hl]; exact c0
      clear hO0
      go_wp2_with fail
      refine (rsize_any bits _).mono ?_
      rintro e w1 ⟨rfl, rfl⟩
      rw [hss]
      generalize (x.drewN d).alloc (.cells #[] 44) = w1 at *
      have HS0 := hide hs0
      clear hs0
      go_wp2_with (at_make; refine wpList_make_full _ rfl _ _ 33 rfl w1.heap.size 32 i1 (.int .u64 0) 1 Try.underlying33 hi1 hy0 hy1 _ _ _ _ s rfl rfl rfl rfl ?b1 ?b2 (Nat.le_refl _) ?_)
      case b1 => rw [hy2]; omega
      case b2 => unfold maxLen; omega
      intro w2 hown hgrow
      have hown2 : w2.ownsRow w1.heap.size 32 1 (.slice (some ⟨w1.heap.size, 0, none⟩) s s) s (List.replicate s (.int .u64 0)) := by
        simpa [Value.cells, toList_madeCells_one] using hown
      have b2 : Below w1.heap.size w1 w2 := (Below.refl _ _).grown hgrow (Nat.le_refl _) (by simp)
      have HW : Hid (∀ j, j < s → w2.cell? ⟨w1.heap.size, j, none⟩ = some (.int .u64 0) ∧ w2.frozen? ⟨w1.heap.size, j, none⟩ = false) := fun j hj => ⟨by rw [hown2.cellAt j (by omega)]; simp [hj], hown2.frozenAt j⟩
      have hlb : w1.heap.size < w2.heap.size := World.block_lt_of_cell? w2 _ (HW.out 0 (by omega)).1
      have hO2 := own_below hO1 b2
      have bx2 : Below x.heap.size x w2 := b0.trans (b2.mono (by have := HS0.out; omega))
      have B3 := b2.alloc (by omega) (.cells #[.int .i64 (P : Int), .slice (some ⟨w1.heap.size, 0, none⟩) s s] 44)
      have B3x := bx2.alloc (by have := HS0.out; omega) (.cells #[.int .i64 (P : Int), .slice (some ⟨w1.heap.size, 0, none⟩) s s] 44)
      have hO3 : OutP (w2.alloc (.cells #[.int .i64 (P : Int), .slice (some ⟨w1.heap.size, 0, none⟩) s s] 44)) x.heap.size s (w2.alloc (.cells #[.int .i64 (P : Int), .slice (some ⟨w1.heap.size, 0, none⟩) s s] 44)) (.slice (some ⟨x.heap.size, 0, none⟩) 0 0) [] :=
        ⟨hO2.alloc _, fun k e => .inl (by have : x.heap.size = k := by simpa [Value.ownBlock] using e
                                          exact this.symm), Keeps.refl _ _⟩
      have p0 : (w2.alloc (.cells #[.int .i64 (P : Int), .slice (some ⟨w1.heap.size, 0, none⟩) s s] 44)).cell? ⟨w2.heap.size, 0, none⟩ = some (.int .i64 (P : Int)) := by simp
      have p1 : (w2.alloc (.cells #[.int .i64 (P : Int), .slice (some ⟨w1.heap.size, 0, none⟩) s s] 44)).cell? ⟨w2.heap.size, 1, none⟩ = some (.slice (some ⟨w1.heap.size, 0, none⟩) s s) := by simp
      have HW3 : Hid (∀ j, j < s → (w2.alloc (.cells #[.int .i64 (P : Int), .slice (some ⟨w1.heap.size, 0, none⟩) s s] 44)).cell? ⟨w1.heap.size, j, none⟩ = some (.int .u64 0) ∧ (w2.alloc (.cells #[.int .i64 (P : Int), .slice (some ⟨w1.heap.size, 0, none⟩) s s] 44)).frozen? ⟨w1.heap.size, j, none⟩ = false) := fun j hj => ⟨cell_alloc (HW.out j hj).1 _, frozen_alloc (HW.out j hj).2 hlb _⟩
      have hs3 : w2.heap.size < (w2.alloc (.cells #[.int .i64 (P : Int), .slice (some ⟨w1.heap.size, 0, none⟩) s s] 44)).heap.size := by simp
      go_wp2
      clear hO1 hO2 hown hown2 hgrow b0 b2 bx2 B3 d0 HW c0
      generalize w2.alloc (.cells #[.int .i64 (P : Int), .slice (some ⟨w1.heap.size, 0, none⟩) s s] 44) = w3 at *
      have H01 : x.heap.size + 1 = w1.heap.size := HS0.out.symm
      obtain ⟨h0, hh0⟩ : ∃ h0, Hid (x.heap.size = h0) := ⟨_, rfl⟩
      obtain ⟨lb, hlb'⟩ : ∃ lb, Hid (w1.heap.size = lb) := ⟨_, rfl⟩
      obtain ⟨bx, hbx⟩ : ∃ bx, Hid (w2.heap.size = bx) := ⟨_, rfl⟩
      have HE0 := hide (fun y v => HEND.out y v lb)
      rw [hh0.out, hlb'.out] at H01
      rw [hlb'.out, hbx.out] at hlb
      rw [hbx.out] at hs3
      rw [hlb'.out] at p1 HW3
      rw [hbx.out] at p0 p1
      rw [hh0.out] at hO3 hl B3x HV
      have HB3 := hide B3x
      have HTl := hide (HT.out lb)
      have HLl := hide (HLN.out lb)
      try rw [hh0.out]
      try rw [hlb'.out]
      try rw [hbx.out]
      clear HEND HT HLN HS0 B3x
      go_loopw [6, 7, 9] (fun vo vp vi wr => ∃ k : Nat, k ≤ L ∧ vi = .int .i64 k ∧ vp = .bool (insA (P, lb) (K.take k)).2 ∧ OutP w3 h0 s wr vo (insA (P, lb) (K.take k)).1) (fun _ _ vi _ => L - (intOf vi).toNat)
      case atStart => exact ⟨0, Nat.zero_le _, rfl, rfl, hO3⟩
      case round =>
        clear hO3
        obtain ⟨k, hk, rfl, rfl, hO⟩ := hrel
        have hne0 : bx ≠ h0 := by omega
        have hm0 : m ≠ h0 := by omega
        have b0 := hO.cell p0 hne0
        have b1 := hO.cell p1 hne0
        have e2 : w3.cell? ⟨m, 2, none⟩ = some (.slice ao L cap) := by rw [HB3.out.cell hl]; exact c2
        have d2 := hO.cell e2 hm0
        have HLk := HLl.out k
        rw [List.length_take, HLL.out] at HLk
        by_cases hlt : k < L
        · obtain ⟨g, rfl, -, q0, q1⟩ := HC.out k hlt
          have hg : g < h0 := HV.out g rfl (by omega)
          have a0 : w3.cell? ⟨g, k * 2, none⟩ = some (.int .i64 ((getK K k).1 : Int)) := by rw [HB3.out.cell hg]; exact q0
          have a1 : w3.cell? ⟨g, k * 2 + 1, none⟩ = some (.slice (some ⟨(getK K k).2, 0, none⟩) s s) := by rw [HB3.out.cell hg]; exact q1
          have r0 := hO.cell a0 (show g ≠ h0 by omega)
          have r1 := hO.cell a1 (show g ≠ h0 by omega)
          have HT2 := hide (HTl.out k hlt)
          generalize getK K k = it at *
          obtain ⟨ip, ib⟩ := it
          simp only at r0 r1
          generalize insA (P, lb) (K.take k) = st at *
          obtain ⟨lk, pk⟩ := st
          simp only at HLk hO
          have hlk : lk.length ≤ 1001 := by omega
          clear q0 q1 a0 a1 e2 HE0 HTl HLl
          cases pk with
          | true =>
            have HT1 : Hid (insA (P, lb) (K.take (k + 1)) = (lk ++ [(ip, ib)], true)) := HT2.out.trans (by simp [insS])
            clear HT2
            have hownyy2 := World.ownsRow.alloc hO.own (.cells #[.int .i64 (ip : Int), .slice (some ⟨ib, 0, none⟩) s s] 44)
            have hnewsy2 : ∀ j u, [Value.int .i64 (ip : Int), .slice (some ⟨ib, 0, none⟩) s s][j]? = some u → (wr.alloc (.cells #[.int .i64 (ip : Int), .slice (some ⟨ib, 0, none⟩) s s] 44)).cell? ((⟨wr.heap.size, 0, none⟩ : Addr).add j) = some u := cell_2 _ _ _ _
            go_wp2_with (at_builtin; refine wpList_append_lies _ rfl _ _ 38 rfl h0 44 i0 (.agg #[.int .i64 0, .slice none 0 0]) 2 32 Try.underlying38 hi0 hz0 hz1 hz2 rfl (by decide) _ _ _ rfl hownyy2 ⟨wr.heap.size, 0, none⟩ 1 1 [.int .i64 (ip : Int), .slice (some ⟨ib, 0, none⟩) s s] rfl rfl hnewsy2 two_cells (by decide) ?c3 ?c4 ?c5 (wr.heap.size + 1) (by simp) ?_)
            case c3 => unfold maxLen; omega
            case c4 => omega
            case c5 => have := hO.kp.size; first | omega | (simp; omega)
            intro gy2 capy2 y2 hown' hgrow hat' hlt'
            have Oy2 := OutP.step (x := (ip, ib)) hO hgrow (by first | exact hown' | (rw [List.length_append]; exact hown')) hat'
            clear hownyy2 hnewsy2 hown' hgrow hat' hlt'
            go_wp2
            go_roundw
            case rel => exact ⟨k + 1, by omega, by go_num, by rw [HT1.out], by rw [HT1.out]; exact Oy2⟩
            case measure => simp [intOf]; omega
          | false =>
            by_cases hpi : P < ip
            · have HT1 : Hid (insA (P, lb) (K.take (k + 1)) = (lk ++ [(P, lb)] ++ [(ip, ib)], true)) := HT2.out.trans (by simp [insS, hpi])
              clear HT2
              have hownyy1 := World.ownsRow.alloc hO.own (.cells #[.int .i64 (P : Int), .slice (some ⟨lb, 0, none⟩) s s] 44)
              have hnewsy1 : ∀ j u, [Value.int .i64 (P : Int), .slice (some ⟨lb, 0, none⟩) s s][j]? = some u → (wr.alloc (.cells #[.int .i64 (P : Int), .slice (some ⟨lb, 0, none⟩) s s] 44)).cell? ((⟨wr.heap.size, 0, none⟩ : Addr).add j) = some u := cell_2 _ _ _ _
              go_wp2_with (at_builtin; refine wpList_append_lies _ rfl _ _ 38 rfl h0 44 i0 (.agg #[.int .i64 0, .slice none 0 0]) 2 32 Try.underlying38 hi0 hz0 hz1 hz2 rfl (by decide) _ _ _ rfl hownyy1 ⟨wr.heap.size, 0, none⟩ 1 1 [.int .i64 (P : Int), .slice (some ⟨lb, 0, none⟩) s s] rfl rfl hnewsy1 two_cells (by decide) ?c3 ?c4 ?c5 (wr.heap.size + 1) (by simp) ?_)
              case c3 => unfold maxLen; omega
              case c4 => omega
              case c5 => have := hO.kp.size; first | omega | (simp; omega)
              intro gy1 capy1 y1 hown' hgrow hat' hlt'
              have Oy1 := OutP.step (x := (P, lb)) hO hgrow (by first | exact hown' | (rw [List.length_append]; exact hown')) hat'
              clear hownyy1 hnewsy1 hown' hgrow hat' hlt'
              have s0 : y1.cell? ⟨m, 2, none⟩ = some (.slice (some ⟨g, 0, none⟩) L cap) := Oy1.cell (by rw [HB3.out.cell hl]; exact c2) hm0
              have hg0 : g ≠ h0 := by omega
              have hgw3 : g < w3.heap.size := by have := HB3.out.size; have := hh0.out; omega
              have t0 : y1.cell? ⟨g, k * 2, none⟩ = some (.int .i64 (ip : Int)) := by rw [Oy1.kp.cell hgw3 hg0, ← hO.kp.cell hgw3 hg0]; exact r0
              have t1 : y1.cell? ⟨g, k * 2 + 1, none⟩ = some (.slice (some ⟨ib, 0, none⟩) s s) := by rw [Oy1.kp.cell hgw3 hg0, ← hO.kp.cell hgw3 hg0]; exact r1
              clear r0 r1 d2 b0 b1 hO
              have hownyy2 := World.ownsRow.alloc Oy1.own (.cells #[.int .i64 (ip : Int), .slice (some ⟨ib, 0, none⟩) s s] 44)
              have hnewsy2 : ∀ j u, [Value.int .i64 (ip : Int), .slice (some ⟨ib, 0, none⟩) s s][j]? = some u → (y1.alloc (.cells #[.int .i64 (ip : Int), .slice (some ⟨ib, 0, none⟩) s s] 44)).cell? ((⟨y1.heap.size, 0, none⟩ : Addr).add j) = some u := cell_2 _ _ _ _
              go_wp2_with (at_builtin; refine wpList_append_lies _ rfl _ _ 38 rfl h0 44 i0 (.agg #[.int .i64 0, .slice none 0 0]) 2 32 Try.underlying38 hi0 hz0 hz1 hz2 rfl (by decide) _ _ _ rfl hownyy2 ⟨y1.heap.size, 0, none⟩ 1 1 [.int .i64 (ip : Int), .slice (some ⟨ib, 0, none⟩) s s] rfl rfl hnewsy2 two_cells (by decide) ?c3 ?c4 ?c5 (y1.heap.size + 1) (by simp) ?_)
              case c3 => unfold maxLen; (first | omega | (simp; omega))
              case c4 => (first | omega | (simp; omega))
              case c5 => have := Oy1.kp.size; first | omega | (simp; omega)
              intro gy2 capy2 y2 hown' hgrow hat' hlt'
              have Oy2 := OutP.step (x := (ip, ib)) Oy1 hgrow (by first | exact hown' | (rw [List.length_append]; exact hown')) hat'
              clear hownyy2 hnewsy2 hown' hgrow hat' hlt'
              go_wp2
              go_roundw
              case rel => exact ⟨k + 1, by omega, by go_num, by rw [HT1.out], by rw [HT1.out]; simpa using Oy2⟩
              case measure => simp [intOf]; omega
            · have HT1 : Hid (insA (P, lb) (K.take (k + 1)) = (lk ++ [(ip, ib)], false)) := HT2.out.trans (by simp [insS, hpi])
              clear HT2
              have hownyy2 := World.ownsRow.alloc hO.own (.cells #[.int .i64 (ip : Int), .slice (some ⟨ib, 0, none⟩) s s] 44)
              have hnewsy2 : ∀ j u, [Value.int .i64 (ip : Int), .slice (some ⟨ib, 0, none⟩) s s][j]? = some u → (wr.alloc (.cells #[.int .i64 (ip : Int), .slice (some ⟨ib, 0, none⟩) s s] 44)).cell? ((⟨wr.heap.size, 0, none⟩ : Addr).add j) = some u := cell_2 _ _ _ _
              go_wp2_with (at_builtin; refine wpList_append_lies _ rfl _ _ 38 rfl h0 44 i0 (.agg #[.int .i64 0, .slice none 0 0]) 2 32 Try.underlying38 hi0 hz0 hz1 hz2 rfl (by decide) _ _ _ rfl hownyy2 ⟨wr.heap.size, 0, none⟩ 1 1 [.int .i64 (ip : Int), .slice (some ⟨ib, 0, none⟩) s s] rfl rfl hnewsy2 two_cells (by decide) ?c3 ?c4 ?c5 (wr.heap.size + 1) (by simp) ?_)
              case c3 => unfold maxLen; omega
              case c4 => omega
              case c5 => have := hO.kp.size; first | omega | (simp; omega)
              intro gy2 capy2 y2 hown' hgrow hat' hlt'
              have Oy2 := OutP.step (x := (ip, ib)) hO hgrow (by first | exact hown' | (rw [List.length_append]; exact hown')) hat'
              clear hownyy2 hnewsy2 hown' hgrow hat' hlt'
              go_wp2
              go_roundw
              case rel => exact ⟨k + 1, by omega, by go_num, by rw [HT1.out], by rw [HT1.out]; exact Oy2⟩
              case measure => simp [intOf]; omega
        · have e : L = k := by omega
          subst e
          rw [hALL.out] at hO HLk ⊢
          have HI : Hid (insL (P, lb) K = if (insA (P, lb) K).2 then (insA (P, lb) K).1 else (insA (P, lb) K).1 ++ [(P, lb)]) := rfl
          have HFIN : Hid (∀ (y : World) (v : Value), OutP w3 h0 s y v (insL (P, lb) K) → y.frozen? ⟨m, 2, none⟩ = false ∧ RbIs (y.setCell ⟨m, 2, none⟩ v) (More M x (y.setCell ⟨m, 2, none⟩ v)) m n bits (insL (P, lb) K) (fun b j => if b = lb then 0 else V b j) v ∧ Keeps M x (y.setCell ⟨m, 2, none⟩ v)) := fun y v hy => by
            have hlw : lb < w3.heap.size := by omega
            have hln : lb ≠ h0 := by omega
            have hmw : m < w3.heap.size := by have := HB3.out.size; have := hh0.out; omega
            have hB : Below x.heap.size x y := by
              rw [hh0.out]
              exact HB3.out.trans (hy.kp.below (by omega) (fun k e => by omega))
            refine ⟨by rw [hy.kp.frozen hmw hm0, HB3.out.frozen hl]; exact hf2, ?_⟩
            exact HE0.out y v hB (by have := hh0.out; omega) (fun e => by rcases hy.far lb e with h1 | h1 <;> omega) (fun j hj => ⟨hy.cell (HW3.out j hj).1 hln, by rw [hy.kp.frozen hlw hln]; exact (HW3.out j hj).2⟩) (by rw [hh0.out]; exact hy.own)
          have HLB : Hid (x.heap.size ≤ lb) := by have := hh0.out; simp only [Hid]; omega
          clear HE0 HTl HLl HC HV
          generalize hst : insA (P, lb) K = st at *
          obtain ⟨lk, pk⟩ := st
          simp only at HLk hO
          have hlk : lk.length ≤ 1001 := by omega
          cases pk with
          | true =>
            have hIL : insL (P, lb) K = lk := by rw [HI.out]; simp
            rw [hIL] at HFIN
            obtain ⟨aol, nl, capl, rfl⟩ : ∃ ao n cap, u6 = .slice ao n cap := by
              rcases hO.own.2 with ⟨h1, -⟩ | ⟨_, _, _, h1, -⟩
              · exact ⟨_, _, _, h1⟩
              · exact ⟨_, _, _, h1⟩
            obtain ⟨fz, HF1⟩ := HFIN.out wr _ hO
            have HFF := hide HF1
            clear HFIN HF1
            go_wp2
            go_ret
            refine ⟨rfl, ?_, HFF.out.2⟩
            have HX := HFF.out.1
            rw [← hIL] at HX
            exact ⟨lb, ⟨_, HX⟩, HLB.out⟩
          | false =>
            have hIL : insL (P, lb) K = lk ++ [(P, lb)] := by rw [HI.out]; simp
            rw [hIL] at HFIN
            have hownyy1 := World.ownsRow.alloc hO.own (.cells #[.int .i64 (P : Int), .slice (some ⟨lb, 0, none⟩) s s] 44)
            have hnewsy1 : ∀ j u, [Value.int .i64 (P : Int), .slice (some ⟨lb, 0, none⟩) s s][j]? = some u → (wr.alloc (.cells #[.int .i64 (P : Int), .slice (some ⟨lb, 0, none⟩) s s] 44)).cell? ((⟨wr.heap.size, 0, none⟩ : Addr).add j) = some u := cell_2 _ _ _ _
            go_wp2_with (at_builtin; refine wpList_append_lies _ rfl _ _ 38 rfl h0 44 i0 (.agg #[.int .i64 0, .slice none 0 0]) 2 32 Try.underlying38 hi0 hz0 hz1 hz2 rfl (by decide) _ _ _ rfl hownyy1 ⟨wr.heap.size, 0, none⟩ 1 1 [.int .i64 (P : Int), .slice (some ⟨lb, 0, none⟩) s s] rfl rfl hnewsy1 two_cells (by decide) ?c3 ?c4 ?c5 (wr.heap.size + 1) (by simp) ?_)
            case c3 => unfold maxLen; omega
            case c4 => omega
            case c5 => have := hO.kp.size; first | omega | (simp; omega)
            intro gy1 capy1 y1 hown' hgrow hat' hlt'
            have Oy1 := OutP.step (x := (P, lb)) hO hgrow (by first | exact hown' | (rw [List.length_append]; exact hown')) hat'
            clear hownyy1 hnewsy1 hown' hgrow hat' hlt'
            have s2 : y1.cell? ⟨m, 2, none⟩ = some (.slice ao L cap) := Oy1.cell (by rw [HB3.out.cell hl]; exact c2) hm0
            obtain ⟨fz, HF1⟩ := HFIN.out y1 _ Oy1
            have HFF := hide HF1
            clear HFIN HF1 Oy1 hO
            go_wp2
            go_ret
            exact ⟨rfl, ⟨lb, _, by rw [hIL]; exact HFF.out.1, HLB.out⟩, HFF.out.2⟩
end
end Go.Proofs.Ytkikfbndcaojjaa
