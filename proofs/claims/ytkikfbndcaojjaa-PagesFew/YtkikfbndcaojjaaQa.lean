/- The reference's buffer in memory; New, At, Find, Run. -/
import Derived.Test.YtkikfbndcaojjaaPd
namespace Go.Proofs.Ytkikfbndcaojjaa
open Go.RowKit
def oneV (s : Nat) (x : Nat × Nat) : List Value := [.int .i64 (x.1 : Int), .slice (some ⟨x.2, 0, none⟩) s s]
def onesV (s : Nat) (l : List (Nat × Nat)) : List Value := l.flatMap (oneV s)
theorem oneV_len (s : Nat) (x : Nat × Nat) : (oneV s x).length = 2 := rfl
theorem onesV_len (s : Nat) (l : List (Nat × Nat)) : (onesV s l).length = l.length * 2 := by
  induction l with
  | nil => rfl
  | cons a l ih => simp only [onesV, List.flatMap_cons, List.length_append, oneV_len, List.length_cons] at ih ⊢; omega
theorem onesV_snoc (s : Nat) (l : List (Nat × Nat)) (x : Nat × Nat) : onesV s (l ++ [x]) = onesV s l ++ [.int .i64 (x.1 : Int), .slice (some ⟨x.2, 0, none⟩) s s] := by simp [onesV, oneV]
theorem onesV_append (s : Nat) (l m : List (Nat × Nat)) : onesV s (l ++ m) = onesV s l ++ onesV s m := by simp [onesV]
def getK (l : List (Nat × Nat)) (k : Nat) : Nat × Nat := l.getD k (0, 0)
theorem getK_some {l : List (Nat × Nat)} {k : Nat} (h : k < l.length) : l[k]? = some (getK l k) := by simp [getK, List.getD_eq_getElem?_getD, h]
theorem getK_mem {l : List (Nat × Nat)} {k : Nat} (h : k < l.length) : getK l k ∈ l := List.mem_of_getElem? (getK_some h)
theorem onesV_get (s : Nat) (l : List (Nat × Nat)) (k : Nat) (h : k < l.length) : (onesV s l)[k * 2]? = some (.int .i64 ((getK l k).1 : Int)) ∧ (onesV s l)[k * 2 + 1]? = some (.slice (some ⟨(getK l k).2, 0, none⟩) s s) := by
  induction l generalizing k with
  | nil => simp at h
  | cons a l ih =>
    match k with
    | 0 => simp [onesV, oneV, getK]
    | k + 1 =>
      have := ih k (by simpa using h)
      have e : onesV s (a :: l) = .int .i64 (a.1 : Int) :: .slice (some ⟨a.2, 0, none⟩) s s :: onesV s l := rfl
      have g : getK (a :: l) (k + 1) = getK l k := by simp [getK]
      rw [e, g, show (k + 1) * 2 = k * 2 + 1 + 1 by omega]
      simpa using this
/-- The reference's buffer: its struct in block m, its pages as the row vl; page x.1's words in block x.2. -/
structure RbIs (w : World) (M : Nat → Prop) (m n : Nat) (bits : Int) (K : List (Nat × Nat)) (V : Nat → Nat → Int) (vl : Value) : Prop where
  c0 : w.cell? ⟨m, 0, none⟩ = some (.int .i64 bits)
  c1 : w.cell? ⟨m, 1, none⟩ = some (.int .i64 (n : Int))
  c2 : w.cell? ⟨m, 2, none⟩ = some vl
  f2 : w.frozen? ⟨m, 2, none⟩ = false
  hn : 2 ≤ n ∧ n ≤ 8
  hb : 5 ≤ bits ∧ bits ≤ 9
  own : w.ownsRow 0 44 2 vl K.length (onesV (sizeN bits) K)
  sm : M m
  sv : ∀ k, vl.ownBlock = some k → M k ∧ k ≠ m
  wd : ∀ x ∈ K, M x.2 ∧ x.2 ≠ m ∧ vl.ownBlock ≠ some x.2 ∧ x.1 ≤ 9223372036854775807
  ws : ∀ x ∈ K, ∀ j, j < sizeN bits → w.cell? ⟨x.2, j, none⟩ = some (.int .u64 (V x.2 j)) ∧ w.frozen? ⟨x.2, j, none⟩ = false
  nd : (K.map Prod.snd).Nodup
section
variable {w w' : World} {M T : Nat → Prop} {m n : Nat} {bits : Int} {K : List (Nat × Nat)} {V : Nat → Nat → Int} {vl : Value}
theorem RbIs.lt (h : RbIs w M m n bits K V vl) : m < w.heap.size := World.block_lt_of_cell? w _ h.c0
theorem RbIs.keep (h : RbIs w M m n bits K V vl) (hk : Keeps T w w') (hT : ∀ k, M k → ¬ T k) : RbIs w' M m n bits K V vl := by
  have km := hT m h.sm
  refine ⟨by rw [hk.cell h.lt km]; exact h.c0, by rw [hk.cell h.lt km]; exact h.c1, by rw [hk.cell h.lt km]; exact h.c2, by rw [hk.frozen h.lt km]; exact h.f2, h.hn, h.hb, own_keep h.own hk (fun g e => hT g (h.sv g e).1), h.sm, h.sv, h.wd, fun x hx j hj => ?_, h.nd⟩
  obtain ⟨h1, h2⟩ := h.ws x hx j hj
  have hl : x.2 < w.heap.size := World.block_lt_of_cell? w _ h1
  have kx := hT x.2 (h.wd x hx).1
  exact ⟨by rw [hk.cell hl kx]; exact h1, by rw [hk.frozen hl kx]; exact h2⟩
theorem RbIs.below (h : RbIs w M m n bits K V vl) (hb : Below w.heap.size w w') : RbIs w' M m n bits K V vl := h.keep (Below.keeps (S := fun _ => False) hb) (fun _ _ => id)
theorem RbIs.wider (h : RbIs w M m n bits K V vl) (hT : ∀ k, M k → T k) : RbIs w T m n bits K V vl :=
  ⟨h.c0, h.c1, h.c2, h.f2, h.hn, h.hb, h.own, hT _ h.sm, fun k e => ⟨hT _ (h.sv k e).1, (h.sv k e).2⟩, fun x hx => ⟨hT _ (h.wd x hx).1, (h.wd x hx).2⟩, h.ws, h.nd⟩
/-- The row as a slice, and its cells. -/
theorem RbIs.form (h : RbIs w M m n bits K V vl) : ∃ ao cap, vl = .slice ao K.length cap ∧ K.length ≤ cap ∧ cap ≤ 9223372036854775807 ∧ ∀ k, k < K.length → ∃ g, ao = some ⟨g, 0, none⟩ ∧ vl.ownBlock = some g ∧
    w.cell? ⟨g, k * 2, none⟩ = some (.int .i64 ((getK K k).1 : Int)) ∧ w.cell? ⟨g, k * 2 + 1, none⟩ = some (.slice (some ⟨(getK K k).2, 0, none⟩) (sizeN bits) (sizeN bits)) := by
  have h' := h.own
  rcases h'.2 with ⟨h1, h0⟩ | ⟨g, cap, cur, hv, _, hg, hc, hm, _⟩
  · exact ⟨none, 0, by rw [h1, h0], by omega, by omega, fun i hi => by omega⟩
  · refine ⟨_, _, hv, hc, by unfold maxLen at hm; exact hm, fun k hk => ⟨g, rfl, by rw [hv]; rfl, ?_⟩⟩
    obtain ⟨g1, g2⟩ := onesV_get (sizeN bits) K k hk
    have c1 := h'.cells (g := g) (by rw [hv]; rfl) _ _ g1
    have c2 := h'.cells (g := g) (by rw [hv]; rfl) _ _ g2
    have hadd : ∀ i, (⟨g, 0, none⟩ : Addr).add i = ⟨g, i, none⟩ := fun i => by unfold Addr.add; split <;> simp_all
    rw [hadd] at c1 c2
    exact ⟨c1, c2⟩
end
section
variable {w : World} {M : Nat → Prop} {m n : Nat} {bits : Int} {K : List (Nat × Nat)} {V : Nat → Nat → Int} {vl : Value}
set_option maxHeartbeats 400000 in
theorem rb_at_yes (h : RbIs w M m n bits K V vl) (i : Nat) (hi : i < K.length) (P : Nat) (hP : (getK K i).1 = P) (hfirst : ∀ j, j < i → (getK K j).1 ≠ P) :
    Calls Try.prog 12 #[.pointer (some ⟨m, 0, none⟩), .int .i64 (P : Int)] w fun e w' => e = .returned (.int .i64 (i : Int)) ∧ w' = w := by
  obtain ⟨ao, cap, hv, hc1, hc2, hcells⟩ := h.form
  have c2 := h.c2
  rw [hv] at c2
  have HC := hide hcells
  have HF := hide hfirst
  clear h hcells hv hfirst
  generalize hLL : K.length = L at *
  have HLL := hide hLL
  clear hLL
  go_enter Try.func12, Try.ntmps12
  go_wp2
  go_loop [5] (fun vi => ∃ k : Nat, k ≤ i ∧ vi = .int .i64 k) (fun vi => L - (intOf vi).toNat)
  case atStart => exact ⟨0, Nat.zero_le _, rfl⟩
  case round =>
    obtain ⟨k, hk, rfl⟩ := hrel
    have hkl : k < L := by omega
    obtain ⟨g, rfl, -, q0, -⟩ := HC.out k hkl
    by_cases e : k = i
    · subst e
      rw [hP] at q0
      go_wp2
      go_ret
      exact ⟨rfl, rfl⟩
    · have hne := HF.out k (by omega)
      generalize (getK K k).1 = p at *
      have hX : ((p : Int) == (P : Int)) = false := by simp; omega
      go_wp2
      go_round
      case rel => exact ⟨k + 1, by omega, by go_num⟩
      case measure => simp [intOf]; omega
set_option maxHeartbeats 400000 in
theorem rb_at_no (h : RbIs w M m n bits K V vl) (page : Int) (hno : ∀ j, j < K.length → ((getK K j).1 : Int) ≠ page) :
    Calls Try.prog 12 #[.pointer (some ⟨m, 0, none⟩), .int .i64 page] w fun e w' => e = .returned (.int .i64 (-1)) ∧ w' = w := by
  obtain ⟨ao, cap, hv, hc1, hc2, hcells⟩ := h.form
  have c2 := h.c2
  rw [hv] at c2
  have HC := hide hcells
  have HF := hide hno
  clear h hcells hv hno
  generalize hLL : K.length = L at *
  have HLL := hide hLL
  clear hLL
  go_enter Try.func12, Try.ntmps12
  go_wp2
  go_loop [5] (fun vi => ∃ k : Nat, k ≤ L ∧ vi = .int .i64 k) (fun vi => L - (intOf vi).toNat)
  case atStart => exact ⟨0, Nat.zero_le _, rfl⟩
  case round =>
    obtain ⟨k, hk, rfl⟩ := hrel
    by_cases hkl : k < L
    · obtain ⟨g, rfl, -, q0, -⟩ := HC.out k hkl
      have hne := HF.out k hkl
      generalize (getK K k).1 = p at *
      have hX : ((p : Int) == page) = false := by simp; exact hne
      clear hne
      go_wp2
      go_round
      case rel => exact ⟨k + 1, by omega, by go_num⟩
      case measure => simp [intOf]; omega
    · go_wp2
      go_ret
      exact ⟨rfl, rfl⟩
theorem rb_new_no (bits frames : Int) (h : ¬ (5 ≤ bits ∧ bits ≤ 9) ∨ frames < 2 ∨ 8 < frames) (w : World) :
    Calls Try.prog 8 #[.int .i64 bits, .int .i64 frames] w fun e w' => e = .returned (.tuple #[.pointer none, .int .i64 1]) ∧ w' = w := by
  by_cases hm : 5 ≤ bits ∧ bits ≤ 9
  · have hp := sizeN_pos hm
    have hz : ((sizeN bits : Int) == 0) = false := by simp; omega
    have h2 : frames < 2 ∨ 8 < frames := by omega
    clear h
    by_cases h3 : frames < 2
    · clear h2
      go_enter Try.func8, Try.ntmps8
      go_wp2_with fail
      refine (rsize_any _ _).mono ?_
      rintro e x ⟨rfl, rfl⟩
      go_wp2
      go_ret2
      exact ⟨rfl, rfl⟩
    · have h8 : 8 < frames := by omega
      clear h2
      go_enter Try.func8, Try.ntmps8
      go_wp2_with fail
      refine (rsize_any _ _).mono ?_
      rintro e x ⟨rfl, rfl⟩
      go_wp2
      go_ret2
      exact ⟨rfl, rfl⟩
  · clear h
    go_enter Try.func8, Try.ntmps8
    go_wp2_with fail
    refine (rsize_any _ _).mono ?_
    rintro e x ⟨rfl, rfl⟩
    rw [sizeN_no hm]
    go_wp2
    go_ret2
    exact ⟨rfl, rfl⟩
theorem rb_new_yes (bits : Int) (n : Nat) (hb : 5 ≤ bits ∧ bits ≤ 9) (hn : 2 ≤ n ∧ n ≤ 8) (V : Nat → Nat → Int) (w : World) :
    Calls Try.prog 8 #[.int .i64 bits, .int .i64 (n : Int)] w fun e w' => e = .returned (.tuple #[.pointer (some ⟨w.heap.size, 0, none⟩), .int .i64 0]) ∧ RbIs w' (fun k => k = w.heap.size) w.heap.size n bits [] V (.slice none 0 0) ∧ w'.heap.size = w.heap.size + 1 ∧ Below w.heap.size w w' := by
  have hp := sizeN_pos hb
  have hz : ((sizeN bits : Int) == 0) = false := by simp; omega
  go_enter Try.func8, Try.ntmps8
  go_wp2_with fail
  refine (rsize_any _ _).mono ?_
  rintro e x ⟨rfl, rfl⟩
  go_wp2
  go_ret2
  refine ⟨rfl, ⟨by simp, by simp, by simp, by simp, hn, hb, World.ownsRow_nil _ _ _ _, rfl, fun k e => by simp [Value.ownBlock] at e, fun x hx => by simp at hx, fun x hx => by simp at hx, by simp⟩, by simp, (Below.refl _ _).alloc (Nat.le_refl _) _⟩
set_option maxHeartbeats 400000 in
theorem rb_find_yes (h : RbIs w M m n bits K V vl) (a : Nat) (ha : a ≤ 281474976710655) (i : Nat) (hi : i < K.length) (hP : (getK K i).1 = pageN bits a) (hfirst : ∀ j, j < i → (getK K j).1 ≠ pageN bits a) :
    Calls Try.prog 43 #[.pointer (some ⟨m, 0, none⟩), .int .u64 (a : Int)] w fun e w' => e = .returned (.int .i64 (i : Int)) ∧ w' = w := by
  have hat := rb_at_yes h i hi _ hP hfirst
  have c0 := h.c0
  clear h hP hfirst
  go_enter Try.func43, Try.ntmps43
  go_wp2_with fail
  refine (rpage_any bits a _ (by omega)).mono ?_
  rintro e x ⟨rfl, rfl⟩
  go_wp2_with fail
  refine hat.mono ?_
  rintro e x1 ⟨rfl, rfl⟩
  go_wp2
  go_ret
  exact ⟨rfl, rfl⟩
set_option maxHeartbeats 400000 in
theorem rb_find_no (h : RbIs w M m n bits K V vl) (a : Nat) (ha : a < 18446744073709551616) (hno : a ≤ 281474976710655 → ∀ j, j < K.length → (getK K j).1 ≠ pageN bits a) :
    Calls Try.prog 43 #[.pointer (some ⟨m, 0, none⟩), .int .u64 (a : Int)] w fun e w' => e = .returned (.int .i64 (-1)) ∧ w' = w := by
  by_cases hM : a ≤ 281474976710655
  · have hat := rb_at_no h (pageN bits a : Int) (fun j hj e => hno hM j hj (by omega))
    have c0 := h.c0
    clear h hno
    go_enter Try.func43, Try.ntmps43
    go_wp2_with fail
    refine (rpage_any bits a _ (by omega)).mono ?_
    rintro e x ⟨rfl, rfl⟩
    go_wp2_with fail
    refine hat.mono ?_
    rintro e x1 ⟨rfl, rfl⟩
    go_wp2
    go_ret
    exact ⟨rfl, rfl⟩
  · clear h hno
    go_enter Try.func43, Try.ntmps43
    go_wp2
    go_ret
    exact ⟨rfl, rfl⟩
theorem ret_three {a b c d e f : Int} (h1 : a = b) (h2 : c = d) (h3 : e = f) : Ending.returned (.tuple #[.int .i64 a, .int .i64 c, .int .i64 e]) = .returned (.tuple #[.int .i64 b, .int .i64 d, .int .i64 f]) := by rw [h1, h2, h3]
set_option maxHeartbeats 400000 in
theorem rb_run_yes (h : RbIs w M m n bits K V vl) (a : Nat) (ha : a ≤ 281474976710655) (i : Nat) (hi : i < K.length) (hP : (getK K i).1 = pageN bits a) (hfirst : ∀ j, j < i → (getK K j).1 ≠ pageN bits a) (k : Int) (hk : fitsB bits a k = true) :
    Calls Try.prog 26 #[.pointer (some ⟨m, 0, none⟩), .int .u64 (a : Int), .int .i64 k] w fun e w' => e = .returned (.tuple #[.int .i64 (i : Int), .int .i64 (offN bits a : Int), .int .i64 0]) ∧ w' = w := by
  have hf := rb_find_yes h a ha i hi hP hfirst
  have c0 := h.c0
  have hk1 : 1 ≤ k ∧ k ≤ (roomN bits a : Int) := by unfold fitsB at hk; simpa using hk
  obtain ⟨k1, k2⟩ := hk1
  clear h hP hfirst hk
  go_enter Try.func26, Try.ntmps26
  go_wp2_with fail
  refine hf.mono ?_
  rintro e x ⟨rfl, rfl⟩
  go_wp2_with fail
  refine (rroom_any bits a _ (by omega)).mono ?_
  rintro e x1 ⟨rfl, rfl⟩
  go_wp2_with fail
  refine (roff_any bits a _ (by omega)).mono ?_
  rintro e x2 ⟨rfl, rfl⟩
  go_wp2
  go_ret3
  exact ⟨rfl, rfl⟩
set_option maxHeartbeats 400000 in
theorem rb_run_arg (h : RbIs w M m n bits K V vl) (a : Nat) (ha : a ≤ 281474976710655) (i : Nat) (hi : i < K.length) (hP : (getK K i).1 = pageN bits a) (hfirst : ∀ j, j < i → (getK K j).1 ≠ pageN bits a) (k : Int) (hk : fitsB bits a k = false) :
    Calls Try.prog 26 #[.pointer (some ⟨m, 0, none⟩), .int .u64 (a : Int), .int .i64 k] w fun e w' => e = .returned (.tuple #[.int .i64 0, .int .i64 0, .int .i64 1]) ∧ w' = w := by
  have hf := rb_find_yes h a ha i hi hP hfirst
  have c0 := h.c0
  have hk1 : ¬ (1 ≤ k ∧ k ≤ (roomN bits a : Int)) := by unfold fitsB at hk; simpa only [decide_eq_false_iff_not] using hk
  clear h hP hfirst hk
  by_cases h1 : 1 ≤ k
  · have h2 : (roomN bits a : Int) < k := by omega
    clear hk1
    go_enter Try.func26, Try.ntmps26
    go_wp2_with fail
    refine hf.mono ?_
    rintro e x ⟨rfl, rfl⟩
    go_wp2_with fail
    refine (rroom_any bits a _ (by omega)).mono ?_
    rintro e x1 ⟨rfl, rfl⟩
    go_wp2
    go_ret3
    exact ⟨rfl, rfl⟩
  · clear hk1
    go_enter Try.func26, Try.ntmps26
    go_wp2_with fail
    refine hf.mono ?_
    rintro e x ⟨rfl, rfl⟩
    go_wp2
    go_ret3
    exact ⟨rfl, rfl⟩
set_option maxHeartbeats 400000 in
theorem rb_run_no (h : RbIs w M m n bits K V vl) (a : Nat) (ha : a < 18446744073709551616) (hno : a ≤ 281474976710655 → ∀ j, j < K.length → (getK K j).1 ≠ pageN bits a) (k : Int) :
    Calls Try.prog 26 #[.pointer (some ⟨m, 0, none⟩), .int .u64 (a : Int), .int .i64 k] w fun e w' => e = .returned (.tuple #[.int .i64 0, .int .i64 0, .int .i64 7]) ∧ w' = w := by
  have hf := rb_find_no h a ha hno
  clear h hno
  go_enter Try.func26, Try.ntmps26
  go_wp2_with fail
  refine hf.mono ?_
  rintro e x ⟨rfl, rfl⟩
  go_wp2
  go_ret3
  exact ⟨rfl, rfl⟩
end
end Go.Proofs.Ytkikfbndcaojjaa
