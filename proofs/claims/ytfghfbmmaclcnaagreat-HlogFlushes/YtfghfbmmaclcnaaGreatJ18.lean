/- Parts of the proof: Qa Qb Qc Qd Qe. -/
import Derived.Test.YtfghfbmmaclcnaaGreatJ17
namespace Go.Proofs.YtfghfbmmaclcnaaGreat
set_option maxRecDepth 20000
open Go.RowKit
def oneV (s : Nat) (x : Nat × Nat) : List Value := [.int .i64 (x.1 : Int), .slice (some ⟨x.2, 0, none⟩) s s]
def onesV (s : Nat) (l : List (Nat × Nat)) : List Value := l.flatMap (oneV s)
theorem oneV_len (s : Nat) (x : Nat × Nat) : (oneV s x).length = 2 := rfl
theorem onesV_len (s : Nat) (l : List (Nat × Nat)) : (onesV s l).length = l.length * 2 := by
  induction l with
  | nil => rfl
  | cons a l ih => simp only [onesV, List.flatMap_cons, List.length_append, oneV_len, List.length_cons] at ih ⊢; omega
theorem onesV_snoc (s : Nat) (l : List (Nat × Nat)) (x : Nat × Nat) : onesV s (l ++ [x]) = onesV s l ++ [.int .i64 (x.1 : Int), .slice (some ⟨x.2, 0, none⟩) s s] := by simp [onesV, oneV]
theorem onesV_append (s : Nat) (l m : List (Nat × Nat)) : onesV s (l ++ m) = onesV s l ++ onesV s m := by simp [onesV]
def getK (l : List (Nat × Nat)) (k : Nat) : Nat × Nat := l.getD k (0, 0)
theorem getK_some {l : List (Nat × Nat)} {k : Nat} (h : k < l.length) : l[k]? = some (getK l k) := by simp [getK, List.getD_eq_getElem?_getD, h]
theorem getK_mem {l : List (Nat × Nat)} {k : Nat} (h : k < l.length) : getK l k ∈ l := List.mem_of_getElem? (getK_some h)
theorem onesV_get (s : Nat) (l : List (Nat × Nat)) (k : Nat) (h : k < l.length) : (onesV s l)[k * 2]? = some (.int .i64 ((getK l k).1 : Int)) ∧ (onesV s l)[k * 2 + 1]? = some (.slice (some ⟨(getK l k).2, 0, none⟩) s s) := by
  induction l generalizing k with
  | nil => simp at h
  | cons a l ih =>
    match k with
    | 0 => simp [onesV, oneV, getK]
    | k + 1 =>
      have := ih k (by simpa using h)
      have e : onesV s (a :: l) = .int .i64 (a.1 : Int) :: .slice (some ⟨a.2, 0, none⟩) s s :: onesV s l := rfl
      have g : getK (a :: l) (k + 1) = getK l k := by simp [getK]
      rw [e, g, show (k + 1) * 2 = k * 2 + 1 + 1 by omega]
      simpa using this
/-- The reference's buffer: its struct in block m, its pages as the row vl; page x.1's words in block x.2. -/
structure RbIs (w : World) (M : Nat → Prop) (m n : Nat) (bits : Int) (K : List (Nat × Nat)) (V : Nat → Nat → Int) (vl : Value) : Prop where
  c0 : w.cell? ⟨m, 0, none⟩ = some (.int .i64 bits)
  c1 : w.cell? ⟨m, 1, none⟩ = some (.int .i64 (n : Int))
  c2 : w.cell? ⟨m, 2, none⟩ = some vl
  f2 : w.frozen? ⟨m, 2, none⟩ = false
  hn : 2 ≤ n ∧ n ≤ 8
  hb : 5 ≤ bits ∧ bits ≤ 9
  own : w.ownsRow 0 97 2 vl K.length (onesV (sizeN bits) K)
  sm : M m
  sv : ∀ k, vl.ownBlock = some k → M k ∧ k ≠ m
  wd : ∀ x ∈ K, M x.2 ∧ x.2 ≠ m ∧ vl.ownBlock ≠ some x.2 ∧ x.1 ≤ 9223372036854775807
  ws : ∀ x ∈ K, ∀ j, j < sizeN bits → w.cell? ⟨x.2, j, none⟩ = some (.int .u64 (V x.2 j)) ∧ w.frozen? ⟨x.2, j, none⟩ = false
  nd : (K.map Prod.snd).Nodup
section
variable {w w' : World} {M T : Nat → Prop} {m n : Nat} {bits : Int} {K : List (Nat × Nat)} {V : Nat → Nat → Int} {vl : Value}
theorem RbIs.lt (h : RbIs w M m n bits K V vl) : m < w.heap.size := World.block_lt_of_cell? w _ h.c0
theorem RbIs.keep (h : RbIs w M m n bits K V vl) (hk : Keeps T w w') (hT : ∀ k, M k → ¬ T k) : RbIs w' M m n bits K V vl := by
  have km := hT m h.sm
  refine ⟨by rw [hk.cell h.lt km]; exact h.c0, by rw [hk.cell h.lt km]; exact h.c1, by rw [hk.cell h.lt km]; exact h.c2, by rw [hk.frozen h.lt km]; exact h.f2, h.hn, h.hb, own_keep h.own hk (fun g e => hT g (h.sv g e).1), h.sm, h.sv, h.wd, fun x hx j hj => ?_, h.nd⟩
  obtain ⟨h1, h2⟩ := h.ws x hx j hj
  have hl : x.2 < w.heap.size := World.block_lt_of_cell? w _ h1
  have kx := hT x.2 (h.wd x hx).1
  exact ⟨by rw [hk.cell hl kx]; exact h1, by rw [hk.frozen hl kx]; exact h2⟩
theorem RbIs.below (h : RbIs w M m n bits K V vl) (hb : Below w.heap.size w w') : RbIs w' M m n bits K V vl := h.keep (Below.keeps (S := fun _ => False) hb) (fun _ _ => id)
theorem RbIs.wider (h : RbIs w M m n bits K V vl) (hT : ∀ k, M k → T k) : RbIs w T m n bits K V vl :=
  ⟨h.c0, h.c1, h.c2, h.f2, h.hn, h.hb, h.own, hT _ h.sm, fun k e => ⟨hT _ (h.sv k e).1, (h.sv k e).2⟩, fun x hx => ⟨hT _ (h.wd x hx).1, (h.wd x hx).2⟩, h.ws, h.nd⟩
/-- The row as a slice, and its cells. -/
theorem RbIs.form (h : RbIs w M m n bits K V vl) : ∃ ao cap, vl = .slice ao K.length cap ∧ K.length ≤ cap ∧ cap ≤ 9223372036854775807 ∧ ∀ k, k < K.length → ∃ g, ao = some ⟨g, 0, none⟩ ∧ vl.ownBlock = some g ∧
    w.cell? ⟨g, k * 2, none⟩ = some (.int .i64 ((getK K k).1 : Int)) ∧ w.cell? ⟨g, k * 2 + 1, none⟩ = some (.slice (some ⟨(getK K k).2, 0, none⟩) (sizeN bits) (sizeN bits)) := by
  have h' := h.own
  rcases h'.2 with ⟨h1, h0⟩ | ⟨g, cap, cur, hv, _, hg, hc, hm, _⟩
  · exact ⟨none, 0, by rw [h1, h0], by omega, by omega, fun i hi => by omega⟩
  · refine ⟨_, _, hv, hc, by unfold maxLen at hm; exact hm, fun k hk => ⟨g, rfl, by rw [hv]; rfl, ?_⟩⟩
    obtain ⟨g1, g2⟩ := onesV_get (sizeN bits) K k hk
    have c1 := h'.cells (g := g) (by rw [hv]; rfl) _ _ g1
    have c2 := h'.cells (g := g) (by rw [hv]; rfl) _ _ g2
    have hadd : ∀ i, (⟨g, 0, none⟩ : Addr).add i = ⟨g, i, none⟩ := fun i => by unfold Addr.add; split <;> simp_all
    rw [hadd] at c1 c2
    exact ⟨c1, c2⟩
end
section
variable {w : World} {M : Nat → Prop} {m n : Nat} {bits : Int} {K : List (Nat × Nat)} {V : Nat → Nat → Int} {vl : Value}
set_option maxHeartbeats 400000 in
theorem rb_at_yes (h : RbIs w M m n bits K V vl) (i : Nat) (hi : i < K.length) (P : Nat) (hP : (getK K i).1 = P) (hfirst : ∀ j, j < i → (getK K j).1 ≠ P) :
    Calls Tryz.prog 115 #[.pointer (some ⟨m, 0, none⟩), .int .i64 (P : Int)] w fun e w' => e = .returned (.int .i64 (i : Int)) ∧ w' = w := by
  obtain ⟨ao, cap, hv, hc1, hc2, hcells⟩ := h.form
  have c2 := h.c2
  rw [hv] at c2
  have HC := hide hcells
  have HF := hide hfirst
  clear h hcells hv hfirst
  generalize hLL : K.length = L at *
  have HLL := hide hLL
  clear hLL
  go_enter Tryz.func115, Tryz.ntmps115
  go_wp2
  go_loop [5] (fun vi => ∃ k : Nat, k ≤ i ∧ vi = .int .i64 k) (fun vi => L - (intOf vi).toNat)
  case atStart => exact ⟨0, Nat.zero_le _, rfl⟩
  case round =>
    obtain ⟨k, hk, rfl⟩ := hrel
    have hkl : k < L := by omega
    obtain ⟨g, rfl, -, q0, -⟩ := HC.out k hkl
    by_cases e : k = i
    · subst e
      rw [hP] at q0
      go_wp2
      go_ret
      exact ⟨rfl, rfl⟩
    · have hne := HF.out k (by omega)
      generalize (getK K k).1 = p at *
      have hX : ((p : Int) == (P : Int)) = false := by simp; omega
      go_wp2
      go_round
      case rel => exact ⟨k + 1, by omega, by go_num⟩
      case measure => simp [intOf]; omega
set_option maxHeartbeats 400000 in
theorem rb_at_no (h : RbIs w M m n bits K V vl) (page : Int) (hno : ∀ j, j < K.length → ((getK K j).1 : Int) ≠ page) :
    Calls Tryz.prog 115 #[.pointer (some ⟨m, 0, none⟩), .int .i64 page] w fun e w' => e = .returned (.int .i64 (-1)) ∧ w' = w := by
  obtain ⟨ao, cap, hv, hc1, hc2, hcells⟩ := h.form
  have c2 := h.c2
  rw [hv] at c2
  have HC := hide hcells
  have HF := hide hno
  clear h hcells hv hno
  generalize hLL : K.length = L at *
  have HLL := hide hLL
  clear hLL
  go_enter Tryz.func115, Tryz.ntmps115
  go_wp2
  go_loop [5] (fun vi => ∃ k : Nat, k ≤ L ∧ vi = .int .i64 k) (fun vi => L - (intOf vi).toNat)
  case atStart => exact ⟨0, Nat.zero_le _, rfl⟩
  case round =>
    obtain ⟨k, hk, rfl⟩ := hrel
    by_cases hkl : k < L
    · obtain ⟨g, rfl, -, q0, -⟩ := HC.out k hkl
      have hne := HF.out k hkl
      generalize (getK K k).1 = p at *
      have hX : ((p : Int) == page) = false := by simp; exact hne
      clear hne
      go_wp2
      go_round
      case rel => exact ⟨k + 1, by omega, by go_num⟩
      case measure => simp [intOf]; omega
    · go_wp2
      go_ret
      exact ⟨rfl, rfl⟩
theorem rb_new_no (bits frames : Int) (h : ¬ (5 ≤ bits ∧ bits ≤ 9) ∨ frames < 2 ∨ 8 < frames) (w : World) :
    Calls Tryz.prog 103 #[.int .i64 bits, .int .i64 frames] w fun e w' => e = .returned (.tuple #[.pointer none, .int .i64 1]) ∧ w' = w := by
  by_cases hm : 5 ≤ bits ∧ bits ≤ 9
  · have hp := sizeN_pos hm
    have hz : ((sizeN bits : Int) == 0) = false := by simp; omega
    have h2 : frames < 2 ∨ 8 < frames := by omega
    clear h
    by_cases h3 : frames < 2
    · clear h2
      go_enter Tryz.func103, Tryz.ntmps103
      go_wp2_with fail
      refine (rsize_any _ _).mono ?_
      rintro e x ⟨rfl, rfl⟩
      go_wp2
      go_ret2
      exact ⟨rfl, rfl⟩
    · have h8 : 8 < frames := by omega
      clear h2
      go_enter Tryz.func103, Tryz.ntmps103
      go_wp2_with fail
      refine (rsize_any _ _).mono ?_
      rintro e x ⟨rfl, rfl⟩
      go_wp2
      go_ret2
      exact ⟨rfl, rfl⟩
  · clear h
    go_enter Tryz.func103, Tryz.ntmps103
    go_wp2_with fail
    refine (rsize_any _ _).mono ?_
    rintro e x ⟨rfl, rfl⟩
    rw [sizeN_no hm]
    go_wp2
    go_ret2
    exact ⟨rfl, rfl⟩
theorem rb_new_yes (bits : Int) (n : Nat) (hb : 5 ≤ bits ∧ bits ≤ 9) (hn : 2 ≤ n ∧ n ≤ 8) (V : Nat → Nat → Int) (w : World) :
    Calls Tryz.prog 103 #[.int .i64 bits, .int .i64 (n : Int)] w fun e w' => e = .returned (.tuple #[.pointer (some ⟨w.heap.size, 0, none⟩), .int .i64 0]) ∧ RbIs w' (fun k => k = w.heap.size) w.heap.size n bits [] V (.slice none 0 0) ∧ w'.heap.size = w.heap.size + 1 ∧ Below w.heap.size w w' := by
  have hp := sizeN_pos hb
  have hz : ((sizeN bits : Int) == 0) = false := by simp; omega
  go_enter Tryz.func103, Tryz.ntmps103
  go_wp2_with fail
  refine (rsize_any _ _).mono ?_
  rintro e x ⟨rfl, rfl⟩
  go_wp2
  go_ret2
  refine ⟨rfl, ⟨by simp, by simp, by simp, by simp, hn, hb, World.ownsRow_nil _ _ _ _, rfl, fun k e => by simp [Value.ownBlock] at e, fun x hx => by simp at hx, fun x hx => by simp at hx, by simp⟩, by simp, (Below.refl _ _).alloc (Nat.le_refl _) _⟩
set_option maxHeartbeats 400000 in
theorem rb_find_yes (h : RbIs w M m n bits K V vl) (a : Nat) (ha : a ≤ 281474976710655) (i : Nat) (hi : i < K.length) (hP : (getK K i).1 = pageN bits a) (hfirst : ∀ j, j < i → (getK K j).1 ≠ pageN bits a) :
    Calls Tryz.prog 129 #[.pointer (some ⟨m, 0, none⟩), .int .u64 (a : Int)] w fun e w' => e = .returned (.int .i64 (i : Int)) ∧ w' = w := by
  have hat := rb_at_yes h i hi _ hP hfirst
  have c0 := h.c0
  clear h hP hfirst
  go_enter Tryz.func129, Tryz.ntmps129
  go_wp2_with fail
  refine (rpage_any bits a _ (by omega)).mono ?_
  rintro e x ⟨rfl, rfl⟩
  go_wp2_with fail
  refine hat.mono ?_
  rintro e x1 ⟨rfl, rfl⟩
  go_wp2
  go_ret
  exact ⟨rfl, rfl⟩
set_option maxHeartbeats 400000 in
theorem rb_find_no (h : RbIs w M m n bits K V vl) (a : Nat) (ha : a < 18446744073709551616) (hno : a ≤ 281474976710655 → ∀ j, j < K.length → (getK K j).1 ≠ pageN bits a) :
    Calls Tryz.prog 129 #[.pointer (some ⟨m, 0, none⟩), .int .u64 (a : Int)] w fun e w' => e = .returned (.int .i64 (-1)) ∧ w' = w := by
  by_cases hM : a ≤ 281474976710655
  · have hat := rb_at_no h (pageN bits a : Int) (fun j hj e => hno hM j hj (by omega))
    have c0 := h.c0
    clear h hno
    go_enter Tryz.func129, Tryz.ntmps129
    go_wp2_with fail
    refine (rpage_any bits a _ (by omega)).mono ?_
    rintro e x ⟨rfl, rfl⟩
    go_wp2_with fail
    refine hat.mono ?_
    rintro e x1 ⟨rfl, rfl⟩
    go_wp2
    go_ret
    exact ⟨rfl, rfl⟩
  · clear h hno
    go_enter Tryz.func129, Tryz.ntmps129
    go_wp2
    go_ret
    exact ⟨rfl, rfl⟩
theorem ret_three {a b c d e f : Int} (h1 : a = b) (h2 : c = d) (h3 : e = f) : Ending.returned (.tuple #[.int .i64 a, .int .i64 c, .int .i64 e]) = .returned (.tuple #[.int .i64 b, .int .i64 d, .int .i64 f]) := by rw [h1, h2, h3]
set_option maxHeartbeats 400000 in
theorem rb_run_yes (h : RbIs w M m n bits K V vl) (a : Nat) (ha : a ≤ 281474976710655) (i : Nat) (hi : i < K.length) (hP : (getK K i).1 = pageN bits a) (hfirst : ∀ j, j < i → (getK K j).1 ≠ pageN bits a) (k : Int) (hk : fitsB bits a k = true) :
    Calls Tryz.prog 54 #[.pointer (some ⟨m, 0, none⟩), .int .u64 (a : Int), .int .i64 k] w fun e w' => e = .returned (.tuple #[.int .i64 (i : Int), .int .i64 (offN bits a : Int), .int .i64 0]) ∧ w' = w := by
  have hf := rb_find_yes h a ha i hi hP hfirst
  have c0 := h.c0
  have hk1 : 1 ≤ k ∧ k ≤ (roomN bits a : Int) := by unfold fitsB at hk; simpa using hk
  obtain ⟨k1, k2⟩ := hk1
  clear h hP hfirst hk
  go_enter Tryz.func54, Tryz.ntmps54
  go_wp2_with fail
  refine hf.mono ?_
  rintro e x ⟨rfl, rfl⟩
  go_wp2_with fail
  refine (rroom_any bits a _ (by omega)).mono ?_
  rintro e x1 ⟨rfl, rfl⟩
  go_wp2_with fail
  refine (roff_any bits a _ (by omega)).mono ?_
  rintro e x2 ⟨rfl, rfl⟩
  go_wp2
  go_ret3
  exact ⟨rfl, rfl⟩
set_option maxHeartbeats 400000 in
theorem rb_run_arg (h : RbIs w M m n bits K V vl) (a : Nat) (ha : a ≤ 281474976710655) (i : Nat) (hi : i < K.length) (hP : (getK K i).1 = pageN bits a) (hfirst : ∀ j, j < i → (getK K j).1 ≠ pageN bits a) (k : Int) (hk : fitsB bits a k = false) :
    Calls Tryz.prog 54 #[.pointer (some ⟨m, 0, none⟩), .int .u64 (a : Int), .int .i64 k] w fun e w' => e = .returned (.tuple #[.int .i64 0, .int .i64 0, .int .i64 1]) ∧ w' = w := by
  have hf := rb_find_yes h a ha i hi hP hfirst
  have c0 := h.c0
  have hk1 : ¬ (1 ≤ k ∧ k ≤ (roomN bits a : Int)) := by unfold fitsB at hk; simpa only [decide_eq_false_iff_not] using hk
  clear h hP hfirst hk
  by_cases h1 : 1 ≤ k
  · have h2 : (roomN bits a : Int) < k := by omega
    clear hk1
    go_enter Tryz.func54, Tryz.ntmps54
    go_wp2_with fail
    refine hf.mono ?_
    rintro e x ⟨rfl, rfl⟩
    go_wp2_with fail
    refine (rroom_any bits a _ (by omega)).mono ?_
    rintro e x1 ⟨rfl, rfl⟩
    go_wp2
    go_ret3
    exact ⟨rfl, rfl⟩
  · clear hk1
    go_enter Tryz.func54, Tryz.ntmps54
    go_wp2_with fail
    refine hf.mono ?_
    rintro e x ⟨rfl, rfl⟩
    go_wp2
    go_ret3
    exact ⟨rfl, rfl⟩
set_option maxHeartbeats 400000 in
theorem rb_run_no (h : RbIs w M m n bits K V vl) (a : Nat) (ha : a < 18446744073709551616) (hno : a ≤ 281474976710655 → ∀ j, j < K.length → (getK K j).1 ≠ pageN bits a) (k : Int) :
    Calls Tryz.prog 54 #[.pointer (some ⟨m, 0, none⟩), .int .u64 (a : Int), .int .i64 k] w fun e w' => e = .returned (.tuple #[.int .i64 0, .int .i64 0, .int .i64 7]) ∧ w' = w := by
  have hf := rb_find_no h a ha hno
  clear h hno
  go_enter Tryz.func54, Tryz.ntmps54
  go_wp2_with fail
  refine hf.mono ?_
  rintro e x ⟨rfl, rfl⟩
  go_wp2
  go_ret3
  exact ⟨rfl, rfl⟩
end
end Go.Proofs.YtfghfbmmaclcnaaGreat
namespace Go.Proofs.YtfghfbmmaclcnaaGreat
set_option maxRecDepth 20000
open Go.RowKit
theorem Tryz.infoOne : (Tryz.prog.info? 97).map (fun i => (i.zero, i.size, i.bytes)) = some (some (.agg #[.int .i64 0, .slice none 0 0]), 2, 32) := by kernel_rfl
theorem ones_one (s : Nat) (l : List (Nat × Nat)) : ∀ u ∈ onesV s l, u.oneCell' = true := by
  intro u hu
  simp only [onesV, List.mem_flatMap] at hu
  obtain ⟨x, -, hx⟩ := hu
  simp [oneV] at hx
  rcases hx with rfl | rfl <;> rfl
theorem onesV_take (s : Nat) (l : List (Nat × Nat)) (i : Nat) : onesV s (l.take i) = (onesV s l).take (i * 2) := by
  induction l generalizing i with
  | nil => simp [onesV]
  | cons a l ih =>
    match i with
    | 0 => simp [onesV]
    | i + 1 =>
      have e : onesV s (a :: l) = .int .i64 (a.1 : Int) :: .slice (some ⟨a.2, 0, none⟩) s s :: onesV s l := rfl
      have e2 : onesV s (a :: l.take i) = .int .i64 (a.1 : Int) :: .slice (some ⟨a.2, 0, none⟩) s s :: onesV s (l.take i) := rfl
      rw [List.take_succ_cons, e, e2, ih, show (i + 1) * 2 = i * 2 + 1 + 1 by omega]
      rfl
theorem onesV_drop (s : Nat) (l : List (Nat × Nat)) (i : Nat) : onesV s (l.drop i) = (onesV s l).drop (i * 2) := by
  induction l generalizing i with
  | nil => simp [onesV]
  | cons a l ih =>
    match i with
    | 0 => simp [onesV]
    | i + 1 =>
      have e : onesV s (a :: l) = .int .i64 (a.1 : Int) :: .slice (some ⟨a.2, 0, none⟩) s s :: onesV s l := rfl
      rw [List.drop_succ_cons, e, ih, show (i + 1) * 2 = i * 2 + 1 + 1 by omega]
      rfl
section
variable {w y : World} {M : Nat → Prop} {m n : Nat} {bits : Int} {K K' : List (Nat × Nat)} {V V' : Nat → Nat → Int} {vl v : Value}
theorem RbIs.setL (h : RbIs w M m n bits K V vl) (hb : Below w.heap.size w y) (ho : y.ownsRow w.heap.size 97 2 v K'.length (onesV (sizeN bits) K'))
    (hK : ∀ x ∈ K', (x ∈ K ∧ ∀ j, V' x.2 j = V x.2 j) ∨ (w.heap.size ≤ x.2 ∧ x.1 ≤ 9223372036854775807 ∧ v.ownBlock ≠ some x.2 ∧ ∀ j, j < sizeN bits → y.cell? ⟨x.2, j, none⟩ = some (.int .u64 (V' x.2 j)) ∧ y.frozen? ⟨x.2, j, none⟩ = false)) (hnd : (K'.map Prod.snd).Nodup) :
    RbIs (y.setCell ⟨m, 2, none⟩ v) (More M w (y.setCell ⟨m, 2, none⟩ v)) m n bits K' V' v ∧ Keeps M w (y.setCell ⟨m, 2, none⟩ v) := by
  have hy := h.below hb
  have hl := h.lt
  have hsz : (y.setCell ⟨m, 2, none⟩ v).heap.size = y.heap.size := by simp [World.setCell]
  have K1 : Keeps (fun k => k = m) y (y.setCell ⟨m, 2, none⟩ v) := (Keeps.refl (fun k => k = m) y).setCell ⟨m, 2, none⟩ (fun _ => rfl) _
  have hov : ∀ k, v.ownBlock = some k → w.heap.size ≤ k ∧ k < y.heap.size := fun k e => ho.lt k e
  have hp := sizeN_pos h.hb
  have hx1 : ∀ x ∈ K', x.2 < y.heap.size ∧ x.2 ≠ m := fun x hx => by
    rcases hK x hx with ⟨h1, -⟩ | ⟨h1, -, -, h2⟩
    · exact ⟨World.block_lt_of_cell? y _ (hy.ws x h1 0 (by omega)).1, (h.wd x h1).2.1⟩
    · exact ⟨World.block_lt_of_cell? y _ (h2 0 (by omega)).1, by omega⟩
  refine ⟨⟨?_, ?_, World.cell?_setCell_same _ _ _ hy.c2, ?_, h.hn, h.hb, ?_, .inl h.sm, fun k e => ⟨.inr ⟨(hov k e).1, by rw [hsz]; exact (hov k e).2⟩, by have := (hov k e).1; omega⟩, fun x hx => ?_, fun x hx j hj => ?_, hnd⟩, (Below.keeps (S := M) hb).setCell _ (fun _ => h.sm) _⟩
  · rw [World.cell?_setCell_other _ _ _ _ (by simp)]; exact hy.c0
  · rw [World.cell?_setCell_other _ _ _ _ (by simp)]; exact hy.c1
  · rw [World.frozen?_setCell]; exact hy.f2
  · have ho' := own_keep ho K1 (fun k e e' => by have := (hov k e).1; omega)
    refine ⟨ho'.1, ?_⟩
    rcases ho'.2 with h1 | ⟨g', cap, cur, h1, h2, h3⟩
    · exact .inl h1
    · exact .inr ⟨g', cap, cur, h1, Nat.zero_le _, h3⟩
  · rcases hK x hx with ⟨h1, -⟩ | ⟨h1, h2, h3, -⟩
    · have hlx : x.2 < w.heap.size := World.block_lt_of_cell? w _ (h.ws x h1 0 (by omega)).1
      exact ⟨.inl (h.wd x h1).1, (h.wd x h1).2.1, fun e => by have := (hov _ e).1; omega, (h.wd x h1).2.2.2⟩
    · exact ⟨.inr ⟨h1, by rw [hsz]; exact (hx1 x hx).1⟩, (hx1 x hx).2, h3, h2⟩
  · rw [K1.cell (hx1 x hx).1 (hx1 x hx).2, K1.frozen (hx1 x hx).1 (hx1 x hx).2]
    rcases hK x hx with ⟨h1, h2⟩ | ⟨-, -, -, h2⟩
    · rw [h2 j]; exact hy.ws x h1 j hj
    · exact h2 j hj
end
section
variable {w : World} {M : Nat → Prop} {m n : Nat} {bits : Int} {K : List (Nat × Nat)} {V : Nat → Nat → Int} {vl : Value}
set_option maxHeartbeats 400000 in
theorem rb_close_no (h : RbIs w M m n bits K V vl) (page : Int) (hno : ∀ j, j < K.length → ((getK K j).1 : Int) ≠ page) :
    Calls Tryz.prog 109 #[.pointer (some ⟨m, 0, none⟩), .int .i64 page] w fun e w' => e = .returned (.int .i64 7) ∧ w' = w := by
  have hat := rb_at_no h page hno
  clear h hno
  go_enter Tryz.func109, Tryz.ntmps109
  go_wp2_with fail
  refine hat.mono ?_
  rintro e x ⟨rfl, rfl⟩
  go_wp2
  go_ret
  exact ⟨rfl, rfl⟩
set_option maxHeartbeats 2000000 in
set_option maxRecDepth 10000 in
theorem rb_close_yes (h : RbIs w M m n bits K V vl) (hfew : K.length ≤ 1000) (i : Nat) (hi : i < K.length) (P : Nat) (hP : (getK K i).1 = P) (hfirst : ∀ j, j < i → (getK K j).1 ≠ P) :
    Calls Tryz.prog 109 #[.pointer (some ⟨m, 0, none⟩), .int .i64 (P : Int)] w fun e w' => e = .returned (.int .i64 0) ∧ (∃ vl', RbIs w' (More M w w') m n bits (K.eraseIdx i) V vl') ∧ Keeps M w w' := by
  obtain ⟨i0, hi0, hz0, hz1, hz2⟩ := info_parts Tryz.infoOne
  have hat := rb_at_yes h i hi P hP hfirst
  have HEND : Hid (∀ (y : World) (v : Value) (len : Nat) (xs : List Value), Below w.heap.size w y → len = i + (K.length - (i + 1)) → xs = (onesV (sizeN bits) K).take (i * 2) ++ (onesV (sizeN bits) K).drop ((i + 1) * 2) → y.ownsRow w.heap.size 97 2 v len xs → RbIs (y.setCell ⟨m, 2, none⟩ v) (More M w (y.setCell ⟨m, 2, none⟩ v)) m n bits (K.eraseIdx i) V v ∧ Keeps M w (y.setCell ⟨m, 2, none⟩ v)) := by
    intro y v len xs hb h1 h2 ho
    subst h1 h2
    have e1 : K.eraseIdx i = K.take i ++ K.drop (i + 1) := List.eraseIdx_eq_take_drop_succ K i
    refine h.setL hb ?_ (fun x hx => .inl ⟨List.mem_of_mem_eraseIdx hx, fun _ => rfl⟩) ?_
    · rw [e1, onesV_append, onesV_take, onesV_drop, List.length_append, List.length_take, List.length_drop, Nat.min_eq_left (by omega)]
      exact ho
    · have := h.nd
      exact (List.Sublist.map Prod.snd (List.eraseIdx_sublist K i)).nodup this
  have hl := h.lt
  have hf2 := h.f2
  obtain ⟨ao, cap, hv, hc1, hc2, hcells⟩ := h.form
  have c2 := h.c2
  rw [hv] at c2
  obtain ⟨g, rfl, hog, -, -⟩ := hcells i hi
  have hgl : g < w.heap.size := (h.own.lt g hog).2
  have HN : Hid (∀ j u, (onesV (sizeN bits) K)[j]? = some u → w.cell? ⟨g, j, none⟩ = some u) := fun j u hu => by
    have c := h.own.cells hog j u hu
    have hadd : (⟨g, 0, none⟩ : Addr).add j = ⟨g, j, none⟩ := by unfold Addr.add; split <;> simp_all
    rw [hadd] at c; exact c
  have HO : Hid ((onesV (sizeN bits) K).length = K.length * 2) := onesV_len _ _
  have H1 : Hid (∀ u ∈ onesV (sizeN bits) K, u.oneCell' = true) := ones_one _ _
  have hgm : g ≠ m := (h.sv g hog).2
  clear h hcells hv hog hP hfirst
  generalize onesV (sizeN bits) K = os at *
  generalize K.length = L at *
  go_enter Tryz.func109, Tryz.ntmps109
  go_wp2_with fail
  refine hat.mono ?_
  rintro e x ⟨rfl, rfl⟩
  have hO0 := World.ownsRow_made (base := x.heap.size) (e := 97) (size := 2) x #[] 0 (by simp) (by decide) (by simp)
  have b0 := (Below.refl x.heap.size x).alloc (Nat.le_refl _) (.cells #[] 97)
  have hO1 : (x.alloc (.cells #[] 97)).ownsRow x.heap.size 97 2 (.slice (some ⟨x.heap.size, 0, none⟩) 0 0) 0 [] := by simpa using hO0
  have c2' : (x.alloc (.cells #[] 97)).cell? ⟨m, 2, none⟩ = some (.slice (some ⟨g, 0, none⟩) L cap) := by rw [b0.cell hl]; exact c2
  have N1 : Hid (∀ j u, os[j]? = some u → (x.alloc (.cells #[] 97)).cell? ⟨g, j, none⟩ = some u) := fun j u hu => by rw [b0.cell hgl]; exact HN.out j u hu
  have hs0 : x.heap.size ≤ (x.alloc (.cells #[] 97)).heap.size := b0.size
  clear hO0 hat
  obtain ⟨B, hB⟩ : ∃ B, Hid (x.heap.size = B) := ⟨_, rfl⟩
  have HX := hide b0
  rw [hB.out] at hO1 hgl hl hs0
  clear b0
  go_wp2_with (at_builtin; refine wpList_append_own _ rfl _ _ 98 rfl B 97 i0 (.agg #[.int .i64 0, .slice none 0 0]) 2 32 Tryz.underlying98 hi0 hz0 hz1 hz2 rfl (by decide) _ _ _ rfl (by first | exact hO1 | (rw [hB.out]; exact hO1)) ⟨g, 0, none⟩ i cap (os.take (i * 2)) rfl ?a1 ?a2 ?a3 ?a4 ?a5 ?a6 ?_)
  case a1 => rw [List.length_take, HO.out, Nat.min_eq_left (by omega)]
  case a2 =>
    intro j u hj
    rw [Go.WideShapes.add_plain, Nat.zero_add]
    exact N1.out j u (by rw [List.getElem?_take] at hj; split at hj; exact hj; cases hj)
  case a3 => exact fun u hu => H1.out u (List.mem_of_mem_take hu)
  case a4 => unfold maxLen; omega
  case a5 => omega
  case a6 => first | exact hs0 | (rw [← hB.out]; exact HX.out.size)
  intro v1 w1 hown1 hgrow1 _
  have hk0 : ∀ k, (Value.slice (some ⟨x.heap.size, 0, none⟩) 0 0).ownBlock = some k → B ≤ k := fun k hk => by
    have h1 : x.heap.size = k := by simpa [Value.ownBlock] using hk
    have := hB.out
    omega
  have b1 : Below B x w1 := (hB.out ▸ HX.out).grown hgrow1 (by rw [← hB.out]; exact HX.out.size) hk0
  have d2 : w1.cell? ⟨m, 2, none⟩ = some (.slice (some ⟨g, 0, none⟩) L cap) := by rw [b1.cell hl]; exact c2
  have N2 : Hid (∀ j u, os[j]? = some u → w1.cell? ⟨g, j, none⟩ = some u) := fun j u hu => by rw [b1.cell hgl]; exact HN.out j u hu
  have hs1 : B ≤ w1.heap.size := by have := b1.size; have := hB.out; omega
  have HB1 := hide b1
  clear hO1 hgrow1 c2' N1 HX b1 c2 HN
  by_cases hcap : cap = i + 1
  · go_wp2_with (at_builtin; refine wpList_append_own _ rfl _ _ 98 rfl B 97 i0 (.agg #[.int .i64 0, .slice none 0 0]) 2 32 Tryz.underlying98 hi0 hz0 hz1 hz2 rfl (by decide) _ _ _ rfl hown1 ⟨g, 0, none⟩ (L - (i + 1)) 0 (os.drop ((i + 1) * 2)) rfl ?a1 ?a2 ?a3 ?a4 ?a5 ?a6 ?_)
    case a1 => rw [List.length_drop, HO.out]; omega
    case a2 =>
      intro j u hj
      rw [Go.WideShapes.add_plain]
      have hlt := (List.getElem?_eq_some_iff.1 hj).1
      rw [List.length_drop, HO.out] at hlt
      rw [List.getElem?_drop] at hj
      first | exact N2.out _ u hj | (exfalso; omega)
    case a3 => exact fun u hu => H1.out u (List.mem_of_mem_drop hu)
    case a4 => unfold maxLen; omega
    case a5 => omega
    case a6 => exact hs1
    intro v2 w2 hown2 hgrow2 _
    obtain ⟨ao2, n2, cap2, rfl⟩ : ∃ ao n cap, v2 = .slice ao n cap := by
      rcases hown2.2 with ⟨h1, -⟩ | ⟨_, _, _, h1, -⟩
      · exact ⟨_, _, _, h1⟩
      · exact ⟨_, _, _, h1⟩
    have b2 : Below B x w2 := HB1.out.grown hgrow2 hs1 (fun k hk => (hown1.lt k hk).1)
    have d3 : w2.cell? ⟨m, 2, none⟩ = some (.slice (some ⟨g, 0, none⟩) L cap) := by rw [b2.cell hl]; rw [← HB1.out.cell hl]; exact d2
    have f3 : w2.frozen? ⟨m, 2, none⟩ = false := by rw [b2.frozen hl]; exact hf2
    have HE := hide (HEND.out w2 _ _ _ (by rw [hB.out]; exact b2) rfl rfl (by rw [hB.out]; exact hown2))
    clear HEND hown1 hown2 hgrow2 d2 N2 b2 HB1
    go_wp2
    go_ret
    exact ⟨rfl, ⟨_, HE.out.1⟩, HE.out.2⟩
  · have hcap' : i + 1 < cap := by omega
    go_wp2_with (at_builtin; refine wpList_append_own _ rfl _ _ 98 rfl B 97 i0 (.agg #[.int .i64 0, .slice none 0 0]) 2 32 Tryz.underlying98 hi0 hz0 hz1 hz2 rfl (by decide) _ _ _ rfl hown1 ⟨g, (i + 1) * 2, none⟩ (L - (i + 1)) (cap - (i + 1)) (os.drop ((i + 1) * 2)) rfl ?a1 ?a2 ?a3 ?a4 ?a5 ?a6 ?_)
    case a1 => rw [List.length_drop, HO.out]; omega
    case a2 =>
      intro j u hj
      rw [Go.WideShapes.add_plain]
      have hlt := (List.getElem?_eq_some_iff.1 hj).1
      rw [List.length_drop, HO.out] at hlt
      rw [List.getElem?_drop] at hj
      first | exact N2.out _ u hj | (exfalso; omega)
    case a3 => exact fun u hu => H1.out u (List.mem_of_mem_drop hu)
    case a4 => unfold maxLen; omega
    case a5 => omega
    case a6 => exact hs1
    intro v2 w2 hown2 hgrow2 _
    obtain ⟨ao2, n2, cap2, rfl⟩ : ∃ ao n cap, v2 = .slice ao n cap := by
      rcases hown2.2 with ⟨h1, -⟩ | ⟨_, _, _, h1, -⟩
      · exact ⟨_, _, _, h1⟩
      · exact ⟨_, _, _, h1⟩
    have b2 : Below B x w2 := HB1.out.grown hgrow2 hs1 (fun k hk => (hown1.lt k hk).1)
    have d3 : w2.cell? ⟨m, 2, none⟩ = some (.slice (some ⟨g, 0, none⟩) L cap) := by rw [b2.cell hl]; rw [← HB1.out.cell hl]; exact d2
    have f3 : w2.frozen? ⟨m, 2, none⟩ = false := by rw [b2.frozen hl]; exact hf2
    have HE := hide (HEND.out w2 _ _ _ (by rw [hB.out]; exact b2) rfl rfl (by rw [hB.out]; exact hown2))
    clear HEND hown1 hown2 hgrow2 d2 N2 b2 HB1
    go_wp2
    go_ret
    exact ⟨rfl, ⟨_, HE.out.1⟩, HE.out.2⟩
end
end Go.Proofs.YtfghfbmmaclcnaaGreat
namespace Go.Proofs.YtfghfbmmaclcnaaGreat
set_option maxRecDepth 20000
open Go.RowKit
/-- One round of Open. -/
def insS (x : Nat × Nat) (a : List (Nat × Nat) × Bool) (y : Nat × Nat) : List (Nat × Nat) × Bool := if a.2 = false ∧ x.1 < y.1 then (a.1 ++ [x] ++ [y], true) else (a.1 ++ [y], a.2)
def insA (x : Nat × Nat) (K : List (Nat × Nat)) : List (Nat × Nat) × Bool := K.foldl (insS x) ([], false)
def insL (x : Nat × Nat) (K : List (Nat × Nat)) : List (Nat × Nat) := if (insA x K).2 then (insA x K).1 else (insA x K).1 ++ [x]
theorem insA_snoc (x : Nat × Nat) (K : List (Nat × Nat)) (y : Nat × Nat) : insA x (K ++ [y]) = insS x (insA x K) y := by simp [insA, List.foldl_append]
theorem getK_take (l : List (Nat × Nat)) (k : Nat) (h : k < l.length) : l.take (k + 1) = l.take k ++ [getK l k] := by
  rw [List.take_succ_eq_append_getElem h]; simp [getK, List.getD_eq_getElem?_getD, h]
theorem insA_take (x : Nat × Nat) (l : List (Nat × Nat)) (k : Nat) (h : k < l.length) : insA x (l.take (k + 1)) = insS x (insA x (l.take k)) (getK l k) := by rw [getK_take l k h, insA_snoc]
theorem rev_ind {α : Type} {p : List α → Prop} (h0 : p []) (h1 : ∀ l a, p l → p (l ++ [a])) (l : List α) : p l := by
  have : ∀ l : List α, p l.reverse := fun l => by
    induction l with
    | nil => exact h0
    | cons a l ih => rw [List.reverse_cons]; exact h1 _ _ ih
  simpa using this l.reverse
theorem insA_is (x : Nat × Nat) (K : List (Nat × Nat)) : ((insA x K).2 = false ∧ (insA x K).1 = K ∧ ∀ y ∈ K, y.1 ≤ x.1) ∨ ((insA x K).2 = true ∧ ∃ l1 z l3, K = l1 ++ z :: l3 ∧ (insA x K).1 = l1 ++ x :: z :: l3 ∧ (∀ y ∈ l1, y.1 ≤ x.1) ∧ x.1 < z.1) := by
  refine rev_ind (p := fun K => ((insA x K).2 = false ∧ (insA x K).1 = K ∧ ∀ y ∈ K, y.1 ≤ x.1) ∨ ((insA x K).2 = true ∧ ∃ l1 z l3, K = l1 ++ z :: l3 ∧ (insA x K).1 = l1 ++ x :: z :: l3 ∧ (∀ y ∈ l1, y.1 ≤ x.1) ∧ x.1 < z.1)) ?_ ?_ K
  · exact .inl ⟨rfl, rfl, fun y hy => by simp at hy⟩
  · intro l a ih
    rw [insA_snoc]
    rcases ih with ⟨h1, h2, h3⟩ | ⟨h1, l1, z, l3, h2, h3, h4, h5⟩
    · by_cases hx : x.1 < a.1
      · refine .inr ⟨by simp [insS, h1, hx], l, a, [], by simp, by simp [insS, h1, hx, h2], h3, hx⟩
      · refine .inl ⟨by simp [insS, hx, h1], by simp [insS, hx, h2], fun y hy => ?_⟩
        rcases List.mem_append.1 hy with hy | hy
        · exact h3 y hy
        · simp at hy; subst hy; omega
    · exact .inr ⟨by simp [insS, h1], l1, z, l3 ++ [a], by simp [h2], by simp [insS, h1, h3], h4, h5⟩
theorem insL_is (x : Nat × Nat) (K : List (Nat × Nat)) : ∃ l1 l2, K = l1 ++ l2 ∧ insL x K = l1 ++ x :: l2 ∧ (∀ y ∈ l1, y.1 ≤ x.1) ∧ ∀ z l3, l2 = z :: l3 → x.1 < z.1 := by
  rcases insA_is x K with ⟨h1, h2, h3⟩ | ⟨h1, l1, z, l3, h2, h3, h4, h5⟩
  · exact ⟨K, [], by simp, by simp [insL, h1, h2], h3, fun z l3 e => by cases e⟩
  · exact ⟨l1, z :: l3, h2, by simp [insL, h1, h3], h4, fun z' l3' e => by cases e; exact h5⟩
theorem insL_perm (x : Nat × Nat) (K : List (Nat × Nat)) : (insL x K).Perm (x :: K) := by
  obtain ⟨l1, l2, h1, h2, -⟩ := insL_is x K
  rw [h2, h1]
  exact List.perm_middle
theorem insA_len (x : Nat × Nat) (K : List (Nat × Nat)) : (insA x K).1.length ≤ K.length + 1 := by
  rcases insA_is x K with ⟨-, h, -⟩ | ⟨-, l1, z, l3, h2, h3, -⟩
  · rw [h]; omega
  · rw [h3, h2]; simp; omega
/-- What the loop of Open has: a row of its own. -/
structure OutP (w3 : World) (h0 s : Nat) (wr : World) (v : Value) (l : List (Nat × Nat)) : Prop where
  own : wr.ownsRow h0 97 2 v l.length (onesV s l)
  far : ∀ k, v.ownBlock = some k → k = h0 ∨ w3.heap.size ≤ k
  kp : Keeps (fun k => k = h0) w3 wr
theorem OutP.step {w3 wr y : World} {h0 s g cap : Nat} {v : Value} {l : List (Nat × Nat)} {x : Nat × Nat} {o : Obj} (h : OutP w3 h0 s wr v l) (hg : (wr.alloc o).grownBy y v.ownBlock)
    (hown : y.ownsRow h0 97 2 (.slice (some ⟨g, 0, none⟩) (l.length + 1) cap) (l.length + 1) (onesV s l ++ [.int .i64 (x.1 : Int), .slice (some ⟨x.2, 0, none⟩) s s])) (hat : v.ownBlock = some g ∨ g = wr.heap.size + 1) :
    OutP w3 h0 s y (.slice (some ⟨g, 0, none⟩) (l.length + 1) cap) (l ++ [x]) := by
  refine ⟨by rw [onesV_snoc, List.length_append]; exact hown, fun k e => ?_, (h.kp.alloc o).grown hg (fun k e hk => by rcases h.far k e with h1 | h1; exact h1; omega)⟩
  have e1 : g = k := by simpa [Value.ownBlock] using e
  subst e1
  rcases hat with hat | hat
  · exact h.far g hat
  · have := h.kp.size; exact .inr (by omega)
theorem OutP.cell {w3 wr : World} {h0 s : Nat} {v : Value} {l : List (Nat × Nat)} (h : OutP w3 h0 s wr v l) {p : Addr} {u : Value} (hp : w3.cell? p = some u) (hne : p.block ≠ h0) : wr.cell? p = some u := by
  rw [h.kp.cell (World.block_lt_of_cell? w3 _ hp) hne]; exact hp
theorem two_cells {a : Int} {ao : Option Addr} {n c : Nat} : ∀ u ∈ [Value.int .i64 a, Value.slice ao n c], u.oneCell' = true := by
  intro u hu; simp at hu; rcases hu with rfl | rfl <;> rfl
theorem cell_2 (w : World) (a b : Value) (t : TypeId) : ∀ j u, [a, b][j]? = some u → (w.alloc (.cells #[a, b] t)).cell? ((⟨w.heap.size, 0, none⟩ : Addr).add j) = some u := by
  intro j u hj
  match j, hj with
  | 0, hj => simp at hj; subst hj; simp [Addr.add]
  | 1, hj => simp at hj; subst hj; simp [Addr.add]
section
variable {w : World} {M : Nat → Prop} {m n : Nat} {bits : Int} {K : List (Nat × Nat)} {V : Nat → Nat → Int} {vl : Value}
theorem rb_open_neg (m : Nat) (page : Int) (hp : page < 0) (w : World) :
    Calls Tryz.prog 105 #[.pointer (some ⟨m, 0, none⟩), .int .i64 page] w fun e w' => e = .returned (.int .i64 1) ∧ w' = w := by
  go_enter Tryz.func105, Tryz.ntmps105
  go_wp2
  go_ret
  exact ⟨rfl, rfl⟩
theorem rb_open_there (h : RbIs w M m n bits K V vl) (i : Nat) (hi : i < K.length) (P : Nat) (hP : (getK K i).1 = P) (hfirst : ∀ j, j < i → (getK K j).1 ≠ P) :
    Calls Tryz.prog 105 #[.pointer (some ⟨m, 0, none⟩), .int .i64 (P : Int)] w fun e w' => e = .returned (.int .i64 8) ∧ w' = w := by
  have hat := rb_at_yes h i hi P hP hfirst
  clear h hP hfirst
  go_enter Tryz.func105, Tryz.ntmps105
  go_wp2_with fail
  refine hat.mono ?_
  rintro e x ⟨rfl, rfl⟩
  go_wp2
  go_ret
  exact ⟨rfl, rfl⟩
set_option maxHeartbeats 1000000 in
theorem rb_open_busy (h : RbIs w M m n bits K V vl) (P : Nat) (hPm : P ≤ 9223372036854775807) (hno : ∀ j, j < K.length → (getK K j).1 ≠ P) (i : Nat) (hi : i < K.length) (hres : (getK K i).1 % n = P % n) :
    Calls Tryz.prog 105 #[.pointer (some ⟨m, 0, none⟩), .int .i64 (P : Int)] w fun e w' => e = .returned (.int .i64 10) ∧ Below w.heap.size w w' := by
  have hat := rb_at_no h (P : Int) (fun j hj e => hno j hj (by omega))
  obtain ⟨ao, cap, hv, hc1, hc2, hcells⟩ := h.form
  have c2 := h.c2
  have c1 := h.c1
  rw [hv] at c2
  have hn := h.hn
  have HC := hide hcells
  have hz : ((n : Int) == 0) = false := by simp; omega
  clear h hcells hv hno
  generalize hLL : K.length = L at *
  have HLL := hide hLL
  clear hLL
  obtain ⟨q, hq⟩ : ∃ q, q = P % n := ⟨_, rfl⟩
  have hm : (P : Int) % (n : Int) = (q : Int) := by rw [hq]; simp
  rw [← hq] at hres
  clear hq
  go_enter Tryz.func105, Tryz.ntmps105
  go_wp2_with fail
  refine hat.mono ?_
  rintro e x ⟨rfl, rfl⟩
  go_wp2
  go_loopw [5] (fun vi wr => ∃ k : Nat, k ≤ i ∧ vi = .int .i64 k ∧ ∃ d, wr = x.drewN d) (fun vi _ => L - (intOf vi).toNat)
  case atStart => exact ⟨0, Nat.zero_le _, rfl, 0, rfl⟩
  case round =>
    obtain ⟨k, hk, rfl, d, rfl⟩ := hrel
    have hkl : k < L := by omega
    obtain ⟨g, rfl, -, q0, -⟩ := HC.out k hkl
    obtain ⟨r, hr⟩ : ∃ r, r = (getK K k).1 % n := ⟨_, rfl⟩
    have hmk : ((getK K k).1 : Int) % (n : Int) = (r : Int) := by rw [hr]; simp
    by_cases e : r = q
    · subst e
      have hX : ((r : Int) == (r : Int)) = true := by simp
      clear hr hres
      generalize (getK K k).1 = p at *
      go_wp2
      go_quiet (fail)
      go_wp2
      go_ret
      exact ⟨rfl, below_drewN (below_drewN (Below.refl _ _) d) _⟩
    · have hX : ((r : Int) == (q : Int)) = false := by simp; omega
      have hki : k ≠ i := fun e' => e (by rw [hr, e', hres])
      clear hr hres e
      generalize (getK K k).1 = p at *
      go_wp2
      go_quiet (fail)
      go_wp2
      go_roundw
      case rel => exact ⟨k + 1, by omega, by go_num, _, rfl⟩
      case measure => simp [intOf]; omega
set_option maxHeartbeats 4000000 in
set_option maxRecDepth 10000 in
theorem rb_open_yes (h : RbIs w M m n bits K V vl) (hfew : K.length ≤ 1000) (P : Nat) (hPm : P ≤ 9223372036854775807) (hres : ∀ j, j < K.length → (getK K j).1 % n ≠ P % n) :
    Calls Tryz.prog 105 #[.pointer (some ⟨m, 0, none⟩), .int .i64 (P : Int)] w fun e w' => e = .returned (.int .i64 0) ∧ (∃ lb vl', RbIs w' (More M w w') m n bits (insL (P, lb) K) (fun b j => if b = lb then 0 else V b j) vl' ∧ w.heap.size ≤ lb) ∧ Keeps M w w' := by
  obtain ⟨i1, hi1, hy0, hy1, hy2⟩ := info_parts Tryz.infoW64
  obtain ⟨i0, hi0, hz0, hz1, hz2⟩ := info_parts Tryz.infoOne
  have hat := rb_at_no h (P : Int) (fun j hj e => hres j hj (by have : (getK K j).1 = P := by omega
                                                                rw [this]))
  have HEND : Hid (∀ (y : World) (v : Value) (lb : Nat), Below w.heap.size w y → w.heap.size ≤ lb → v.ownBlock ≠ some lb → (∀ j, j < sizeN bits → y.cell? ⟨lb, j, none⟩ = some (.int .u64 0) ∧ y.frozen? ⟨lb, j, none⟩ = false) → y.ownsRow w.heap.size 97 2 v (insL (P, lb) K).length (onesV (sizeN bits) (insL (P, lb) K)) → RbIs (y.setCell ⟨m, 2, none⟩ v) (More M w (y.setCell ⟨m, 2, none⟩ v)) m n bits (insL (P, lb) K) (fun b j => if b = lb then 0 else V b j) v ∧ Keeps M w (y.setCell ⟨m, 2, none⟩ v)) := by
    intro y v lb hb hlb hvl hw ho
    have hp := sizeN_pos h.hb
    have hperm := insL_perm (P, lb) K
    have hold : ∀ x ∈ K, x.2 < w.heap.size := fun x hx => World.block_lt_of_cell? w _ (h.ws x hx 0 (by omega)).1
    refine h.setL hb ho (fun x hx => ?_) ?_
    · rcases List.mem_cons.1 (hperm.mem_iff.1 hx) with rfl | hx
      · exact .inr ⟨hlb, hPm, hvl, fun j hj => by simpa using hw j hj⟩
      · refine .inl ⟨hx, fun j => ?_⟩
        have := hold x hx
        exact if_neg (by omega)
    · rw [(hperm.map Prod.snd).nodup_iff, List.map_cons, List.nodup_cons]
      refine ⟨fun hx => ?_, h.nd⟩
      obtain ⟨x, hx, e⟩ := List.mem_map.1 hx
      have := hold x hx
      simp only at e
      omega
  have hl := h.lt
  obtain ⟨ao, cap, hv, hc1, hc2, hcells⟩ := h.form
  have c2 := h.c2
  have c1 := h.c1
  have c0 := h.c0
  rw [hv] at c2
  have hf2 := h.f2
  have hn := h.hn
  have hsp := sizeN_pos h.hb
  have hsb := sizeN_bounds bits
  have hvl : ∀ g, ao = some ⟨g, 0, none⟩ → 0 < K.length → g < w.heap.size := fun g e h0 => by
    obtain ⟨g', e', e2, -⟩ := hcells 0 h0
    rw [e] at e'; cases e'
    exact (h.own.lt g e2).2
  have HV := hide hvl
  have HC := hide hcells
  have HR := hide hres
  have hz : ((n : Int) == 0) = false := by simp; omega
  clear h hcells hv hres hvl
  have HT := hide (fun lb k (hk : k < K.length) => insA_take (P, lb) K k hk)
  have HLN := hide (fun lb k => insA_len (P, lb) (K.take k))
  have hALL : Hid (K.take K.length = K) := List.take_length
  generalize hLL : K.length = L at *
  have HLL := hide hLL
  clear hLL
  obtain ⟨q, hq⟩ : ∃ q, q = P % n := ⟨_, rfl⟩
  have hm : (P : Int) % (n : Int) = (q : Int) := by rw [hq]; simp
  rw [← hq] at HR
  clear hq
  generalize hss : sizeN bits = s at *
  go_enter Tryz.func105, Tryz.ntmps105
  go_wp2_with fail
  refine hat.mono ?_
  rintro e x ⟨rfl, rfl⟩
  go_wp2
  go_loopw [5] (fun vi wr => ∃ k : Nat, k ≤ L ∧ vi = .int .i64 k ∧ ∃ d, wr = x.drewN d) (fun vi _ => L - (intOf vi).toNat)
  case atStart => exact ⟨0, Nat.zero_le _, rfl, 0, rfl⟩
  case round =>
    obtain ⟨k, hk, rfl, d, rfl⟩ := hrel
    by_cases hkl : k < L
    · obtain ⟨g, rfl, -, q0, -⟩ := HC.out k hkl
      obtain ⟨r, hr⟩ : ∃ r, r = (getK K k).1 % n := ⟨_, rfl⟩
      have hmk : ((getK K k).1 : Int) % (n : Int) = (r : Int) := by rw [hr]; simp
      have e : r ≠ q := by rw [hr]; exact HR.out k hkl
      have hX : ((r : Int) == (q : Int)) = false := by simp; omega
      clear hr e HEND HT
      generalize (getK K k).1 = p at *
      go_wp2
      go_quiet (fail)
      go_wp2
      go_roundw
      case rel => exact ⟨k + 1, by omega, by go_num, _, rfl⟩
      case measure => simp [intOf]; omega
    · have e : L = k := by omega
      subst e
      clear hat HR hkl hk
      have hO0 := World.ownsRow_made (base := x.heap.size) (e := 97) (size := 2) (x.drewN d) #[] 0 (by simp) (by decide) (by simp)
      have hO1 : ((x.drewN d).alloc (.cells #[] 97)).ownsRow x.heap.size 97 2 (.slice (some ⟨x.heap.size, 0, none⟩) 0 0) 0 [] := by simpa using hO0
      have b0 := (below_drewN (Below.refl x.heap.size x) d).alloc (by simp) (.cells #[] 97)
      have hs0 : ((x.drewN d).alloc (.cells #[] 97)).heap.size = x.heap.size + 1 := by simp
      have d0 : ((x.drewN d).alloc (.cells #[] 97)).cell? ⟨m, 0, none⟩ = some (.int .i64 bits) := by rw [b0.cell hl]; exact c0
      clear hO0
      go_wp2_with fail
      refine (rsize_any bits _).mono ?_
      rintro e w1 ⟨rfl, rfl⟩
      rw [hss]
      generalize (x.drewN d).alloc (.cells #[] 97) = w1 at *
      have HS0 := hide hs0
      clear hs0
      go_wp2_with (at_make; refine wpList_make_full _ rfl _ _ 51 rfl w1.heap.size 32 i1 (.int .u64 0) 1 Tryz.underlying51 hi1 hy0 hy1 _ _ _ _ s rfl rfl rfl rfl ?b1 ?b2 (Nat.le_refl _) ?_)
      case b1 => rw [hy2]; omega
      case b2 => unfold maxLen; omega
      intro w2 hown hgrow
      have hown2 : w2.ownsRow w1.heap.size 32 1 (.slice (some ⟨w1.heap.size, 0, none⟩) s s) s (List.replicate s (.int .u64 0)) := by
        simpa [Value.cells, toList_madeCells_one] using hown
      have b2 : Below w1.heap.size w1 w2 := (Below.refl _ _).grown hgrow (Nat.le_refl _) (by simp)
      have HW : Hid (∀ j, j < s → w2.cell? ⟨w1.heap.size, j, none⟩ = some (.int .u64 0) ∧ w2.frozen? ⟨w1.heap.size, j, none⟩ = false) := fun j hj => ⟨by rw [hown2.cellAt j (by omega)]; simp [hj], hown2.frozenAt j⟩
      have hlb : w1.heap.size < w2.heap.size := World.block_lt_of_cell? w2 _ (HW.out 0 (by omega)).1
      have hO2 := own_below hO1 b2
      have bx2 : Below x.heap.size x w2 := b0.trans (b2.mono (by have := HS0.out; omega))
      have B3 := b2.alloc (by omega) (.cells #[.int .i64 (P : Int), .slice (some ⟨w1.heap.size, 0, none⟩) s s] 97)
      have B3x := bx2.alloc (by have := HS0.out; omega) (.cells #[.int .i64 (P : Int), .slice (some ⟨w1.heap.size, 0, none⟩) s s] 97)
      have hO3 : OutP (w2.alloc (.cells #[.int .i64 (P : Int), .slice (some ⟨w1.heap.size, 0, none⟩) s s] 97)) x.heap.size s (w2.alloc (.cells #[.int .i64 (P : Int), .slice (some ⟨w1.heap.size, 0, none⟩) s s] 97)) (.slice (some ⟨x.heap.size, 0, none⟩) 0 0) [] :=
        ⟨hO2.alloc _, fun k e => .inl (by have : x.heap.size = k := by simpa [Value.ownBlock] using e
                                          exact this.symm), Keeps.refl _ _⟩
      have p0 : (w2.alloc (.cells #[.int .i64 (P : Int), .slice (some ⟨w1.heap.size, 0, none⟩) s s] 97)).cell? ⟨w2.heap.size, 0, none⟩ = some (.int .i64 (P : Int)) := by simp
      have p1 : (w2.alloc (.cells #[.int .i64 (P : Int), .slice (some ⟨w1.heap.size, 0, none⟩) s s] 97)).cell? ⟨w2.heap.size, 1, none⟩ = some (.slice (some ⟨w1.heap.size, 0, none⟩) s s) := by simp
      have HW3 : Hid (∀ j, j < s → (w2.alloc (.cells #[.int .i64 (P : Int), .slice (some ⟨w1.heap.size, 0, none⟩) s s] 97)).cell? ⟨w1.heap.size, j, none⟩ = some (.int .u64 0) ∧ (w2.alloc (.cells #[.int .i64 (P : Int), .slice (some ⟨w1.heap.size, 0, none⟩) s s] 97)).frozen? ⟨w1.heap.size, j, none⟩ = false) := fun j hj => ⟨cell_alloc (HW.out j hj).1 _, frozen_alloc (HW.out j hj).2 hlb _⟩
      have hs3 : w2.heap.size < (w2.alloc (.cells #[.int .i64 (P : Int), .slice (some ⟨w1.heap.size, 0, none⟩) s s] 97)).heap.size := by simp
      go_wp2
      clear hO1 hO2 hown hown2 hgrow b0 b2 bx2 B3 d0 HW c0
      generalize w2.alloc (.cells #[.int .i64 (P : Int), .slice (some ⟨w1.heap.size, 0, none⟩) s s] 97) = w3 at *
      have H01 : x.heap.size + 1 = w1.heap.size := HS0.out.symm
      obtain ⟨h0, hh0⟩ : ∃ h0, Hid (x.heap.size = h0) := ⟨_, rfl⟩
      obtain ⟨lb, hlb'⟩ : ∃ lb, Hid (w1.heap.size = lb) := ⟨_, rfl⟩
      obtain ⟨bx, hbx⟩ : ∃ bx, Hid (w2.heap.size = bx) := ⟨_, rfl⟩
      have HE0 := hide (fun y v => HEND.out y v lb)
      rw [hh0.out, hlb'.out] at H01
      rw [hlb'.out, hbx.out] at hlb
      rw [hbx.out] at hs3
      rw [hlb'.out] at p1 HW3
      rw [hbx.out] at p0 p1
      rw [hh0.out] at hO3 hl B3x HV
      have HB3 := hide B3x
      have HTl := hide (HT.out lb)
      have HLl := hide (HLN.out lb)
      try rw [hh0.out]
      try rw [hlb'.out]
      try rw [hbx.out]
      clear HEND HT HLN HS0 B3x
      go_loopw [6, 7, 9] (fun vo vp vi wr => ∃ k : Nat, k ≤ L ∧ vi = .int .i64 k ∧ vp = .bool (insA (P, lb) (K.take k)).2 ∧ OutP w3 h0 s wr vo (insA (P, lb) (K.take k)).1) (fun _ _ vi _ => L - (intOf vi).toNat)
      case atStart => exact ⟨0, Nat.zero_le _, rfl, rfl, hO3⟩
      case round =>
        clear hO3
        obtain ⟨k, hk, rfl, rfl, hO⟩ := hrel
        have hne0 : bx ≠ h0 := by omega
        have hm0 : m ≠ h0 := by omega
        have b0 := hO.cell p0 hne0
        have b1 := hO.cell p1 hne0
        have e2 : w3.cell? ⟨m, 2, none⟩ = some (.slice ao L cap) := by rw [HB3.out.cell hl]; exact c2
        have d2 := hO.cell e2 hm0
        have HLk := HLl.out k
        rw [List.length_take, HLL.out] at HLk
        by_cases hlt : k < L
        · obtain ⟨g, rfl, -, q0, q1⟩ := HC.out k hlt
          have hg : g < h0 := HV.out g rfl (by omega)
          have a0 : w3.cell? ⟨g, k * 2, none⟩ = some (.int .i64 ((getK K k).1 : Int)) := by rw [HB3.out.cell hg]; exact q0
          have a1 : w3.cell? ⟨g, k * 2 + 1, none⟩ = some (.slice (some ⟨(getK K k).2, 0, none⟩) s s) := by rw [HB3.out.cell hg]; exact q1
          have r0 := hO.cell a0 (show g ≠ h0 by omega)
          have r1 := hO.cell a1 (show g ≠ h0 by omega)
          have HT2 := hide (HTl.out k hlt)
          generalize getK K k = it at *
          obtain ⟨ip, ib⟩ := it
          simp only at r0 r1
          generalize insA (P, lb) (K.take k) = st at *
          obtain ⟨lk, pk⟩ := st
          simp only at HLk hO
          have hlk : lk.length ≤ 1001 := by omega
          clear q0 q1 a0 a1 e2 HE0 HTl HLl
          cases pk with
          | true =>
            have HT1 : Hid (insA (P, lb) (K.take (k + 1)) = (lk ++ [(ip, ib)], true)) := HT2.out.trans (by simp [insS])
            clear HT2
            have hownyy2 := World.ownsRow.alloc hO.own (.cells #[.int .i64 (ip : Int), .slice (some ⟨ib, 0, none⟩) s s] 97)
            have hnewsy2 : ∀ j u, [Value.int .i64 (ip : Int), .slice (some ⟨ib, 0, none⟩) s s][j]? = some u → (wr.alloc (.cells #[.int .i64 (ip : Int), .slice (some ⟨ib, 0, none⟩) s s] 97)).cell? ((⟨wr.heap.size, 0, none⟩ : Addr).add j) = some u := cell_2 _ _ _ _
            go_wp2_with (at_builtin; refine wpList_append_lies _ rfl _ _ 98 rfl h0 97 i0 (.agg #[.int .i64 0, .slice none 0 0]) 2 32 Tryz.underlying98 hi0 hz0 hz1 hz2 rfl (by decide) _ _ _ rfl hownyy2 ⟨wr.heap.size, 0, none⟩ 1 1 [.int .i64 (ip : Int), .slice (some ⟨ib, 0, none⟩) s s] rfl rfl hnewsy2 two_cells (by decide) ?c3 ?c4 ?c5 (wr.heap.size + 1) (by simp) ?_)
            case c3 => unfold maxLen; omega
            case c4 => omega
            case c5 => have := hO.kp.size; first | omega | (simp; omega)
            intro gy2 capy2 y2 hown' hgrow hat' hlt'
            have Oy2 := OutP.step (x := (ip, ib)) hO hgrow (by first | exact hown' | (rw [List.length_append]; exact hown')) hat'
            clear hownyy2 hnewsy2 hown' hgrow hat' hlt'
            go_wp2
            go_roundw
            case rel => exact ⟨k + 1, by omega, by go_num, by rw [HT1.out], by rw [HT1.out]; exact Oy2⟩
            case measure => simp [intOf]; omega
          | false =>
            by_cases hpi : P < ip
            · have HT1 : Hid (insA (P, lb) (K.take (k + 1)) = (lk ++ [(P, lb)] ++ [(ip, ib)], true)) := HT2.out.trans (by simp [insS, hpi])
              clear HT2
              have hownyy1 := World.ownsRow.alloc hO.own (.cells #[.int .i64 (P : Int), .slice (some ⟨lb, 0, none⟩) s s] 97)
              have hnewsy1 : ∀ j u, [Value.int .i64 (P : Int), .slice (some ⟨lb, 0, none⟩) s s][j]? = some u → (wr.alloc (.cells #[.int .i64 (P : Int), .slice (some ⟨lb, 0, none⟩) s s] 97)).cell? ((⟨wr.heap.size, 0, none⟩ : Addr).add j) = some u := cell_2 _ _ _ _
              go_wp2_with (at_builtin; refine wpList_append_lies _ rfl _ _ 98 rfl h0 97 i0 (.agg #[.int .i64 0, .slice none 0 0]) 2 32 Tryz.underlying98 hi0 hz0 hz1 hz2 rfl (by decide) _ _ _ rfl hownyy1 ⟨wr.heap.size, 0, none⟩ 1 1 [.int .i64 (P : Int), .slice (some ⟨lb, 0, none⟩) s s] rfl rfl hnewsy1 two_cells (by decide) ?c3 ?c4 ?c5 (wr.heap.size + 1) (by simp) ?_)
              case c3 => unfold maxLen; omega
              case c4 => omega
              case c5 => have := hO.kp.size; first | omega | (simp; omega)
              intro gy1 capy1 y1 hown' hgrow hat' hlt'
              have Oy1 := OutP.step (x := (P, lb)) hO hgrow (by first | exact hown' | (rw [List.length_append]; exact hown')) hat'
              clear hownyy1 hnewsy1 hown' hgrow hat' hlt'
              have s0 : y1.cell? ⟨m, 2, none⟩ = some (.slice (some ⟨g, 0, none⟩) L cap) := Oy1.cell (by rw [HB3.out.cell hl]; exact c2) hm0
              have hg0 : g ≠ h0 := by omega
              have hgw3 : g < w3.heap.size := by have := HB3.out.size; have := hh0.out; omega
              have t0 : y1.cell? ⟨g, k * 2, none⟩ = some (.int .i64 (ip : Int)) := by rw [Oy1.kp.cell hgw3 hg0, ← hO.kp.cell hgw3 hg0]; exact r0
              have t1 : y1.cell? ⟨g, k * 2 + 1, none⟩ = some (.slice (some ⟨ib, 0, none⟩) s s) := by rw [Oy1.kp.cell hgw3 hg0, ← hO.kp.cell hgw3 hg0]; exact r1
              clear r0 r1 d2 b0 b1 hO
              have hownyy2 := World.ownsRow.alloc Oy1.own (.cells #[.int .i64 (ip : Int), .slice (some ⟨ib, 0, none⟩) s s] 97)
              have hnewsy2 : ∀ j u, [Value.int .i64 (ip : Int), .slice (some ⟨ib, 0, none⟩) s s][j]? = some u → (y1.alloc (.cells #[.int .i64 (ip : Int), .slice (some ⟨ib, 0, none⟩) s s] 97)).cell? ((⟨y1.heap.size, 0, none⟩ : Addr).add j) = some u := cell_2 _ _ _ _
              go_wp2_with (at_builtin; refine wpList_append_lies _ rfl _ _ 98 rfl h0 97 i0 (.agg #[.int .i64 0, .slice none 0 0]) 2 32 Tryz.underlying98 hi0 hz0 hz1 hz2 rfl (by decide) _ _ _ rfl hownyy2 ⟨y1.heap.size, 0, none⟩ 1 1 [.int .i64 (ip : Int), .slice (some ⟨ib, 0, none⟩) s s] rfl rfl hnewsy2 two_cells (by decide) ?c3 ?c4 ?c5 (y1.heap.size + 1) (by simp) ?_)
              case c3 => unfold maxLen; (first | omega | (simp; omega))
              case c4 => (first | omega | (simp; omega))
              case c5 => have := Oy1.kp.size; first | omega | (simp; omega)
              intro gy2 capy2 y2 hown' hgrow hat' hlt'
              have Oy2 := OutP.step (x := (ip, ib)) Oy1 hgrow (by first | exact hown' | (rw [List.length_append]; exact hown')) hat'
              clear hownyy2 hnewsy2 hown' hgrow hat' hlt'
              go_wp2
              go_roundw
              case rel => exact ⟨k + 1, by omega, by go_num, by rw [HT1.out], by rw [HT1.out]; simpa using Oy2⟩
              case measure => simp [intOf]; omega
            · have HT1 : Hid (insA (P, lb) (K.take (k + 1)) = (lk ++ [(ip, ib)], false)) := HT2.out.trans (by simp [insS, hpi])
              clear HT2
              have hownyy2 := World.ownsRow.alloc hO.own (.cells #[.int .i64 (ip : Int), .slice (some ⟨ib, 0, none⟩) s s] 97)
              have hnewsy2 : ∀ j u, [Value.int .i64 (ip : Int), .slice (some ⟨ib, 0, none⟩) s s][j]? = some u → (wr.alloc (.cells #[.int .i64 (ip : Int), .slice (some ⟨ib, 0, none⟩) s s] 97)).cell? ((⟨wr.heap.size, 0, none⟩ : Addr).add j) = some u := cell_2 _ _ _ _
              go_wp2_with (at_builtin; refine wpList_append_lies _ rfl _ _ 98 rfl h0 97 i0 (.agg #[.int .i64 0, .slice none 0 0]) 2 32 Tryz.underlying98 hi0 hz0 hz1 hz2 rfl (by decide) _ _ _ rfl hownyy2 ⟨wr.heap.size, 0, none⟩ 1 1 [.int .i64 (ip : Int), .slice (some ⟨ib, 0, none⟩) s s] rfl rfl hnewsy2 two_cells (by decide) ?c3 ?c4 ?c5 (wr.heap.size + 1) (by simp) ?_)
              case c3 => unfold maxLen; omega
              case c4 => omega
              case c5 => have := hO.kp.size; first | omega | (simp; omega)
              intro gy2 capy2 y2 hown' hgrow hat' hlt'
              have Oy2 := OutP.step (x := (ip, ib)) hO hgrow (by first | exact hown' | (rw [List.length_append]; exact hown')) hat'
              clear hownyy2 hnewsy2 hown' hgrow hat' hlt'
              go_wp2
              go_roundw
              case rel => exact ⟨k + 1, by omega, by go_num, by rw [HT1.out], by rw [HT1.out]; exact Oy2⟩
              case measure => simp [intOf]; omega
        · have e : L = k := by omega
          subst e
          rw [hALL.out] at hO HLk ⊢
          have HI : Hid (insL (P, lb) K = if (insA (P, lb) K).2 then (insA (P, lb) K).1 else (insA (P, lb) K).1 ++ [(P, lb)]) := rfl
          have HFIN : Hid (∀ (y : World) (v : Value), OutP w3 h0 s y v (insL (P, lb) K) → y.frozen? ⟨m, 2, none⟩ = false ∧ RbIs (y.setCell ⟨m, 2, none⟩ v) (More M x (y.setCell ⟨m, 2, none⟩ v)) m n bits (insL (P, lb) K) (fun b j => if b = lb then 0 else V b j) v ∧ Keeps M x (y.setCell ⟨m, 2, none⟩ v)) := fun y v hy => by
            have hlw : lb < w3.heap.size := by omega
            have hln : lb ≠ h0 := by omega
            have hmw : m < w3.heap.size := by have := HB3.out.size; have := hh0.out; omega
            have hB : Below x.heap.size x y := by
              rw [hh0.out]
              exact HB3.out.trans (hy.kp.below (by omega) (fun k e => by omega))
            refine ⟨by rw [hy.kp.frozen hmw hm0, HB3.out.frozen hl]; exact hf2, ?_⟩
            exact HE0.out y v hB (by have := hh0.out; omega) (fun e => by rcases hy.far lb e with h1 | h1 <;> omega) (fun j hj => ⟨hy.cell (HW3.out j hj).1 hln, by rw [hy.kp.frozen hlw hln]; exact (HW3.out j hj).2⟩) (by rw [hh0.out]; exact hy.own)
          have HLB : Hid (x.heap.size ≤ lb) := by have := hh0.out; simp only [Hid]; omega
          clear HE0 HTl HLl HC HV
          generalize hst : insA (P, lb) K = st at *
          obtain ⟨lk, pk⟩ := st
          simp only at HLk hO
          have hlk : lk.length ≤ 1001 := by omega
          cases pk with
          | true =>
            have hIL : insL (P, lb) K = lk := by rw [HI.out]; simp
            rw [hIL] at HFIN
            obtain ⟨aol, nl, capl, rfl⟩ : ∃ ao n cap, u6 = .slice ao n cap := by
              rcases hO.own.2 with ⟨h1, -⟩ | ⟨_, _, _, h1, -⟩
              · exact ⟨_, _, _, h1⟩
              · exact ⟨_, _, _, h1⟩
            obtain ⟨fz, HF1⟩ := HFIN.out wr _ hO
            have HFF := hide HF1
            clear HFIN HF1
            go_wp2
            go_ret
            refine ⟨rfl, ?_, HFF.out.2⟩
            have HX := HFF.out.1
            rw [← hIL] at HX
            exact ⟨lb, ⟨_, HX⟩, HLB.out⟩
          | false =>
            have hIL : insL (P, lb) K = lk ++ [(P, lb)] := by rw [HI.out]; simp
            rw [hIL] at HFIN
            have hownyy1 := World.ownsRow.alloc hO.own (.cells #[.int .i64 (P : Int), .slice (some ⟨lb, 0, none⟩) s s] 97)
            have hnewsy1 : ∀ j u, [Value.int .i64 (P : Int), .slice (some ⟨lb, 0, none⟩) s s][j]? = some u → (wr.alloc (.cells #[.int .i64 (P : Int), .slice (some ⟨lb, 0, none⟩) s s] 97)).cell? ((⟨wr.heap.size, 0, none⟩ : Addr).add j) = some u := cell_2 _ _ _ _
            go_wp2_with (at_builtin; refine wpList_append_lies _ rfl _ _ 98 rfl h0 97 i0 (.agg #[.int .i64 0, .slice none 0 0]) 2 32 Tryz.underlying98 hi0 hz0 hz1 hz2 rfl (by decide) _ _ _ rfl hownyy1 ⟨wr.heap.size, 0, none⟩ 1 1 [.int .i64 (P : Int), .slice (some ⟨lb, 0, none⟩) s s] rfl rfl hnewsy1 two_cells (by decide) ?c3 ?c4 ?c5 (wr.heap.size + 1) (by simp) ?_)
            case c3 => unfold maxLen; omega
            case c4 => omega
            case c5 => have := hO.kp.size; first | omega | (simp; omega)
            intro gy1 capy1 y1 hown' hgrow hat' hlt'
            have Oy1 := OutP.step (x := (P, lb)) hO hgrow (by first | exact hown' | (rw [List.length_append]; exact hown')) hat'
            clear hownyy1 hnewsy1 hown' hgrow hat' hlt'
            have s2 : y1.cell? ⟨m, 2, none⟩ = some (.slice ao L cap) := Oy1.cell (by rw [HB3.out.cell hl]; exact c2) hm0
            obtain ⟨fz, HF1⟩ := HFIN.out y1 _ Oy1
            have HFF := hide HF1
            clear HFIN HF1 Oy1 hO
            go_wp2
            go_ret
            exact ⟨rfl, ⟨lb, _, by rw [hIL]; exact HFF.out.1, HLB.out⟩, HFF.out.2⟩
end
end Go.Proofs.YtfghfbmmaclcnaaGreat
namespace Go.Proofs.YtfghfbmmaclcnaaGreat
set_option maxRecDepth 20000
open Go.RowKit
/-- The frames F and the list K (its words by V) have the same pages. -/
structure Lk (n s : Nat) (F : Nat → Option Pg) (K : List (Nat × Nat)) (V : Nat → Nat → Int) : Prop where
  n0 : 0 < n
  srt : K.Pairwise (fun a b => a.1 < b.1)
  fwd : ∀ x ∈ K, ∃ v, F (x.1 % n) = some (x.1, v) ∧ ∀ j, j < s → v j = V x.2 j
  bwd : ∀ i, i < n → ∀ p v, F i = some (p, v) → p % n = i ∧ ∃ x ∈ K, x.1 = p
theorem Lk.empty {n s : Nat} (hn : 0 < n) (V : Nat → Nat → Int) : Lk n s (fun _ => none) [] V := ⟨hn, List.Pairwise.nil, fun x hx => by simp at hx, fun i hi p v e => by cases e⟩
section
variable {n s : Nat} {F : Nat → Option Pg} {K : List (Nat × Nat)} {V : Nat → Nat → Int}
theorem mem_getK {x : Nat × Nat} (h : x ∈ K) : ∃ i, i < K.length ∧ getK K i = x := by
  obtain ⟨i, hi, e⟩ := List.getElem_of_mem h
  exact ⟨i, hi, by simp [getK, List.getD_eq_getElem?_getD, hi, e]⟩
theorem srt_lt (h : K.Pairwise (fun a b => a.1 < b.1)) {i j : Nat} (hij : i < j) (hj : j < K.length) : (getK K i).1 < (getK K j).1 := by
  have h1 := List.pairwise_iff_getElem.1 h i j (by omega) hj hij
  have e1 : getK K i = K[i] := by simp [getK, List.getD_eq_getElem?_getD, (show i < K.length by omega)]
  have e2 : getK K j = K[j] := by simp [getK, List.getD_eq_getElem?_getD, hj]
  rw [e1, e2]; exact h1
/-- A page that is in, and where. -/
theorem Lk.here (h : Lk n s F K V) {P : Nat} {v : Nat → Int} (hP : F (P % n) = some (P, v)) : ∃ i, i < K.length ∧ (getK K i).1 = P ∧ (∀ j, j < i → (getK K j).1 ≠ P) ∧ ∀ j, j < s → v j = V (getK K i).2 j := by
  obtain ⟨-, x, hx, e⟩ := h.bwd _ (Nat.mod_lt _ h.n0) P v hP
  obtain ⟨i, hi, ei⟩ := mem_getK hx
  refine ⟨i, hi, by rw [ei, e], fun j hj e' => ?_, fun j hj => ?_⟩
  · have := srt_lt h.srt hj hi
    rw [ei, e] at this
    omega
  · obtain ⟨v', h1, h2⟩ := h.fwd x hx
    rw [e, hP] at h1
    cases h1
    rw [ei]; exact h2 j hj
/-- A page that isn't in. -/
theorem Lk.gone (h : Lk n s F K V) {page : Int} (hno : ∀ P : Nat, page = (P : Int) → ∀ v, F (P % n) ≠ some (P, v)) : ∀ j, j < K.length → ((getK K j).1 : Int) ≠ page := by
  intro j hj e
  obtain ⟨v, h1, -⟩ := h.fwd _ (getK_mem hj)
  exact hno _ e.symm v h1
theorem Lk.goneN (h : Lk n s F K V) {P : Nat} (hno : ∀ v, F (P % n) ≠ some (P, v)) : ∀ j, j < K.length → (getK K j).1 ≠ P := by
  intro j hj e
  obtain ⟨v, h1, -⟩ := h.fwd _ (getK_mem hj)
  rw [e] at h1
  exact hno v h1
theorem mem_inF {F : Nat → Option Pg} {m : Nat} {x : Int} : x ∈ inF F m ↔ ∃ i, i < m ∧ ∃ p v, F i = some (p, v) ∧ x = (p : Int) := by
  induction m with
  | zero => simp [inF]
  | succ m ih =>
    cases hF : F m with
    | none =>
      rw [inF_none hF, ih]
      constructor
      · rintro ⟨i, hi, r⟩; exact ⟨i, by omega, r⟩
      · rintro ⟨i, hi, p, v, e, r⟩
        by_cases e1 : i = m
        · subst e1; rw [hF] at e; cases e
        · exact ⟨i, by omega, p, v, e, r⟩
    | some y =>
      obtain ⟨q, u⟩ := y
      rw [inF_some hF, List.mem_append, ih]
      constructor
      · rintro (⟨i, hi, r⟩ | hx)
        · exact ⟨i, by omega, r⟩
        · exact ⟨m, by omega, q, u, hF, by simpa using hx⟩
      · rintro ⟨i, hi, p, v, e, r⟩
        by_cases e1 : i = m
        · subst e1; rw [hF] at e; cases e; exact .inr (by simpa using r)
        · exact .inl ⟨i, by omega, p, v, e, r⟩
theorem nodup_inF {F : Nat → Option Pg} {n : Nat} (h : ∀ i, i < n → ∀ p v, F i = some (p, v) → p % n = i) (m : Nat) (hm : m ≤ n) : (inF F m).Nodup := by
  induction m with
  | zero => simp [inF]
  | succ m ih =>
    cases hF : F m with
    | none => rw [inF_none hF]; exact ih (by omega)
    | some y =>
      obtain ⟨q, u⟩ := y
      rw [inF_some hF, List.nodup_append]
      refine ⟨ih (by omega), by simp, fun a ha b hb e => ?_⟩
      obtain ⟨i, hi, p, v, e1, rfl⟩ := mem_inF.1 ha
      simp at hb
      subst hb
      have h1 := h i (by omega) p v e1
      have h2 := h m (by omega) q u hF
      have : p = q := by omega
      subst this
      omega
theorem Lk.sorted (h : Lk n s F K V) : (inF F n).mergeSort (fun x y => decide (x ≤ y)) = (K.map Prod.fst).map fun (p : Nat) => (p : Int) := by
  refine sort_isI (nodup_inF (fun i hi p v e => (h.bwd i hi p v e).1) n (Nat.le_refl _)) ?_ (fun x => ?_)
  · rw [List.pairwise_map]; exact h.srt
  · rw [mem_inF]
    constructor
    · rintro ⟨i, hi, p, v, e, rfl⟩
      obtain ⟨-, x, hx, e1⟩ := h.bwd i hi p v e
      exact List.mem_map.2 ⟨p, List.mem_map.2 ⟨x, hx, e1⟩, rfl⟩
    · intro hx
      obtain ⟨p, hp, rfl⟩ := List.mem_map.1 hx
      obtain ⟨x, hx2, rfl⟩ := List.mem_map.1 hp
      obtain ⟨v, h1, -⟩ := h.fwd x hx2
      exact ⟨_, Nat.mod_lt _ h.n0, _, v, h1, rfl⟩
theorem Lk.few (h : Lk n s F K V) : K.length ≤ n := by
  have h1 := congrArg List.length h.sorted
  rw [List.length_mergeSort, List.length_map, List.length_map] at h1
  rw [← h1]
  exact inF_length F n
/-- A page is opened. -/
theorem Lk.opens (h : Lk n s F K V) {P lb : Nat} (hP : F (P % n) = none) (hlb : ∀ x ∈ K, x.2 ≠ lb) : Lk n s (updF F (P % n) (some (P, fun _ => 0))) (insL (P, lb) K) (fun b j => if b = lb then 0 else V b j) := by
  have hperm := insL_perm (P, lb) K
  have hne : ∀ x ∈ K, x.1 % n ≠ P % n := fun x hx e => by
    obtain ⟨v, h1, -⟩ := h.fwd x hx
    rw [e, hP] at h1; cases h1
  refine ⟨h.n0, ?_, fun x hx => ?_, fun i hi p v e => ?_⟩
  · obtain ⟨l1, l2, e1, e2, e3, e4⟩ := insL_is (P, lb) K
    rw [e2]
    have hs := h.srt
    rw [e1] at hs
    obtain ⟨s1, s2, s3⟩ := List.pairwise_append.1 hs
    have hl1 : ∀ y ∈ l1, y.1 < P := fun y hy => by
      have h1 := e3 y hy
      have h2 := hne y (by rw [e1]; exact List.mem_append_left _ hy)
      simp only at h1
      rcases Nat.lt_or_eq_of_le h1 with h3 | h3
      · exact h3
      · exact absurd (by rw [h3]) h2
    have hl2 : ∀ y ∈ l2, P < y.1 := fun y hy => by
      cases l2 with
      | nil => simp at hy
      | cons z l3 =>
        have h1 := e4 z l3 rfl
        simp only at h1
        rcases List.mem_cons.1 hy with rfl | hy
        · exact h1
        · have := (List.pairwise_cons.1 s2).1 y hy; omega
    refine List.pairwise_append.2 ⟨s1, List.pairwise_cons.2 ⟨fun y hy => hl2 y hy, s2⟩, fun a ha b hb => ?_⟩
    rcases List.mem_cons.1 hb with rfl | hb
    · exact hl1 a ha
    · exact s3 a ha b hb
  · rcases List.mem_cons.1 (hperm.mem_iff.1 hx) with rfl | hx
    · exact ⟨fun _ => 0, updF_same _ _ _, fun j _ => by simp⟩
    · obtain ⟨v, h1, h2⟩ := h.fwd x hx
      exact ⟨v, by rw [updF_other _ _ (hne x hx)]; exact h1, fun j hj => by rw [if_neg (hlb x hx)]; exact h2 j hj⟩
  · by_cases e1 : i = P % n
    · subst e1
      rw [updF_same] at e; cases e
      exact ⟨rfl, (P, lb), hperm.mem_iff.2 (by simp), rfl⟩
    · rw [updF_other _ _ e1] at e
      obtain ⟨h1, x, hx, h2⟩ := h.bwd i hi p v e
      exact ⟨h1, x, hperm.mem_iff.2 (List.mem_cons_of_mem _ hx), h2⟩
theorem mem_erase {i : Nat} (hs : K.Pairwise (fun a b => a.1 < b.1)) {x : Nat × Nat} (hi : i < K.length) : x ∈ K.eraseIdx i ↔ x ∈ K ∧ x.1 ≠ (getK K i).1 := by
  rw [List.mem_eraseIdx_iff_getElem?]
  constructor
  · rintro ⟨j, hj, e⟩
    have hjl := (List.getElem?_eq_some_iff.1 e).1
    have e' : getK K j = x := by simp [getK, List.getD_eq_getElem?_getD, e]
    refine ⟨List.mem_of_getElem? e, fun h1 => ?_⟩
    rw [← e'] at h1
    rcases Nat.lt_or_gt_of_ne hj with h | h
    · have := srt_lt hs h hi; omega
    · have := srt_lt hs h hjl; omega
  · rintro ⟨h1, h2⟩
    obtain ⟨j, hj, e⟩ := mem_getK h1
    exact ⟨j, fun e' => h2 (by rw [← e, e']), by rw [getK_some hj, e]⟩
/-- A page is closed. -/
theorem Lk.closes (h : Lk n s F K V) {P i : Nat} (hi : i < K.length) (hP : (getK K i).1 = P) : Lk n s (updF F (P % n) none) (K.eraseIdx i) V := by
  refine ⟨h.n0, h.srt.sublist (List.eraseIdx_sublist K i), fun x hx => ?_, fun j hj p v e => ?_⟩
  · obtain ⟨h1, h2⟩ := (mem_erase h.srt hi).1 hx
    obtain ⟨v, h3, h4⟩ := h.fwd x h1
    obtain ⟨u, h5, -⟩ := h.fwd _ (getK_mem hi)
    rw [hP] at h2 h5
    refine ⟨v, ?_, h4⟩
    rw [updF_other _ _ (fun e => ?_)]
    · exact h3
    · rw [e, h5] at h3
      cases h3
      exact h2 rfl
  · by_cases e1 : j = P % n
    · subst e1; rw [updF_same] at e; cases e
    · rw [updF_other _ _ e1] at e
      obtain ⟨h1, x, hx, h2⟩ := h.bwd j hj p v e
      refine ⟨h1, x, (mem_erase h.srt hi).2 ⟨hx, fun e2 => e1 ?_⟩, h2⟩
      rw [← h1, ← h2, e2, hP]
def updB (V : Nat → Nat → Int) (b : Nat) (v : Nat → Int) : Nat → Nat → Int := fun b' => if b' = b then v else V b'
/-- A page's words are others. -/
theorem Lk.writes (h : Lk n s F K V) {P i : Nat} {v v' u : Nat → Int} (hi : i < K.length) (hP : (getK K i).1 = P) (hF : F (P % n) = some (P, v)) (hnd : (K.map Prod.snd).Nodup) (hu : ∀ j, j < s → u j = v' j) : Lk n s (updF F (P % n) (some (P, v'))) K (updB V (getK K i).2 u) := by
  have huniq : ∀ x ∈ K, x.1 % n = P % n → x = getK K i := fun x hx e => by
    obtain ⟨w, h1, -⟩ := h.fwd x hx
    rw [e, hF] at h1
    cases h1
    obtain ⟨j, hj, ej⟩ := mem_getK hx
    rcases Nat.lt_trichotomy i j with hij | hij | hij
    · have := srt_lt h.srt hij hj; rw [ej] at this; omega
    · rw [hij, ej]
    · have := srt_lt h.srt hij hi; rw [ej] at this; omega
  refine ⟨h.n0, h.srt, fun x hx => ?_, fun j hj p w e => ?_⟩
  · by_cases e : x.1 % n = P % n
    · have := huniq x hx e
      subst this
      rw [hP]
      exact ⟨v', updF_same _ _ _, fun j hj => by simp [updB, hu j hj]⟩
    · obtain ⟨w, h1, h2⟩ := h.fwd x hx
      refine ⟨w, by rw [updF_other _ _ e]; exact h1, fun j hj => ?_⟩
      have hb : x.2 ≠ (getK K i).2 := fun e2 => by
        obtain ⟨k, hk, ek⟩ := mem_getK hx
        have hki : k ≠ i := fun e3 => e (by rw [← ek, e3, hP])
        have := List.nodup_iff_pairwise_ne.1 hnd
        have h3 := List.pairwise_iff_getElem.1 this
        have g1 : getK K k = K[k] := by simp [getK, List.getD_eq_getElem?_getD, hk]
        have g2 : getK K i = K[i] := by simp [getK, List.getD_eq_getElem?_getD, hi]
        rcases Nat.lt_or_gt_of_ne hki with h4 | h4
        · have := h3 k i (by simpa using hk) (by simpa using hi) h4
          simp only [List.getElem_map] at this
          rw [← g1, ← g2, ek] at this
          exact this e2
        · have := h3 i k (by simpa using hi) (by simpa using hk) h4
          simp only [List.getElem_map] at this
          rw [← g1, ← g2, ek] at this
          exact this e2.symm
      simp only [updB, if_neg hb]
      exact h2 j hj
  · by_cases e1 : j = P % n
    · subst e1
      rw [updF_same] at e; cases e
      exact ⟨rfl, getK K i, getK_mem hi, hP⟩
    · rw [updF_other _ _ e1] at e
      exact h.bwd j hj p w e
end
end Go.Proofs.YtfghfbmmaclcnaaGreat
namespace Go.Proofs.YtfghfbmmaclcnaaGreat
set_option maxRecDepth 20000
open Go.RowKit
/-- Both in memory, apart from each other, from block B on. -/
structure Bh (B D t m n : Nat) (bits : Int) (c : Nat) (F : Nat → Option Pg) (K : List (Nat × Nat)) (V : Nat → Nat → Int) (S M : Nat → Prop) (vl : Value) (w : World) : Prop where
  pb : PB w S t n bits c F
  rb : RbIs w M m n bits K V vl
  sb : ∀ k, S k → B ≤ k ∧ k < w.heap.size ∧ k ≠ D
  mb : ∀ k, M k → B ≤ k ∧ k < w.heap.size ∧ k ≠ D
  dl : D < w.heap.size
  ap : ∀ k, S k → ¬ M k
/-- The blocks from B on but D. -/
def Ow (B D : Nat) : Nat → Prop := fun k => B ≤ k ∧ k ≠ D
def Bo (B D t m n : Nat) (bits : Int) (c : Nat) (F : Nat → Option Pg) (K : List (Nat × Nat)) (V : Nat → Nat → Int) (w : World) : Prop := ∃ S M vl, Bh B D t m n bits c F K V S M vl w ∧ Lk n (sizeN bits) F K V
section
variable {B D t m n : Nat} {bits : Int} {c : Nat} {F : Nat → Option Pg} {K : List (Nat × Nat)} {V : Nat → Nat → Int} {S M : Nat → Prop} {vl : Value} {w w' : World}
theorem Bh.size (h : Bh B D t m n bits c F K V S M vl w) : B ≤ w.heap.size := by have := h.mb m h.rb.sm; omega
theorem Bh.below (h : Bh B D t m n bits c F K V S M vl w) (hb : Below w.heap.size w w') : Bh B D t m n bits c F K V S M vl w' :=
  ⟨h.pb.below hb, h.rb.below hb, fun k hk => ⟨(h.sb k hk).1, Nat.lt_of_lt_of_le (h.sb k hk).2.1 hb.size, (h.sb k hk).2.2⟩, fun k hk => ⟨(h.mb k hk).1, Nat.lt_of_lt_of_le (h.mb k hk).2.1 hb.size, (h.mb k hk).2.2⟩, Nat.lt_of_lt_of_le h.dl hb.size, h.ap⟩
theorem Bo.other (h : Bo B D t m n bits c F K V w) (o : Obj) : Bo B w.heap.size t m n bits c F K V (w.alloc o) := by
  obtain ⟨S, M, vl, h, l⟩ := h
  have hb := (Below.refl w.heap.size w).alloc (Nat.le_refl _) o
  have h' := h.below hb
  exact ⟨S, M, vl, ⟨h'.pb, h'.rb, fun k hk => ⟨(h'.sb k hk).1, (h'.sb k hk).2.1, by have := (h.sb k hk).2.1; omega⟩, fun k hk => ⟨(h'.mb k hk).1, (h'.mb k hk).2.1, by have := (h.mb k hk).2.1; omega⟩, by simp, h'.ap⟩, l⟩
theorem Bo.size (h : Bo B D t m n bits c F K V w) : B ≤ w.heap.size := by obtain ⟨S, M, vl, h, -⟩ := h; exact h.size
theorem Bo.below (h : Bo B D t m n bits c F K V w) (hb : Below w.heap.size w w') : Bo B D t m n bits c F K V w' := by
  obtain ⟨S, M, vl, h, l⟩ := h; exact ⟨S, M, vl, h.below hb, l⟩
theorem Bo.more (h : Bo B D t m n bits c F K V w) {c' : Nat} (hc : c ≤ c') : Bo B D t m n bits c' F K V w := by
  obtain ⟨S, M, vl, h, l⟩ := h; exact ⟨S, M, vl, ⟨h.pb.more hc, h.rb, h.sb, h.mb, h.dl, h.ap⟩, l⟩
theorem Bh.prog (h : Bh B D t m n bits c F K V S M vl w) {S' : Nat → Prop} {c' : Nat} {F' : Nat → Option Pg} (hk : Keeps S w w') (hp : PB w' S' t n bits c' F') (hS : ∀ k, S' k → S k ∨ (w.heap.size ≤ k ∧ k < w'.heap.size)) : Bh B D t m n bits c' F' K V S' M vl w' ∧ Keeps (Ow B D) w w' := by
  have hsz := hk.size
  have hB := h.size
  refine ⟨⟨hp, h.rb.keep hk (fun k hm hs => h.ap k hs hm), fun k hs => ?_, fun k hm => ⟨(h.mb k hm).1, Nat.lt_of_lt_of_le (h.mb k hm).2.1 hsz, (h.mb k hm).2.2⟩, Nat.lt_of_lt_of_le h.dl hsz, fun k hs hm => ?_⟩, hk.wider (fun k _ hs => ⟨(h.sb k hs).1, (h.sb k hs).2.2⟩)⟩
  · rcases hS k hs with h1 | h1
    · have := h.sb k h1; omega
    · have := h.dl; omega
  · rcases hS k hs with h1 | h1
    · exact h.ap k h1 hm
    · have := h.mb k hm; omega
theorem Bh.ref (h : Bh B D t m n bits c F K V S M vl w) {M' : Nat → Prop} {K' : List (Nat × Nat)} {V' : Nat → Nat → Int} {vl' : Value} (hk : Keeps M w w') (hp : RbIs w' M' m n bits K' V' vl') (hM : ∀ k, M' k → M k ∨ (w.heap.size ≤ k ∧ k < w'.heap.size)) : Bh B D t m n bits c F K' V' S M' vl' w' ∧ Keeps (Ow B D) w w' := by
  have hsz := hk.size
  have hB := h.size
  refine ⟨⟨h.pb.keep hk (fun k hs hm => h.ap k hs hm), hp, fun k hs => ⟨(h.sb k hs).1, Nat.lt_of_lt_of_le (h.sb k hs).2.1 hsz, (h.sb k hs).2.2⟩, fun k hm => ?_, Nat.lt_of_lt_of_le h.dl hsz, fun k hs hm => ?_⟩, hk.wider (fun k _ hm => ⟨(h.mb k hm).1, (h.mb k hm).2.2⟩)⟩
  · rcases hM k hm with h1 | h1
    · have := h.mb k h1; omega
    · have := h.dl; omega
  · rcases hM k hm with h1 | h1
    · exact h.ap k hs h1
    · have := h.sb k hs; omega
end
section
variable {B D t m n : Nat} {bits : Int} {c : Nat} {F : Nat → Option Pg} {K : List (Nat × Nat)} {V : Nat → Nat → Int} {w : World}
/-- Open, on both. -/
theorem open_both (h : Bo B D t m n bits c F K V w) (pg : Int) (hpg : pg ≤ 9223372036854775807) : ∃ (er : Int) (Hf : World → Prop),
    (Calls Tryz.prog 77 #[.pointer (some ⟨t, 0, none⟩), .int .i64 pg] w fun e w' => e = .returned (.int .i64 er) ∧ Hf w' ∧ Keeps (Ow B D) w w') ∧
    (∀ w', Hf w' → Calls Tryz.prog 105 #[.pointer (some ⟨m, 0, none⟩), .int .i64 pg] w' fun e w'' => e = .returned (.int .i64 er) ∧ (∃ F' K' V', Bo B D t m n bits c F' K' V' w'') ∧ Keeps (Ow B D) w' w'') := by
  obtain ⟨S, M, vl, h, l⟩ := h
  have hB := h.size
  have hfew : K.length ≤ 1000 := by have := l.few; have := h.rb.hn; omega
  by_cases h0 : pg < 0
  · refine ⟨1, fun w' => Bh B D t m n bits c F K V S M vl w', (pb_open_neg t pg h0 w).mono ?_, fun w' h' => (rb_open_neg m pg h0 w').mono ?_⟩
    · rintro e w' ⟨rfl, rfl⟩; exact ⟨rfl, h, Keeps.refl _ _⟩
    · rintro e w'' ⟨rfl, rfl⟩; exact ⟨rfl, ⟨F, K, V, S, M, vl, h', l⟩, Keeps.refl _ _⟩
  obtain ⟨P, rfl⟩ := Int.eq_ofNat_of_zero_le (show 0 ≤ pg by omega)
  obtain ⟨fb, g, o, hp⟩ := h.pb
  cases hF : F (P % n) with
  | none =>
    refine ⟨0, fun w' => ∃ S', Bh B D t m n bits c (updF F (P % n) (some (P, fun _ => 0))) K V S' M vl w', (pb_open_yes hp P (by omega) hF (fun k hk => (h.sb k hk).2.1)).mono ?_, ?_⟩
    · rintro e w' ⟨rfl, hp', hk⟩
      obtain ⟨h1, h2⟩ := h.prog hk hp' (fun k hs => hs)
      exact ⟨rfl, ⟨_, h1⟩, h2⟩
    · rintro w' ⟨S', h'⟩
      refine (rb_open_yes h'.rb hfew P (by omega) (fun j hj e => ?_)).mono ?_
      · obtain ⟨v, h1, -⟩ := l.fwd _ (getK_mem hj)
        rw [e, hF] at h1; cases h1
      · rintro e w'' ⟨rfl, ⟨lb, vl', hr, hlb⟩, hk⟩
        obtain ⟨h1, h2⟩ := h'.ref hk hr (fun k hs => hs)
        refine ⟨rfl, ⟨_, _, _, _, _, _, h1, l.opens hF (fun x hx => ?_)⟩, h2⟩
        have h3 := h'.rb.ws x hx 0 (by have := sizeN_pos h'.rb.hb; omega)
        have := World.block_lt_of_cell? w' _ h3.1
        simp only at this
        omega
  | some x =>
    obtain ⟨p, v⟩ := x
    by_cases hpP : p = P
    · subst hpP
      obtain ⟨i, hi, e1, e2, -⟩ := l.here hF
      refine ⟨8, fun w' => Bh B D t m n bits c F K V S M vl w', (pb_open_there hp p v hF).mono ?_, fun w' h' => (rb_open_there h'.rb i hi p e1 e2).mono ?_⟩
      · rintro e w' ⟨rfl, b⟩; exact ⟨rfl, h.below b, Below.keeps b⟩
      · rintro e w'' ⟨rfl, rfl⟩; exact ⟨rfl, ⟨F, K, V, S, M, vl, h', l⟩, Keeps.refl _ _⟩
    · have hno : ∀ u, F (P % n) ≠ some (P, u) := fun u e => by rw [hF] at e; cases e; exact hpP rfl
      obtain ⟨hm, y, hy, ey⟩ := l.bwd _ (Nat.mod_lt _ l.n0) p v hF
      obtain ⟨i, hi, ei⟩ := mem_getK hy
      refine ⟨10, fun w' => Bh B D t m n bits c F K V S M vl w', (pb_open_busy hp P (by omega) p v hF hpP).mono ?_, fun w' h' => (rb_open_busy h'.rb P (by omega) (l.goneN hno) i hi (by rw [ei, ey]; exact hm)).mono ?_⟩
      · rintro e w' ⟨rfl, b⟩; exact ⟨rfl, h.below b, Below.keeps b⟩
      · rintro e w'' ⟨rfl, b⟩; exact ⟨rfl, ⟨F, K, V, S, M, vl, h'.below b, l⟩, Below.keeps b⟩
theorem in_or {n : Nat} (F : Nat → Option Pg) (pg : Int) : (∃ (P : Nat) (v : Nat → Int), pg = (P : Int) ∧ F (P % n) = some (P, v)) ∨ ∀ P : Nat, pg = (P : Int) → ∀ v, F (P % n) ≠ some (P, v) := by
  by_cases h : ∃ (P : Nat) (v : Nat → Int), pg = (P : Int) ∧ F (P % n) = some (P, v)
  · exact .inl h
  · exact .inr (fun P e v hF => h ⟨P, v, e, hF⟩)
/-- Close, on both. -/
theorem close_both (h : Bo B D t m n bits c F K V w) (pg : Int) (hpg : pg ≤ 9223372036854775807) : ∃ (er : Int) (Hf : World → Prop),
    (Calls Tryz.prog 166 #[.pointer (some ⟨t, 0, none⟩), .int .i64 pg] w fun e w' => e = .returned (.int .i64 er) ∧ Hf w' ∧ Keeps (Ow B D) w w') ∧
    (∀ w', Hf w' → Calls Tryz.prog 109 #[.pointer (some ⟨m, 0, none⟩), .int .i64 pg] w' fun e w'' => e = .returned (.int .i64 er) ∧ (∃ F' K' V', Bo B D t m n bits c F' K' V' w'') ∧ Keeps (Ow B D) w' w'') := by
  obtain ⟨S, M, vl, h, l⟩ := h
  have hB := h.size
  have hfew : K.length ≤ 1000 := by have := l.few; have := h.rb.hn; omega
  obtain ⟨fb, g, o, hp⟩ := h.pb
  rcases in_or (n := n) F pg with ⟨P, v, rfl, hF⟩ | hno
  · obtain ⟨i, hi, e1, e2, -⟩ := l.here hF
    refine ⟨0, fun w' => Bh B D t m n bits c (updF F (P % n) none) K V S M vl w', (pb_close_yes hp P v hF).mono ?_, fun w' h' => (rb_close_yes h'.rb hfew i hi P e1 e2).mono ?_⟩
    · rintro e w' ⟨rfl, hp', hk⟩
      obtain ⟨h1, h2⟩ := h.prog hk hp' (fun k hs => .inl hs)
      exact ⟨rfl, h1, h2⟩
    · rintro e w'' ⟨rfl, ⟨vl', hr⟩, hk⟩
      obtain ⟨h1, h2⟩ := h'.ref hk hr (fun k hs => hs)
      exact ⟨rfl, ⟨_, _, _, _, _, _, h1, l.closes hi e1⟩, h2⟩
  · refine ⟨7, fun w' => Bh B D t m n bits c F K V S M vl w', (pb_close_no hp pg hpg hno).mono ?_, fun w' h' => (rb_close_no h'.rb pg (l.gone hno)).mono ?_⟩
    · rintro e w' ⟨rfl, b⟩; exact ⟨rfl, h.below b, Below.keeps b⟩
    · rintro e w'' ⟨rfl, rfl⟩; exact ⟨rfl, ⟨F, K, V, S, M, vl, h', l⟩, Keeps.refl _ _⟩
/-- In. -/
theorem in_is (h : Bo B D t m n bits c F K V w) : Calls Tryz.prog 13 #[.pointer (some ⟨t, 0, none⟩)] w fun e w' => ∃ ao cap, e = .returned (.slice ao K.length cap) ∧ Sl .i64 w' ao K.length (fun j => ((getK K j).1 : Int)) ∧ Below w.heap.size w w' := by
  obtain ⟨S, M, vl, h, l⟩ := h
  obtain ⟨fb, g, o, hp⟩ := h.pb
  refine (pb_in hp ((K.map Prod.fst).map fun (p : Nat) => (p : Int)) l.sorted.symm).mono ?_
  rintro e w' ⟨ao, cap, rfl, hs, b⟩
  refine ⟨ao, cap, by simp, fun j hj => ?_, b⟩
  obtain ⟨b', off, e1, e2⟩ := hs j (by simpa using hj)
  refine ⟨b', off, e1, ?_⟩
  rw [e2]
  simp [List.getD_eq_getElem?_getD, getK, hj]
/-- Has, and At. -/
theorem has_both (h : Bo B D t m n bits c F K V w) (pg : Int) (hpg : pg ≤ 9223372036854775807) : ∃ (i : Int),
    (Calls Tryz.prog 16 #[.pointer (some ⟨t, 0, none⟩), .int .i64 pg] w fun e w' => e = .returned (.bool (decide (0 ≤ i))) ∧ Below w.heap.size w w') ∧
    (∀ w', Below w.heap.size w w' → Calls Tryz.prog 115 #[.pointer (some ⟨m, 0, none⟩), .int .i64 pg] w' fun e w'' => e = .returned (.int .i64 i) ∧ w'' = w') := by
  obtain ⟨S, M, vl, h, l⟩ := h
  obtain ⟨fb, g, o, hp⟩ := h.pb
  rcases in_or (n := n) F pg with ⟨P, v, rfl, hF⟩ | hno
  · obtain ⟨i, hi, e1, e2, -⟩ := l.here hF
    refine ⟨(i : Int), (pb_has_yes hp P v hF).mono ?_, fun w' b => rb_at_yes (h.below b).rb i hi P e1 e2⟩
    rintro e w' ⟨rfl, k, rfl⟩
    exact ⟨by simp, below_drewN (Below.refl _ _) k⟩
  · refine ⟨-1, (pb_has_no hp pg hpg hno).mono ?_, fun w' b => rb_at_no (h.below b).rb pg (l.gone hno)⟩
    rintro e w' ⟨rfl, k, rfl⟩
    exact ⟨by simp, below_drewN (Below.refl _ _) k⟩
end
end Go.Proofs.YtfghfbmmaclcnaaGreat
