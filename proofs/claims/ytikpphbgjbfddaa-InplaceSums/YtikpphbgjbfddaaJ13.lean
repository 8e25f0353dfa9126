/- Parts of the proof: Pc. -/
import Derived.Test.YtikpphbgjbfddaaJ9
namespace Go.Proofs.Ytikpphbgjbfddaa
set_option maxRecDepth 20000
open Go.RowKit
theorem Try.infoHeld : (Try.prog.info? 130).map (fun i => (i.zero, i.size, i.bytes)) = some (some (.agg #[.int .i64 0, .pointer none]), 2, 16) := by kernel_rfl
section
variable {w w' : World} {S : Nat → Prop} {t fb n : Nat} {bits : Int} {c : Nat} {g : Nat → Nat × Nat} {o : Nat → Nat} {F : Nat → Option Pg}
def set2 (w : World) (b k : Nat) (u0 u1 : Value) : World := (w.setCell ⟨b, k, none⟩ u0).setCell ⟨b, k + 1, none⟩ u1
theorem set2_keeps (w : World) (b k : Nat) (u0 u1 : Value) : Keeps (fun j => j = b) w (set2 w b k u0 u1) := ((Keeps.refl (fun j => j = b) w).setCell ⟨b, k, none⟩ (fun _ => rfl) u0).setCell ⟨b, k + 1, none⟩ (fun _ => rfl) u1
theorem set2_here {w : World} {b k : Nat} {a0 a1 : Value} (u0 u1 : Value) (h0 : w.cell? ⟨b, k, none⟩ = some a0) (h1 : w.cell? ⟨b, k + 1, none⟩ = some a1) : (set2 w b k u0 u1).cell? ⟨b, k, none⟩ = some u0 ∧ (set2 w b k u0 u1).cell? ⟨b, k + 1, none⟩ = some u1 := by
  unfold set2
  refine ⟨?_, ?_⟩
  · rw [cell_set_off _ _ _ _ (by omega)]; exact World.cell?_setCell_same _ _ _ h0
  · exact World.cell?_setCell_same _ _ _ (by rw [cell_set_off _ _ _ _ (by omega)]; exact h1)
theorem set2_else {w : World} {b k j : Nat} (u0 u1 : Value) (h0 : j ≠ k) (h1 : j ≠ k + 1) : (set2 w b k u0 u1).cell? ⟨b, j, none⟩ = w.cell? ⟨b, j, none⟩ := by
  unfold set2
  rw [cell_set_off _ _ _ _ (fun e => h1 e.symm), cell_set_off _ _ _ _ (fun e => h0 e.symm)]
theorem set2_frozen (w : World) (b k : Nat) (u0 u1 : Value) (p : Addr) : (set2 w b k u0 u1).frozen? p = w.frozen? p := by
  unfold set2
  rw [World.frozen?_setCell, World.frozen?_setCell]
/-- A frame is written. -/
theorem PbIs.put (h : PbIs w S t fb n bits c g o F) {i : Nat} (hi : i < n) (u0 u1 : Value) (x : Option Pg) (rb : Nat × Nat) (hx : (x = none ∧ (∃ z : Int, u0 = .int .i64 z) ∧ u1 = .pointer none) ∨ ∃ p v, x = some (p, v) ∧ u0 = .int .i64 (p : Int) ∧ u1 = .pointer (some ⟨rb.1, 0, none⟩) ∧ p % n = i ∧ p ≤ 9223372036854775807 ∧ S rb.1 ∧ S rb.2 ∧ RowIs w rb.1 rb.2 (sizeN bits) v 0 0)
    (hn1 : ∀ j, j < n → ∀ p v, F j = some (p, v) → j ≠ i → x ≠ none → (g j).1 ≠ rb.1 ∧ (g j).1 ≠ rb.2 ∧ (g j).2 ≠ rb.1 ∧ (g j).2 ≠ rb.2) (hn2 : x ≠ none → t ≠ rb.1 ∧ t ≠ rb.2 ∧ fb ≠ rb.1 ∧ fb ≠ rb.2) :
    ∃ g' o', PbIs (set2 w fb (i * 2) u0 u1) S t fb n bits c g' o' (updF F i x) := by
  have K := set2_keeps w fb (i * 2) u0 u1
  have hne : t ≠ fb := fun e => by have h1 := h.ot; have h2 := h.of; rw [e] at h1; omega
  have hg : ∀ j, j < n → ∀ p v, F j = some (p, v) → (g j).1 ≠ fb ∧ (g j).2 ≠ fb := fun j hj p v e => by
    obtain ⟨-, -, o1, o2⟩ := h.own j hj p v e
    have := h.of
    exact ⟨fun e => by rw [e] at o1; omega, fun e => by rw [e] at o2; omega⟩
  obtain ⟨a0, q0⟩ := h.first i hi
  obtain ⟨a1, q1⟩ : ∃ u, w.cell? ⟨fb, i * 2 + 1, none⟩ = some u := by
    cases e : F i with
    | none => exact ⟨_, (h.non i hi e).2⟩
    | some x => exact ⟨_, (h.som i hi x.1 x.2 e).2.1⟩
  obtain ⟨r0, r1⟩ := set2_here u0 u1 q0 q1
  obtain ⟨o', ho'⟩ : ∃ o' : Nat → Nat, o' = if x = none then o else fun k => if k = rb.1 ∨ k = rb.2 then i else o k := ⟨_, rfl⟩
  have no' : x = none → o' = o := fun e => by rw [ho', if_pos e]
  have so' : x ≠ none → o' = fun k => if k = rb.1 ∨ k = rb.2 then i else o k := fun e => by rw [ho', if_neg e]
  have oo : ∀ k, (x ≠ none → k ≠ rb.1 ∧ k ≠ rb.2) → o' k = o k := fun k hk => by
    by_cases e : x = none
    · rw [no' e]
    · rw [so' e]
      exact if_neg (fun h => by rcases h with h | h; exact (hk e).1 h; exact (hk e).2 h)
  refine ⟨fun j => if j = i then rb else g j, o', ?_, ?_, h.hn, h.hb, h.st, h.sf, ?_, ?_, fun j hj => by rw [set2_frozen]; exact h.ff j hj, fun j hj e => ?_, fun j hj q u e => ?_, fun j hj q u e => ?_, fun j hj q u e => ?_⟩
  · rw [K.cell h.lt hne]; exact h.c0
  · rw [K.cell h.lt hne]; exact h.c1
  · rw [oo t (fun e => ⟨(hn2 e).1, (hn2 e).2.1⟩)]; exact h.ot
  · rw [oo fb (fun e => ⟨(hn2 e).2.2.1, (hn2 e).2.2.2⟩)]; exact h.of
  · by_cases e1 : j = i
    · subst e1
      rw [updF_same] at e
      rcases hx with ⟨-, ⟨z, hz⟩, hx⟩ | ⟨p, v, hx, -⟩
      · exact ⟨⟨z, by rw [r0, hz]⟩, by rw [r1, hx]⟩
      · rw [hx] at e; cases e
    · rw [updF_other _ _ e1] at e
      rw [set2_else _ _ (by omega) (by omega), set2_else _ _ (by omega) (by omega)]
      exact h.non j hj e
  · by_cases e1 : j = i
    · subst e1
      rw [updF_same] at e
      rcases hx with ⟨hx, -⟩ | ⟨p, v, hx, e2, e3, e4, e5, -⟩
      · rw [hx] at e; cases e
      · rw [hx] at e; cases e
        simp only [if_true]
        exact ⟨by rw [r0, e2], by rw [r1, e3], e4, e5⟩
    · rw [updF_other _ _ e1] at e
      rw [set2_else _ _ (by omega) (by omega), set2_else _ _ (by omega) (by omega)]
      simp only [if_neg e1]
      exact h.som j hj q u e
  · by_cases e1 : j = i
    · subst e1
      rw [updF_same] at e
      rcases hx with ⟨hx, -⟩ | ⟨p, v, hx, -, -, -, -, -, -, e6⟩
      · rw [hx] at e; cases e
      · have hxn : x ≠ none := by rw [hx]; simp
        rw [hx] at e; cases e
        simp only [if_true]
        exact ⟨0, 0, by omega, by omega, e6.keep K (fun e => (hn2 hxn).2.2.1 e.symm) (fun e => (hn2 hxn).2.2.2 e.symm)⟩
    · rw [updF_other _ _ e1] at e
      simp only [if_neg e1]
      obtain ⟨x1, y1, h1, h2, h3⟩ := h.row j hj q u e
      obtain ⟨g1, g2⟩ := hg j hj q u e
      exact ⟨x1, y1, h1, h2, h3.keep K g1 g2⟩
  · by_cases e1 : j = i
    · subst e1
      rw [updF_same] at e
      rcases hx with ⟨hx, -⟩ | ⟨p, v, hx, -, -, -, -, s1, s2, -⟩
      · rw [hx] at e; cases e
      · have hxn : x ≠ none := by rw [hx]; simp
        simp only [if_true]
        rw [so' hxn]
        exact ⟨s1, s2, by simp, by simp⟩
    · rw [updF_other _ _ e1] at e
      simp only [if_neg e1]
      obtain ⟨s1, s2, o1, o2⟩ := h.own j hj q u e
      refine ⟨s1, s2, ?_, ?_⟩
      · rw [oo _ (fun hxn => ⟨(hn1 j hj q u e e1 hxn).1, (hn1 j hj q u e e1 hxn).2.1⟩)]; exact o1
      · rw [oo _ (fun hxn => ⟨(hn1 j hj q u e e1 hxn).2.2.1, (hn1 j hj q u e e1 hxn).2.2.2⟩)]; exact o2
end
section
variable {w : World} {S : Nat → Prop} {t fb n : Nat} {bits : Int} {c : Nat} {g : Nat → Nat × Nat} {o : Nat → Nat} {F : Nat → Option Pg}
set_option maxHeartbeats 400000 in
theorem pb_open_neg (t : Nat) (page : Int) (hp : page < 0) (w : World) :
    Calls Try.prog 48 #[.pointer (some ⟨t, 0, none⟩), .int .i64 page] w fun e w' => e = .returned (.int .i64 1) ∧ w' = w := by
  go_enter Try.func48, Try.ntmps48
  go_wp2
  go_ret
  exact ⟨rfl, rfl⟩
set_option maxHeartbeats 400000 in
theorem pb_open_there (h : PbIs w S t fb n bits c g o F) (P : Nat) (v : Nat → Int) (hP : F (P % n) = some (P, v)) :
    Calls Try.prog 48 #[.pointer (some ⟨t, 0, none⟩), .int .i64 (P : Int)] w fun e w' => e = .returned (.int .i64 8) ∧ Below w.heap.size w w' := by
  go_enter Try.func48, Try.ntmps48
  go_wp2_with fail
  refine (pb_has_yes h P v hP).mono ?_
  rintro e x ⟨rfl, m, rfl⟩
  have b1 := below_drewN (Below.refl w.heap.size w) m
  clear h hP
  go_wp2
  go_ret
  exact ⟨rfl, b1⟩
set_option maxHeartbeats 400000 in
theorem pb_open_busy (h : PbIs w S t fb n bits c g o F) (P : Nat) (hPm : P ≤ 9223372036854775807) (p : Nat) (v : Nat → Int) (hP : F (P % n) = some (p, v)) (hne : p ≠ P) :
    Calls Try.prog 48 #[.pointer (some ⟨t, 0, none⟩), .int .i64 (P : Int)] w fun e w' => e = .returned (.int .i64 10) ∧ Below w.heap.size w w' := by
  have hh := pb_has_no h (P : Int) (by omega) (fun Q e u hF => by
    have : P = Q := by omega
    subst this
    rw [hP] at hF
    cases hF
    exact hne rfl)
  have hf : ∀ m, Calls Try.prog 74 #[.pointer (some ⟨t, 0, none⟩), .int .i64 (P : Int)] (w.drewN m) fun e w' => e = .returned (.pointer (some ⟨fb, (P % n) * 2, none⟩)) ∧ ∃ k, w' = (w.drewN m).drewN k := fun m => pb_frame (h.below (below_drewN (Below.refl w.heap.size w) m)) P hPm
  obtain ⟨h1, h2, -, -⟩ := h.som _ (h.mod_lt P) p v hP
  clear h hP hne
  obtain ⟨q, hqq⟩ : ∃ q, q = P % n := ⟨_, rfl⟩
  rw [← hqq] at h1 h2 hf
  clear hqq
  go_enter Try.func48, Try.ntmps48
  go_wp2_with fail
  refine hh.mono ?_
  rintro e x ⟨rfl, m, rfl⟩
  go_wp2_with fail
  refine (hf m).mono ?_
  rintro e x ⟨rfl, k, rfl⟩
  rw [drewN_drewN]
  have b1 := below_drewN (Below.refl w.heap.size w) (m + k)
  clear hf hh
  go_wp2
  go_ret
  exact ⟨rfl, b1⟩
set_option maxHeartbeats 1000000 in
theorem pb_open_yes (h : PbIs w S t fb n bits c g o F) (P : Nat) (hPm : P ≤ 9223372036854775807) (hP : F (P % n) = none) (hS : ∀ k, S k → k < w.heap.size) :
    Calls Try.prog 48 #[.pointer (some ⟨t, 0, none⟩), .int .i64 (P : Int)] w fun e w' => e = .returned (.int .i64 0) ∧ PB w' (More S w w') t n bits c (updF F (P % n) (some (P, fun _ => 0))) ∧ Keeps S w w' := by
  have hh := pb_has_no h (P : Int) (by omega) (fun Q e u hF => by
    have : P = Q := by omega
    subst this
    rw [hP] at hF
    cases hF)
  have hf : ∀ m, Calls Try.prog 74 #[.pointer (some ⟨t, 0, none⟩), .int .i64 (P : Int)] (w.drewN m) fun e w' => e = .returned (.pointer (some ⟨fb, (P % n) * 2, none⟩)) ∧ ∃ k, w' = (w.drewN m).drewN k := fun m => pb_frame (h.below (below_drewN (Below.refl w.heap.size w) m)) P hPm
  have hq := h.mod_lt P
  obtain ⟨⟨u0, h1⟩, h2⟩ := h.non _ hq hP
  have f1 := h.ff ((P % n) * 2) (by omega)
  have f2 := h.ff ((P % n) * 2 + 1) (by omega)
  have c0 := h.c0
  have hfl := h.flt
  have hs1 := sizeN_pos h.hb
  have hs2 := sizeN_bounds bits
  have HP : Hid (∀ w1 r b, Below w.heap.size w w1 → RowIs w1 r b (sizeN bits) (fun _ => 0) 0 0 → w.heap.size ≤ r → w.heap.size ≤ b → PB (set2 w1 fb ((P % n) * 2) (.int .i64 (P : Int)) (.pointer (some ⟨r, 0, none⟩))) (More S w (set2 w1 fb ((P % n) * 2) (.int .i64 (P : Int)) (.pointer (some ⟨r, 0, none⟩)))) t n bits c (updF F (P % n) (some (P, fun _ => 0))) ∧ Keeps S w (set2 w1 fb ((P % n) * 2) (.int .i64 (P : Int)) (.pointer (some ⟨r, 0, none⟩)))) := by
    intro w1 r b b1 hR hr hb
    have hsz : (set2 w1 fb ((P % n) * 2) (.int .i64 (P : Int)) (.pointer (some ⟨r, 0, none⟩))).heap.size = w1.heap.size := by simp [set2, World.setCell]
    have lr : r < w1.heap.size := World.block_lt_of_cell? w1 _ hR.c0
    have lb : b < w1.heap.size := World.block_lt_of_cell? w1 _ (hR.cs 0 (by omega))
    have h' := (h.below b1).wider (T := More S w (set2 w1 fb ((P % n) * 2) (.int .i64 (P : Int)) (.pointer (some ⟨r, 0, none⟩)))) (fun k hk => .inl hk)
    have lt := h.lt
    have far : ∀ k, k < w.heap.size → k ≠ r ∧ k ≠ b := fun k hk => ⟨by omega, by omega⟩
    obtain ⟨g', o', h''⟩ := h'.put hq (.int .i64 (P : Int)) (.pointer (some ⟨r, 0, none⟩)) (some (P, fun _ => 0)) (r, b) (.inr ⟨P, _, rfl, rfl, rfl, rfl, hPm, .inr ⟨hr, by rw [hsz]; exact lr⟩, .inr ⟨hb, by rw [hsz]; exact lb⟩, hR⟩)
      (fun j hj p v e _ _ => by
        obtain ⟨s1, s2, -⟩ := h.own j hj p v e
        exact ⟨(far _ (hS _ s1)).1, (far _ (hS _ s1)).2, (far _ (hS _ s2)).1, (far _ (hS _ s2)).2⟩)
      (fun _ => ⟨(far t lt).1, (far t lt).2, (far fb hfl).1, (far fb hfl).2⟩)
    exact ⟨⟨fb, g', o', h''⟩, (Below.keeps (S := S) b1).trans (set2_keeps _ _ _ _ _) (fun k _ e => by subst e; exact h.sf)⟩
  clear h hP hS
  obtain ⟨q, hqq⟩ : ∃ q, q = P % n := ⟨_, rfl⟩
  rw [← hqq] at h1 h2 hf HP f1 f2 ⊢
  clear hqq hq
  go_enter Try.func48, Try.ntmps48
  go_wp2_with fail
  refine hh.mono ?_
  rintro e x ⟨rfl, m, rfl⟩
  go_wp2_with fail
  refine (hf m).mono ?_
  rintro e x ⟨rfl, k, rfl⟩
  rw [drewN_drewN]
  have b1 := below_drewN (Below.refl w.heap.size w) (m + k)
  clear hf hh
  go_wp2_with fail
  refine (psize_any bits _).mono ?_
  rintro e x ⟨rfl, rfl⟩
  go_wp2_with fail
  refine (new_yes (sizeN bits) (by omega) (by omega) _).mono ?_
  rintro e x ⟨r, b, rfl, hR, hr, hb, b2⟩
  replace b2 := b1.trans (b2.mono b1.size)
  have k1 : x.cell? ⟨fb, q * 2, none⟩ = some (.int .i64 u0) := by rw [b2.cell hfl]; exact h1
  have k2 : x.cell? ⟨fb, q * 2 + 1, none⟩ = some (.pointer none) := by rw [b2.cell hfl]; exact h2
  have k3 : x.frozen? ⟨fb, q * 2, none⟩ = false := by rw [b2.frozen hfl]; exact f1
  have k4 : x.frozen? ⟨fb, q * 2 + 1, none⟩ = false := by rw [b2.frozen hfl]; exact f2
  have HP' := hide (HP.out x r b b2 hR (by simpa using hr) (by simpa using hb))
  clear HP hR hr hb b1 b2 h1 h2 f1 f2 c0
  go_wp2
  go_ret
  exact ⟨rfl, HP'.out.1, HP'.out.2⟩
theorem pb_new_no (bits frames : Int) (h : mayB bits = false ∨ frames < 2 ∨ 8 < frames) (w : World) :
    Calls Try.prog 18 #[.int .i64 bits, .int .i64 frames] w fun e w' => e = .returned (.tuple #[.pointer none, .int .i64 1]) ∧ w' = w := by
  cases hm : mayB bits
  · clear h
    go_enter Try.func18, Try.ntmps18
    go_wp2_with fail
    refine (may_any _ _).mono ?_
    rintro e x ⟨rfl, rfl⟩
    rw [hm]
    go_wp2
    go_ret2
    exact ⟨rfl, rfl⟩
  · rw [hm] at h
    by_cases h2 : frames < 2
    · clear h
      go_enter Try.func18, Try.ntmps18
      go_wp2_with fail
      refine (may_any _ _).mono ?_
      rintro e x ⟨rfl, rfl⟩
      rw [hm]
      go_wp2
      go_ret2
      exact ⟨rfl, rfl⟩
    · have h8 : 8 < frames := by simp at h; omega
      clear h
      go_enter Try.func18, Try.ntmps18
      go_wp2_with fail
      refine (may_any _ _).mono ?_
      rintro e x ⟨rfl, rfl⟩
      rw [hm]
      go_wp2
      go_ret2
      exact ⟨rfl, rfl⟩
theorem made_two (u0 u1 : Value) (m j : Nat) (hj : j < m) : (madeCells #[u0, u1] m).toList[j]? = some (if j % 2 = 0 then u0 else u1) := by
  have h2 : j % 2 < 2 := Nat.mod_lt _ (by decide)
  simp only [madeCells, Array.toList_map, List.getElem?_map, Array.getElem?_toList]
  rw [Array.getElem?_eq_getElem (by simpa using hj)]
  simp
  rcases (show j % 2 = 0 ∨ j % 2 = 1 by omega) with e | e <;> simp [e]
set_option maxRecDepth 10000 in
set_option maxHeartbeats 1000000 in
theorem pb_new_yes (bits : Int) (n : Nat) (hb : 5 ≤ bits ∧ bits ≤ 9) (hn : 2 ≤ n ∧ n ≤ 8) (w : World) :
    Calls Try.prog 18 #[.int .i64 bits, .int .i64 (n : Int)] w fun e w' => ∃ t, e = .returned (.tuple #[.pointer (some ⟨t, 0, none⟩), .int .i64 0]) ∧ PB w' (fun k => w.heap.size ≤ k ∧ k < w'.heap.size) t n bits 0 (fun _ => none) ∧ Below w.heap.size w w' := by
  have hm : mayB bits = true := by simp only [mayB, decide_eq_true_eq]; exact hb
  obtain ⟨i0, hi, hz0, hz1, hz2⟩ := info_parts Try.infoHeld
  go_enter Try.func18, Try.ntmps18
  go_wp2_with fail
  refine (may_any _ _).mono ?_
  rintro e x ⟨rfl, rfl⟩
  rw [hm]
  go_wp2_with (at_make; refine wpList_make_full _ rfl _ _ 92 rfl x.heap.size 130 i0 (.agg #[.int .i64 0, .pointer none]) 2 Try.underlying92 hi hz0 hz1 _ _ _ _ n rfl rfl rfl rfl ?b1 ?b2 (Nat.le_refl _) ?_)
  case b1 => rw [hz2]; omega
  case b2 => unfold maxLen; omega
  intro w1 hown hgrow
  have hb1 : Below x.heap.size x w1 := (Below.refl _ _).grown hgrow (Nat.le_refl _) (by simp)
  have HC : Hid (∀ j, j < n * 2 → w1.cell? ⟨x.heap.size, j, none⟩ = some (if j % 2 = 0 then .int .i64 0 else .pointer none) ∧ w1.frozen? ⟨x.heap.size, j, none⟩ = false) := fun j hj => by
    have hc := hown.cells (g := x.heap.size) rfl j _ (made_two (.int .i64 0) (.pointer none) (n * 2) j hj)
    have hadd : (⟨x.heap.size, 0, none⟩ : Addr).add j = ⟨x.heap.size, j, none⟩ := by unfold Addr.add; split <;> simp_all
    rw [hadd] at hc
    exact ⟨hc, hown.frozenAt j⟩
  generalize hgg : x.heap.size = g at *
  have HG : Hid (x.heap.size = g) := hgg
  clear hown hgrow hgg
  go_wp2
  go_ret2
  have hlt : g < w1.heap.size := World.block_lt_of_cell? w1 _ (HC.out 0 (by omega)).1
  have b2 := (Below.refl w1.heap.size w1).alloc (Nat.le_refl _) (Obj.cells #[.int .i64 bits, .slice (some ⟨g, 0, none⟩) n n] 94)
  have hcl : ∀ j, j < n * 2 → (w1.alloc (Obj.cells #[.int .i64 bits, .slice (some ⟨g, 0, none⟩) n n] 94)).cell? ⟨g, j, none⟩ = some (if j % 2 = 0 then .int .i64 0 else .pointer none) := fun j hj => by rw [b2.cell hlt]; exact (HC.out j hj).1
  refine ⟨w1.heap.size, rfl, ⟨g, fun _ => (0, 0), fun k => if k = w1.heap.size then n else n + 1, ?_⟩, by rw [HG.out]; exact hb1.alloc (by omega) _⟩
  refine ⟨by simp, by simp, hn, hb, ?_, ?_, by simp, by rw [if_neg (by omega)], fun j hj => by rw [b2.frozen hlt]; exact (HC.out j hj).2, fun i hi _ => ⟨⟨0, by rw [hcl _ (by omega), if_pos (by omega)]⟩, ?_⟩, (fun i hi p v e => by cases e), (fun i hi p v e => by cases e), (fun i hi p v e => by cases e)⟩
  · show x.heap.size ≤ w1.heap.size ∧ _
    rw [HG.out]; simp; omega
  · rw [HG.out]; simp; omega
  · rw [hcl _ (by omega), if_neg (by omega)]
/-- The pages in the first k frames. -/
def inF (F : Nat → Option Pg) : Nat → List Int
  | 0 => []
  | k + 1 => inF F k ++ (match F k with | none => [] | some x => [(x.1 : Int)])
theorem inF_none {F : Nat → Option Pg} {k : Nat} (h : F k = none) : inF F (k + 1) = inF F k := by simp [inF, h]
theorem inF_some {F : Nat → Option Pg} {k p : Nat} {v : Nat → Int} (h : F k = some (p, v)) : inF F (k + 1) = inF F k ++ [(p : Int)] := by simp [inF, h]
theorem inF_length (F : Nat → Option Pg) (k : Nat) : (inF F k).length ≤ k := by
  induction k with
  | zero => simp [inF]
  | succ k ih =>
    cases h : F k with
    | none => rw [inF_none h]; omega
    | some x => rw [inF_some h]; simp; omega
end
end Go.Proofs.Ytikpphbgjbfddaa
