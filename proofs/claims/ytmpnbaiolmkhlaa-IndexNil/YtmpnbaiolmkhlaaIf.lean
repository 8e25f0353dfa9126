/- The reference's index: Slot, Try, Claim, Turn, Spare, Link. -/
import Derived.Test.YtmpnbaiolmkhlaaIe
namespace Go.Proofs.Ytmpnbaiolmkhlaa
set_option maxRecDepth 20000
open Go.RowKit
section
variable {w w' : World} {m r B S : Nat} {g : Nat → Nat} {T won lost : Nat}
theorem ix_set_block {w : World} (p q : Addr) (v : Value) (h : p.block ≠ q.block) : (w.setCell p v).cell? q = w.cell? q := World.cell?_setCell_other _ _ _ _ (fun e => h (by rw [e]))
theorem ix_set_off {w : World} (g i j : Nat) (v : Value) (h : i ≠ j) : (w.setCell ⟨g, i, none⟩ v).cell? ⟨g, j, none⟩ = w.cell? ⟨g, j, none⟩ := World.cell?_setCell_other _ _ _ _ (fun e => h (by cases e; rfl))
/-- A word is written. -/
theorem RxIs.word (h : RxIs w m r B S g T won lost) {b k : Nat} (hb : b < B + S) (hk : k < 8) (x : Nat) : RxIs (w.setCell ⟨r, b * 8 + k, none⟩ (.int .u64 (x : Int))) m r B S (ixUpd g (8 * b + k) x) T won lost := by
  have hn : (⟨r, b * 8 + k, none⟩ : Addr).block ≠ m := fun e => h.ne e.symm
  refine ⟨h.ne, ?_, ?_, ?_, ?_, ?_, ?_, ?_, ?_, ?_, ?_, ?_, ?_, h.bs, h.few⟩
  · rw [ix_set_block _ _ _ hn]; exact h.c0
  · rw [ix_set_block _ _ _ hn]; exact h.c1
  · rw [ix_set_block _ _ _ hn]; exact h.c2
  · rw [World.frozen?_setCell]; exact h.f2
  · rw [ix_set_block _ _ _ hn]; exact h.c3
  · rw [World.frozen?_setCell]; exact h.f3
  · rw [ix_set_block _ _ _ hn]; exact h.c4
  · rw [World.frozen?_setCell]; exact h.f4
  · rw [ix_set_block _ _ _ hn]; exact h.c5
  · rw [World.frozen?_setCell]; exact h.f5
  · intro b' hb' k' hk'
    by_cases e : 8 * b' + k' = 8 * b + k
    · obtain ⟨rfl, rfl⟩ : b' = b ∧ k' = k := by omega
      rw [ixUpd_same, World.cell?_setCell_same _ _ _ (h.cs b' hb' k' hk')]
    · rw [ixUpd_ne e, ix_set_off _ _ _ _ (by omega)]; exact h.cs b' hb' k' hk'
  · intro b' hb' k' hk'
    rw [World.frozen?_setCell]; exact h.fs b' hb' k' hk'
/-- One of its numbers is written. -/
theorem RxIs.num (h : RxIs w m r B S g T won lost) (i : Nat) (hi : i = 3 ∨ i = 4 ∨ i = 5) (x : Nat) (hx : x ≤ 1000000) :
    RxIs (w.setCell ⟨m, i, none⟩ (.int .i64 (x : Int))) m r B S g (if i = 3 then x else T) (if i = 4 then x else won) (if i = 5 then x else lost) := by
  have hn : (⟨m, i, none⟩ : Addr).block ≠ r := h.ne
  obtain ⟨q1, q2, q3⟩ := h.few
  refine ⟨h.ne, ?_, ?_, ?_, ?_, ?_, ?_, ?_, ?_, ?_, ?_, ?_, ?_, h.bs, ?_⟩
  · rw [ix_set_off _ _ _ _ (by omega)]; exact h.c0
  · rw [ix_set_off _ _ _ _ (by omega)]; exact h.c1
  · rw [ix_set_off _ _ _ _ (by omega)]; exact h.c2
  · rw [World.frozen?_setCell]; exact h.f2
  · by_cases e : i = 3
    · subst e; rw [if_pos rfl]; exact World.cell?_setCell_same _ _ _ h.c3
    · rw [if_neg e, ix_set_off _ _ _ _ e]; exact h.c3
  · rw [World.frozen?_setCell]; exact h.f3
  · by_cases e : i = 4
    · subst e; rw [if_pos rfl]; exact World.cell?_setCell_same _ _ _ h.c4
    · rw [if_neg e, ix_set_off _ _ _ _ e]; exact h.c4
  · rw [World.frozen?_setCell]; exact h.f4
  · by_cases e : i = 5
    · subst e; rw [if_pos rfl]; exact World.cell?_setCell_same _ _ _ h.c5
    · rw [if_neg e, ix_set_off _ _ _ _ e]; exact h.c5
  · rw [World.frozen?_setCell]; exact h.f5
  · intro b' hb' k' hk'
    rw [ix_set_block _ _ _ hn]; exact h.cs b' hb' k' hk'
  · intro b' hb' k' hk'
    rw [World.frozen?_setCell]; exact h.fs b' hb' k' hk'
  · refine ⟨?_, ?_, ?_⟩ <;> split <;> assumption
end
theorem RxIs.win {w : World} {m r B S : Nat} {g : Nat → Nat} {T won lost : Nat} (h : RxIs w m r B S g T won lost) (hx : won + 1 ≤ 1000000) : RxIs (w.setCell ⟨m, 4, none⟩ (.int .i64 ((won : Int) + 1))) m r B S g T (won + 1) lost := h.num 4 (by omega) (won + 1) hx
theorem RxIs.takes {w : World} {m r B S : Nat} {g : Nat → Nat} {T won lost : Nat} (h : RxIs w m r B S g T won lost) (x : Nat) (hx : x ≤ 1000000) : RxIs (w.setCell ⟨m, 3, none⟩ (.int .i64 (x : Int))) m r B S g x won lost := h.num 3 (by omega) x hx
/-- The reference's own blocks. -/
def RxOwn (m r : Nat) : Nat → Prop := fun x => x = m ∨ x = r
set_option maxHeartbeats 1000000 in
theorem rx_try {w : World} {m r B S : Nat} {g : Nat → Nat} {T won lost : Nat} (h : RxIs w m r B S g T won lost) (s x y : Nat) (hs : s < 8 * (B + S)) (hx : g s = x) (hw : won < 1000000) :
    Calls Try.prog 73 #[.pointer (some ⟨m, 0, none⟩), .int .i64 (s : Int), .int .u64 (x : Int), .int .u64 (y : Int)] w fun e w' => e = .returned (.bool true) ∧ RxIs w' m r B S (ixUpd g s y) T (won + 1) lost ∧ Keeps (RxOwn m r) w w' := by
  obtain ⟨b, hb⟩ : ∃ b, s / 8 = b := ⟨_, rfl⟩
  obtain ⟨k, hk⟩ : ∃ k, s % 8 = k := ⟨_, rfl⟩
  have hs1 : 8 * b + k = s := by omega
  have hb1 : b < B + S := by omega
  have hk1 : k < 8 := by omega
  have d1 : (s : Int) / 8 = (b : Int) := by omega
  have d2 : (s : Int) % 8 = (k : Int) := by omega
  have hN := h.win (by omega)
  have d3 : wrap64 (b : Int) = (b : Int) := by have := h.bs; exact IntWalk.wrap64_in _ (by omega)
  have hM := hN.word hb1 hk1 y
  rw [hs1] at hM
  have K : Keeps (RxOwn m r) w ((w.setCell ⟨m, 4, none⟩ (.int .i64 ((won : Int) + 1))).setCell ⟨r, b * 8 + k, none⟩ (.int .u64 (y : Int))) := ((Keeps.refl (RxOwn m r) w).setCell _ (fun _ => .inl rfl) _).setCell _ (fun _ => .inr rfl) _
  have H1 := hide hM
  have H2 := hide K
  have c2 := h.c2
  have c4 := h.c4
  have f4 := h.f4
  have cc := h.cs b hb1 k hk1
  have fc := h.fs b hb1 k hk1
  have c2' := hN.c2
  have cc' := hN.cs b hb1 k hk1
  have fc' := hN.fs b hb1 k hk1
  rw [hs1, hx] at cc cc'
  clear hM K hN h hs1
  go_enter Try.func73, Try.ntmps73
  go_wp2
  go_ret
  exact ⟨rfl, H1.out, H2.out⟩
theorem rx_slot {w : World} {m r B S : Nat} {g : Nat → Nat} {T won lost : Nat} (h : RxIs w m r B S g T won lost) (b k : Nat) (hb : b < B + S) (hk : k < 7) :
    Calls Try.prog 71 #[.pointer (some ⟨m, 0, none⟩), .int .i64 ((8 * b + k : Nat) : Int)] w fun e w' => e = .returned (.bool true) ∧ w' = w := by
  obtain ⟨s, hs⟩ : ∃ s, 8 * b + k = s := ⟨_, rfl⟩
  rw [hs]
  have hbs := h.bs
  have d1 : (s : Int) / 8 = (b : Int) := by omega
  have d2 : (s : Int) % 8 = (k : Int) := by omega
  have d3 : wrap64 (b : Int) = (b : Int) := IntWalk.wrap64_in _ (by omega)
  have d4 : ((k : Int) == 7) = false := by rw [beq_eq_false_iff_ne]; omega
  have hb1 : (b : Int) < (B : Int) + (S : Int) := by omega
  have c2 := h.c2
  clear h
  go_enter Try.func71, Try.ntmps71
  go_wp2
  go_ret
  exact ⟨ret_bool (by simp; omega), rfl⟩
set_option maxHeartbeats 1000000 in
theorem rx_claim {w : World} {m r B S : Nat} {g : Nat → Nat} {T won lost : Nat} (h : RxIs w m r B S g T won lost) (b k hN t : Nat) (hb : b < B + S) (hk : k < 7) (hh : hN < 18446744073709551616) (ht : hN / 1125899906842624 = t) (hx : g (8 * b + k) = 0) (hw : won < 1000000) :
    Calls Try.prog 37 #[.pointer (some ⟨m, 0, none⟩), .int .i64 ((8 * b + k : Nat) : Int), .int .u64 (hN : Int)] w fun e w' => e = .returned (.tuple #[.bool true, .int .i64 0]) ∧ RxIs w' m r B S (ixUpd g (8 * b + k) (entN 0 t true)) T (won + 1) lost ∧ Keeps (RxOwn m r) w w' := by
  have HS := hide (rx_slot h b k hb hk)
  have htl : t < 16384 := by omega
  have hE : entB 0 t true = true := entB_iff.2 ⟨by decide, htl, by simp⟩
  have HPK : Hid (∀ w : World, _) := fun w => rpackE_yes 0 t true w hE
  have HTR : Hid (∀ (w' : World) (x : Nat), RxIs w' m r B S g T won lost → _) := fun w' x h' => rx_try h' (8 * b + k) 0 x (by omega) hx hw
  have H := hide h
  have HTA := fun (w : World) => rtag_any hN w hh
  rw [ht] at HTA
  have HTA' := hide HTA
  clear HTA h hx
  obtain ⟨s, hs⟩ : ∃ s, 8 * b + k = s := ⟨_, rfl⟩
  obtain ⟨x, hxx⟩ : ∃ x, entN 0 t true = x := ⟨_, rfl⟩
  rw [hs] at HS HTR ⊢
  rw [hxx] at HPK ⊢
  clear hs hxx
  simp only [enV] at HPK
  go_enter Try.func37, Try.ntmps37
  go_wp2_with fail
  refine HS.out.mono ?_
  rintro e y ⟨rfl, rfl⟩
  go_wp2_with fail
  refine (HTA'.out _).mono ?_
  rintro e y2 ⟨rfl, rfl⟩
  go_wp2_with fail
  refine (HPK.out _).mono ?_
  rintro e z ⟨rfl, bz⟩
  have hz := H.out.below bz
  go_wp2_with fail
  refine (HTR.out _ x hz).mono ?_
  rintro e y3 ⟨rfl, q1, q2⟩
  have K := (Below.keeps (S := RxOwn m r) bz).trans q2 (fun _ _ t => t)
  go_wp2
  go_ret2
  exact ⟨rfl, q1, K⟩
set_option maxHeartbeats 1000000 in
/-- Turn of an entry that stands there, to an address that may not be. -/
theorem rx_turn_no {w : World} {m r B S : Nat} {g : Nat → Nat} {T won lost : Nat} (h : RxIs w m r B S g T won lost) (b k x a : Nat) (hb : b < B + S) (hk : k < 7) (hx : g (8 * b + k) = x) (hen : IxEn x) (hE : entB a (ixTag x) false = false) (hw : won < 1000000) :
    Calls Try.prog 36 #[.pointer (some ⟨m, 0, none⟩), .int .i64 ((8 * b + k : Nat) : Int), .int .u64 (x : Int), .int .u64 (a : Int)] w fun e w' => e = .returned (.tuple #[.bool false, .int .i64 1]) ∧ Below w.heap.size w w' := by
  have HS := hide (rx_slot h b k hb hk)
  have HTR : Hid (∀ (w' : World) (y : Nat), RxIs w' m r B S g T won lost → _) := fun w' y h' => rx_try h' (8 * b + k) x y (by omega) hx hw
  have H := hide h
  obtain ⟨ea, ef, hU⟩ := ref_reads_en hen
  have HU := hide hU
  have hPN := fun (w : World) => rpackE_no a (ixTag x) false w hE
  clear h hx hen hU
  obtain ⟨s, hs⟩ : ∃ s, 8 * b + k = s := ⟨_, rfl⟩
  obtain ⟨t, ht⟩ : ∃ t, ixTag x = t := ⟨_, rfl⟩
  rw [hs] at HS HTR ⊢
  rw [ht] at HU hPN hE
  clear hs ht
  simp only [enV] at HU hPN
  have HPK := hide hPN
  clear hPN
  go_enter Try.func36, Try.ntmps36
  go_wp2_with fail
  refine HS.out.mono ?_
  rintro e y ⟨rfl, rfl⟩
  go_wp2_with fail
  refine (HU.out _).mono ?_
  rintro e y2 ⟨rfl, b2⟩
  have b3 := b2.alloc b2.size (.cells #[.int .u64 (ea : Int), .int .u64 (t : Int), .bool ef] 40)
  go_wp2_with fail
  refine (HPK.out _).mono ?_
  rintro e z ⟨rfl, bz⟩
  have hb := b3.trans (bz.mono b3.size)
  go_wp2
  go_ret2
  exact ⟨rfl, hb⟩
set_option maxHeartbeats 1000000 in
/-- To one that may be. -/
theorem rx_turn_yes {w : World} {m r B S : Nat} {g : Nat → Nat} {T won lost : Nat} (h : RxIs w m r B S g T won lost) (b k x a : Nat) (hb : b < B + S) (hk : k < 7) (hx : g (8 * b + k) = x) (hen : IxEn x) (hE : entB a (ixTag x) false = true) (hw : won < 1000000) :
    Calls Try.prog 36 #[.pointer (some ⟨m, 0, none⟩), .int .i64 ((8 * b + k : Nat) : Int), .int .u64 (x : Int), .int .u64 (a : Int)] w fun e w' => e = .returned (.tuple #[.bool true, .int .i64 0]) ∧ RxIs w' m r B S (ixUpd g (8 * b + k) (entN a (ixTag x) false)) T (won + 1) lost ∧ Keeps (RxOwn m r) w w' := by
  have HS := hide (rx_slot h b k hb hk)
  have HTR : Hid (∀ (w' : World) (y : Nat), RxIs w' m r B S g T won lost → _) := fun w' y h' => rx_try h' (8 * b + k) x y (by omega) hx hw
  have H := hide h
  obtain ⟨ea, ef, hU⟩ := ref_reads_en hen
  have HU := hide hU
  have hPY := fun (w : World) => rpackE_yes a (ixTag x) false w hE
  clear h hx hen hU
  obtain ⟨s, hs⟩ : ∃ s, 8 * b + k = s := ⟨_, rfl⟩
  obtain ⟨t, ht⟩ : ∃ t, ixTag x = t := ⟨_, rfl⟩
  rw [hs] at HS HTR ⊢
  rw [ht] at HU hPY hE ⊢
  clear hs ht
  simp only [enV] at HU hPY
  have HPK := hide hPY
  clear hPY
  obtain ⟨xx, hxx⟩ : ∃ x, entN a t false = x := ⟨_, rfl⟩
  rw [hxx] at HPK ⊢
  clear hxx
  go_enter Try.func36, Try.ntmps36
  go_wp2_with fail
  refine HS.out.mono ?_
  rintro e y ⟨rfl, rfl⟩
  go_wp2_with fail
  refine (HU.out _).mono ?_
  rintro e y2 ⟨rfl, b2⟩
  have b3 := b2.alloc b2.size (.cells #[.int .u64 (ea : Int), .int .u64 (t : Int), .bool ef] 40)
  go_wp2_with fail
  refine (HPK.out _).mono ?_
  rintro e z ⟨rfl, bz⟩
  have hb := b3.trans (bz.mono b3.size)
  have hz := H.out.below hb
  go_wp2_with fail
  refine (HTR.out _ xx hz).mono ?_
  rintro e y3 ⟨rfl, q1, q2⟩
  have K := (Below.keeps (S := RxOwn m r) hb).trans q2 (fun _ _ t => t)
  go_wp2
  go_ret2
  exact ⟨rfl, q1, K⟩
theorem rx_spare_no {w : World} {m r B S : Nat} {g : Nat → Nat} {T won lost : Nat} (h : RxIs w m r B S g T won lost) (hT : S ≤ T) :
    Calls Try.prog 38 #[.pointer (some ⟨m, 0, none⟩)] w fun e w' => e = .returned (.tuple #[.int .i64 0, .int .i64 9]) ∧ Below w.heap.size w w' := by
  have c1 := h.c1
  have c3 := h.c3
  clear h
  go_enter Try.func38, Try.ntmps38
  go_wp2_with fail
  go_quiet ((fail))
  go_wp2
  go_ret2
  exact ⟨rfl, below_drewN (Below.refl _ _) _⟩
set_option maxHeartbeats 1000000 in
theorem rx_spare_yes {w : World} {m r B S : Nat} {g : Nat → Nat} {T won lost : Nat} (h : RxIs w m r B S g T won lost) (hT : T < S) :
    Calls Try.prog 38 #[.pointer (some ⟨m, 0, none⟩)] w fun e w' => e = .returned (.tuple #[.int .i64 ((B + T : Nat) : Int), .int .i64 0]) ∧ RxIs w' m r B S g (T + 1) won lost ∧ Keeps (RxOwn m r) w w' := by
  have hbs := h.bs
  have HR : Hid (((B + T : Nat) : Int) = (B : Int) + (T : Int)) := by show _ = _; omega
  rw [HR.out]
  have c1 := h.c1
  have c3 := h.c3
  have f3 := h.f3
  have H := hide h
  clear h
  go_enter Try.func38, Try.ntmps38
  go_wp2_with fail
  go_quiet ((fail))
  go_wp2_with fail
  have hX := (H.out.below (below_drewN (Below.refl _ _) nq)).takes (T + 1) (by omega)
  have KX := (Below.keeps (S := RxOwn m r) (below_drewN (Below.refl w.heap.size w) nq)).setCell ⟨m, 3, none⟩ (fun _ => .inl rfl) (.int .i64 ((T + 1 : Nat) : Int))
  rw [show ((T + 1 : Nat) : Int) = (T : Int) + 1 from rfl] at hX KX
  have HX := hide hX
  have d0 := hX.c0
  have d3 := hX.c3
  rw [show ((T + 1 : Nat) : Int) = (T : Int) + 1 from rfl] at d3
  clear hX c1 c3 f3 H
  generalize (w.drewN nq).setCell ⟨m, 3, none⟩ (.int .i64 ((T : Int) + 1)) = Y at *
  go_quiet ((fail))
  go_wp2
  go_ret2
  exact ⟨ret_two (by first | rfl | omega) rfl, HX.out.below (below_drewN (Below.refl _ _) _), KX.drewN _⟩
set_option maxHeartbeats 1000000 in
/-- A spare bucket that none links to is linked behind a chain that it isn't in. -/
theorem rx_link {w : World} {m r B S : Nat} {g : Nat → Nat} {T won lost : Nat} (h : RxIs w m r B S g T won lost) (b s : Nat) (hb : b < B + S) (hs : B ≤ s ∧ s < B + T) (hsn : s < B + S) (hne : s ≠ b) (hl : ∀ i, i < B + S → g (8 * i + 7) ≤ s) (hz : g (8 * s + 7) = 0) (hbz : g (8 * b + 7) = 0) (hw : won < 1000000) :
    Calls Try.prog 39 #[.pointer (some ⟨m, 0, none⟩), .int .i64 (b : Int), .int .i64 (s : Int)] w fun e w' => e = .returned (.tuple #[.bool true, .int .i64 0]) ∧ RxIs w' m r B S (ixUpd g (8 * b + 7) (s + 1)) T (won + 1) lost ∧ Keeps (RxOwn m r) w w' := by
  have hbs := h.bs
  have hfew := h.few
  have H := hide h
  have c0 := h.c0
  have c2 := h.c2
  have c3 := h.c3
  have i1 : (b : Int) < (B : Int) + (S : Int) := by omega
  have i2 : ¬ (s : Int) < (B : Int) := by omega
  have i3 : (s : Int) < (B : Int) + (T : Int) := by omega
  have i4 : IntKind.i64.wrap ((B : Int) + (T : Int)) = (B : Int) + (T : Int) := IntWalk.i64_in _ (by omega)
  have HT : Hid (∀ w' : World, RxIs w' m r B S g T won lost → _) := fun w' h' => rx_try h' (8 * b + 7) 0 (s + 1) (by omega) hbz hw
  have HC : Hid (∀ w' : World, RxIs w' m r B S g T won lost → _) := fun w' h' => rx_chain (l := [s]) h' (.last hz) (by simp; omega) (by simp; omega)
  have HL := hide hl
  clear h hl hz hbz
  go_enter Try.func39, Try.ntmps39
  go_wp2_with fail
  go_quiet ((fail))
  go_wp2
  go_loop [8] (fun vi => ∃ i : Nat, i ≤ B + S ∧ vi = .int .i64 (i : Int)) (fun vi => B + S - (intOf vi).toNat)
  case atStart => exact ⟨0, by omega, rfl⟩
  case round =>
    obtain ⟨i, hi, rfl⟩ := hrel
    by_cases hlt : i < B + S
    · have cc := H.out.cs i hlt 7 (by omega)
      have hG := HL.out i hlt
      have hi1 : (i : Int) < (B : Int) + (S : Int) := by omega
      generalize g (8 * i + 7) = G at *
      have hg : ((G : Int) == (s : Int) + 1) = false := by rw [beq_eq_false_iff_ne]; omega
      go_wp2
      go_round
      case rel => exact ⟨i + 1, by omega, by go_num⟩
      case measure => simp [intOf]; omega
    · go_wp2_with fail
      have hX := H.out.below (below_drewN (Below.refl _ _) nq)
      have KX := Below.keeps (S := RxOwn m r) (below_drewN (Below.refl w.heap.size w) nq)
      refine (HC.out _ hX).mono ?_
      rintro e x ⟨v, rfl, ho, bx⟩
      obtain ⟨q, capq, rfl, hq1, hq2, hqc⟩ := own_slI ho (by simp)
      have hqz := hqc 0 (by simp)
      simp only [List.getD_cons_zero] at hqz
      have hY := hX.below bx
      have KY := KX.trans (Below.keeps (S := RxOwn m r) bx) (fun _ _ t => t)
      have HY := hide hY
      have hsb : ((s : Int) == (b : Int)) = false := by rw [beq_eq_false_iff_ne]; omega
      clear hX KX ho bx hq1 hq2 hqc hY H HC c0 c2 c3
      simp only [List.length_cons, List.length_nil, Nat.zero_add]
      go_wp2
      go_loop [10] (fun vi => ∃ i : Nat, i ≤ 1 ∧ vi = .int .i64 (i : Int)) (fun vi => 1 - (intOf vi).toNat)
      case atStart => exact ⟨0, by omega, rfl⟩
      case round =>
        obtain ⟨j, hj, rfl⟩ := hrel
        by_cases hj0 : j = 0
        · subst hj0
          go_wp2
          go_round
          case rel => exact ⟨1, by omega, by go_num⟩
          case measure => simp [intOf]
        · obtain rfl : j = 1 := by omega
          go_wp2_with fail
          rw [show (b : Int) * 8 + 7 = ((8 * b + 7 : Nat) : Int) by omega, show (s : Int) + 1 = ((s + 1 : Nat) : Int) from rfl]
          refine (HT.out _ HY.out).mono ?_
          rintro e z ⟨rfl, q1, q2⟩
          have K := KY.trans q2 (fun _ _ t => t)
          go_wp2
          go_ret2
          exact ⟨rfl, q1, K⟩
end Go.Proofs.Ytmpnbaiolmkhlaa
