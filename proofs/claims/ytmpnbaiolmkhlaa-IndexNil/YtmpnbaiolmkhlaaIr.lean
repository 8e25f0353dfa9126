/- The program's index: New, Claim, Turn, Spare. -/
import Derived.Test.YtmpnbaiolmkhlaaIq
namespace Go.Proofs.Ytmpnbaiolmkhlaa
set_option maxRecDepth 20000
open Go.RowKit
set_option maxHeartbeats 1000000 in
theorem px_slot {w : World} {x rr rb tr tb B S : Nat} {g : Nat → Nat} {T won lost : Nat} {lk : Int} (h : PxIs w x rr rb tr tb B S g T won lost lk) (s b k : Nat) (hs : s = 8 * b + k) (hb : b < B + S) (hk : k < 7) :
    Calls Try.prog 49 #[.pointer (some ⟨x, 0, none⟩), .int .i64 (s : Int)] w fun e w' => e = .returned (.bool true) ∧ Below w.heap.size w w' := by
  have hbs := h.bs
  have HLEN := hide (fun n => len_any rr _ _ _ (w.drewN n) (h.row.drew n).c0)
  have d1 : (s : Int) < ((8 * (B + S) : Nat) : Int) := by omega
  have d2 : (s : Int) % 8 = (k : Int) := by omega
  have d3 : ((k : Int) != 7) = true := by simp; omega
  have c2 := h.c2
  generalize 8 * (B + S) = n at *
  clear h hs
  go_enter Try.func49, Try.ntmps49
  go_wp2_with fail
  refine (HLEN.out 0).mono ?_
  rintro e y ⟨rfl, rfl⟩
  go_wp2
  go_ret
  exact ⟨ret_bool (by first | (simp; done) | (simp; omega)), below_drewN (Below.refl _ _) _⟩
set_option maxHeartbeats 1000000 in
theorem px_new_yes (B S : Nat) (hB : powB (B : Int) = true) (hS : S ≤ 64) (w : World) :
    Calls Try.prog 6 #[.int .i64 (B : Int), .int .i64 (S : Int)] w fun e w' => ∃ x rr rb tr tb, e = .returned (.tuple #[.pointer (some ⟨x, 0, none⟩), .int .i64 0]) ∧ PxIs w' x rr rb tr tb B S (fun _ => 0) 0 0 0 0 ∧ (∀ i, PxOwn x rr rb tr tb i → w.heap.size ≤ i) ∧ Below w.heap.size w w' := by
  have hr := powB_range hB
  have HN := hide (fun w : World => new_yes (8 * (B + S)) (by omega) (by omega) w)
  have HN1 := hide (fun w : World => new_yes 1 (by omega) (by omega) w)
  have e8 : ((8 * (B + S) : Nat) : Int) = 8 * ((B : Int) + (S : Int)) := by omega
  rw [e8] at HN
  go_enter Try.func6, Try.ntmps6
  go_wp2_with fail
  refine (mmay_any (B : Int) _).mono ?_
  rintro e w0 ⟨rfl, rfl⟩
  rw [hB]
  go_wp2_with fail
  refine (HN.out _).mono ?_
  rintro e w1 ⟨rr, rb, rfl, h1, l1, l2, b1⟩
  go_wp2_with fail
  refine (HN1.out _).mono ?_
  rintro e w2 ⟨tr, tb, rfl, h2, l3, l4, b2⟩
  have hbs := b1.size
  have hbs2 := b2.size
  have lr : rr < w1.heap.size := World.block_lt_of_cell? _ _ h1.c0
  have lb : rb < w1.heap.size := World.block_lt_of_cell? _ _ (h1.cs 0 (by omega))
  have ltr : tr < w2.heap.size := World.block_lt_of_cell? _ _ h2.c0
  have ltb : tb < w2.heap.size := World.block_lt_of_cell? _ _ (h2.cs 0 (by omega))
  have H1 := hide (h1.under b2)
  have H2 := hide h2
  have B2 := b1.trans (b2.mono b1.size)
  clear h1 h2 HN HN1 b1 b2
  go_wp2
  go_ret2
  have hbn := (Below.refl w2.heap.size w2).alloc (Nat.le_refl _) (.cells #[.int .i64 (B : Int), .int .i64 (S : Int), .pointer (some ⟨rr, 0, none⟩), .pointer (some ⟨tr, 0, none⟩), .int .i32 0, .int .u32 0] 76)
  refine ⟨w2.heap.size, rr, rb, tr, tb, rfl, ⟨by simp, by simp, by simp, by simp, by simp, by simp, H1.out.under hbn, ?_, by omega, by omega, by omega, by omega⟩, fun i hi => ?_, B2.alloc B2.size _⟩
  · exact ⟨0, (H2.out.under hbn).same (fun i hi => rfl)⟩
  · rcases hi with rfl | rfl | rfl | rfl | rfl <;> omega
theorem px_new_no (B S : Int) (h : powB B = false ∨ S < 0 ∨ 64 < S) (w : World) :
    Calls Try.prog 6 #[.int .i64 B, .int .i64 S] w fun e w' => e = .returned (.tuple #[.pointer none, .int .i64 1]) ∧ Below w.heap.size w w' := by
  cases hB : powB B
  · clear h
    go_enter Try.func6, Try.ntmps6
    go_wp2_with fail
    refine (mmay_any B _).mono ?_
    rintro e w0 ⟨rfl, rfl⟩
    rw [hB]
    go_wp2
    go_ret2
    exact ⟨rfl, Below.refl _ _⟩
  · have h2 : S < 0 ∨ 64 < S := by
      rcases h with h | h
      · rw [hB] at h; cases h
      · exact h
    clear h
    by_cases h0 : S < 0
    · clear h2
      go_enter Try.func6, Try.ntmps6
      go_wp2_with fail
      refine (mmay_any B _).mono ?_
      rintro e w0 ⟨rfl, rfl⟩
      rw [hB]
      go_wp2
      go_ret2
      exact ⟨rfl, Below.refl _ _⟩
    · have h1 : 64 < S := by omega
      clear h2
      go_enter Try.func6, Try.ntmps6
      go_wp2_with fail
      refine (mmay_any B _).mono ?_
      rintro e w0 ⟨rfl, rfl⟩
      rw [hB]
      go_wp2
      go_ret2
      exact ⟨rfl, Below.refl _ _⟩
/-- A try that wins, whatever was counted. -/
theorem i64_add_any (b off : Nat) (x y : Int) (w : World) (h0 : w.cell? ⟨b, off, none⟩ = some (.int .i64 x)) (f0 : w.frozen? ⟨b, off, none⟩ = false) :
    Calls Try.prog 78 #[.pointer (some ⟨b, off, none⟩), .int .i64 y] w fun e w' => ∃ s, e = .returned (.int .i64 s) ∧ w' = w.setCell ⟨b, off, none⟩ (.int .i64 s) := by
  obtain ⟨s, hs⟩ : ∃ s, (Op.intArith .add .i64 x y).run Try.prog w = .ok (.int .i64 s) w := ⟨_, by simp [Op.intArith]; rfl⟩
  have hc := run_call_add (P := Try.prog) Try.func95 (by kernel_rfl) (by kernel_rfl) (by kernel_rfl) .i64 (by kernel_rfl) h0 f0 hs
  go_enter Try.func78, Try.ntmps78
  go_wp2
  go_ret
  exact ⟨s, rfl, rfl⟩
set_option maxHeartbeats 400000 in
theorem kcas_any {r b n : Nat} {v : Nat → Int} {won lost : Int} {w : World} (h : RowIs w r b n v won lost) (i : Nat) (hi : i < n) (x : Int) (hx : v i = x) (y : Int) :
    Calls Try.prog 51 #[.pointer (some ⟨r, 0, none⟩), .int .i64 (i : Int), .int .u64 x, .int .u64 y] w fun e w' => e = .returned (.tuple #[.bool true, .int .i64 0]) ∧ (∃ c, RowIs w' r b n (updV v i y) c lost) ∧ Keeps (InRow r b) w w' := by
  subst hx
  have HR : Hid (∀ c, RowIs ((w.setCell ⟨b, i, none⟩ (.int .u64 y)).setCell ⟨r, 1, none⟩ (.int .i64 c)) r b n (updV v i y) c lost ∧ Keeps (InRow r b) w ((w.setCell ⟨b, i, none⟩ (.int .u64 y)).setCell ⟨r, 1, none⟩ (.int .i64 c))) := fun c => ⟨(h.word i hi y).wins _, ((Keeps.refl _ _).setCell _ (fun _ => .inr rfl) _).setCell _ (fun _ => .inl rfl) _⟩
  have h0 := h.c0
  have h1 := h.cs i hi
  have f1 := h.fs i hi
  have h2 := h.c1
  have f2 := h.f1
  have hne := h.ne
  clear h
  generalize v i = x at *
  go_enter Try.func51, Try.ntmps51
  go_wp2_with fail
  refine (one_yes r _ n n i hi _ h0).mono ?_
  rintro e w1 ⟨rfl, rfl⟩
  go_wp2_with fail
  refine (u64_hit b i x y _ h1 f1).mono ?_
  rintro e w1 ⟨rfl, rfl⟩
  go_wp2_with fail
  refine (i64_add_any r 1 won 1 _ ?_ ?_).mono ?_
  · rw [cell_set_block _ _ _ (fun e => hne e.symm)]; exact h2
  · rw [World.frozen?_setCell]; exact f2
  rintro e w1 ⟨s, rfl, rfl⟩
  go_wp2
  go_ret2
  exact ⟨rfl, ⟨s, (HR.out s).1⟩, (HR.out s).2⟩
/-- A try that wins. -/
theorem px_cas {w : World} {x rr rb tr tb B S : Nat} {g : Nat → Nat} {T won lost : Nat} {lk : Int} (h : PxIs w x rr rb tr tb B S g T won lost lk) (s o y : Nat) (hs : s < 8 * (B + S)) (ho : g s = o) (hw : won < 1000000) :
    Calls Try.prog 51 #[.pointer (some ⟨rr, 0, none⟩), .int .i64 (s : Int), .int .u64 (o : Int), .int .u64 (y : Int)] w fun e w' => e = .returned (.tuple #[.bool true, .int .i64 0]) ∧ PxIs w' x rr rb tr tb B S (ixUpd g s y) T (won + 1) lost lk ∧ Keeps (PxOwn x rr rb tr tb) w w' := by
  refine (kcas_hit h.row s hs (o : Int) (by unfold ixI; rw [ho]) (y : Int) (by omega)).mono ?_
  rintro e w' ⟨rfl, hr, hk⟩
  rw [ixI_upd] at hr
  have nx : ¬ InRow rr rb x := fun e => e.elim h.ne.1 h.ne.2.1
  have n2 := h.n2
  have nt : ¬ InRow rr rb tr := fun e => e.elim n2.1 n2.2.1
  have nb : ¬ InRow rr rb tb := fun e => e.elim n2.2.2.1 n2.2.2.2
  obtain ⟨l1, l2, l3, l4, l5⟩ := h.lt
  refine ⟨rfl, ⟨by rw [hk.cell l1 nx]; exact h.c0, by rw [hk.cell l1 nx]; exact h.c1, by rw [hk.cell l1 nx]; exact h.c2, by rw [hk.cell l1 nx]; exact h.c3, by rw [hk.cell l1 nx]; exact h.c4, by rw [hk.frozen l1 nx]; exact h.f4, hr, (by obtain ⟨c, k⟩ := h.tk; exact ⟨c, k.keep hk nt nb⟩), h.ne, h.n2, h.bs, ?_⟩, hk.wider (fun i _ hi => hi.elim (fun e => .inr (.inl e)) (fun e => .inr (.inr (.inl e))))⟩
  have := h.few
  omega
set_option maxHeartbeats 1000000 in
theorem px_claim {w : World} {x rr rb tr tb B S : Nat} {g : Nat → Nat} {T won lost : Nat} {lk : Int} (h : PxIs w x rr rb tr tb B S g T won lost lk) (s r j hN t : Nat) (hs : s = 8 * r + j) (hr : r < B + S) (hj : j < 7) (hh : hN < 18446744073709551616) (ht : hN / 1125899906842624 = t) (h0 : g s = 0) (hw : won < 1000000) :
    Calls Try.prog 17 #[.pointer (some ⟨x, 0, none⟩), .int .i64 (s : Int), .int .u64 (hN : Int)] w fun e w' => e = .returned (.tuple #[.bool true, .int .i64 0]) ∧ PxIs w' x rr rb tr tb B S (ixUpd g s (entN 0 t true)) T (won + 1) lost lk ∧ Keeps (PxOwn x rr rb tr tb) w w' := by
  have htl : t < 16384 := by omega
  have hE : entB 0 t true = true := entB_iff.2 ⟨by decide, htl, by simp⟩
  have HS := hide (px_slot h s r j hs hr hj)
  have HTA := fun (w : World) => tag_any hN w hh
  rw [ht] at HTA
  have HTA' := hide HTA
  have HF := efresh_says t _ 0 (fun w => epack_yes 0 t true w hE)
  obtain ⟨xx, hxx⟩ : ∃ xx, entN 0 t true = xx := ⟨_, rfl⟩
  rw [hxx] at HF ⊢
  have HF' := hide HF
  have HC : Hid (∀ Z : World, PxIs Z x rr rb tr tb B S g T won lost lk → _) := fun Z hZ => px_cas hZ s 0 xx (by omega) h0 hw
  have H := hide h
  clear h HTA HF hxx hs h0
  go_enter Try.func17, Try.ntmps17
  go_wp2_with fail
  refine HS.out.mono ?_
  rintro e y ⟨rfl, b1⟩
  go_wp2_with fail
  refine (HTA'.out _).mono ?_
  rintro e y2 ⟨rfl, b2⟩
  have B2 := b1.trans (b2.mono b1.size)
  clear b1 b2
  go_wp2_with fail
  refine (HF'.out _).mono ?_
  rintro e y3 ⟨rfl, b3⟩
  have B3 := B2.trans (b3.mono B2.size)
  have h3 := H.out.below B3
  have HC3 := hide (HC.out _ h3)
  have c2 := h3.c2
  clear h3 B2 b3
  go_wp2_with fail
  refine HC3.out.mono ?_
  rintro e y4 ⟨rfl, q, kk⟩
  have K := (Below.keeps (S := PxOwn x rr rb tr tb) B3).trans kk (fun _ _ t => t)
  go_wp2
  go_ret2
  exact ⟨rfl, q, K⟩
set_option maxHeartbeats 1000000 in
/-- Turn: to an address that may be, or not. -/
theorem px_turn_yes {w : World} {x rr rb tr tb B S : Nat} {g : Nat → Nat} {T won lost : Nat} {lk : Int} (h : PxIs w x rr rb tr tb B S g T won lost lk) (s r j y a : Nat) (hs : s = 8 * r + j) (hr : r < B + S) (hj : j < 7) (h0 : g s = y) (hy : IxEn y) (hE : entB a (ixTag y) false = true) (hw : won < 1000000) :
    Calls Try.prog 18 #[.pointer (some ⟨x, 0, none⟩), .int .i64 (s : Int), .int .u64 (y : Int), .int .u64 (a : Int)] w fun e w' => e = .returned (.tuple #[.bool true, .int .i64 0]) ∧ PxIs w' x rr rb tr tb B S (ixUpd g s (entN a (ixTag y) false)) T (won + 1) lost lk ∧ Keeps (PxOwn x rr rb tr tb) w w' := by
  have HS := hide (px_slot h s r j hs hr hj)
  have HT : Says 52 #[.int .u64 (y : Int), .int .u64 (a : Int)] (.returned (.tuple #[.int .u64 (entN a (ixTag y) false : Int), .int .i64 0])) := by
    obtain ⟨ea, et, ef, hE', rfl⟩ := hy
    rw [entN_tag hE'] at hE ⊢
    exact eto_yes _ ea a et _ ef 0 (pack_reads ea et ef hE').2 (fun w => epack_yes a et false w hE)
  obtain ⟨xx, hxx⟩ : ∃ xx, entN a (ixTag y) false = xx := ⟨_, rfl⟩
  rw [hxx] at HT ⊢
  have HT' := hide HT
  have HC : Hid (∀ Z : World, PxIs Z x rr rb tr tb B S g T won lost lk → _) := fun Z hZ => px_cas hZ s y xx (by omega) h0 hw
  have H := hide h
  clear h HT hxx hy hs h0
  go_enter Try.func18, Try.ntmps18
  go_wp2_with fail
  refine HS.out.mono ?_
  rintro e y1 ⟨rfl, b1⟩
  go_wp2_with fail
  refine (HT'.out _).mono ?_
  rintro e y3 ⟨rfl, b3⟩
  have B3 := b1.trans (b3.mono b1.size)
  have h3 := H.out.below B3
  have HC3 := hide (HC.out _ h3)
  have c2 := h3.c2
  clear h3 b1 b3
  go_wp2_with fail
  refine HC3.out.mono ?_
  rintro e y4 ⟨rfl, q, kk⟩
  have K := (Below.keeps (S := PxOwn x rr rb tr tb) B3).trans kk (fun _ _ t => t)
  go_wp2
  go_ret2
  exact ⟨rfl, q, K⟩
set_option maxHeartbeats 1000000 in
theorem px_turn_no {w : World} {x rr rb tr tb B S : Nat} {g : Nat → Nat} {T won lost : Nat} {lk : Int} (h : PxIs w x rr rb tr tb B S g T won lost lk) (s r j y a : Nat) (hs : s = 8 * r + j) (hr : r < B + S) (hj : j < 7) (hy : IxEn y) (hE : entB a (ixTag y) false = false) :
    Calls Try.prog 18 #[.pointer (some ⟨x, 0, none⟩), .int .i64 (s : Int), .int .u64 (y : Int), .int .u64 (a : Int)] w fun e w' => e = .returned (.tuple #[.bool false, .int .i64 1]) ∧ Below w.heap.size w w' := by
  have HS := hide (px_slot h s r j hs hr hj)
  have HT : Says 52 #[.int .u64 (y : Int), .int .u64 (a : Int)] (.returned (.tuple #[.int .u64 0, .int .i64 1])) := by
    obtain ⟨ea, et, ef, hE', rfl⟩ := hy
    rw [entN_tag hE'] at hE
    exact eto_yes _ ea a et 0 ef 1 (pack_reads ea et ef hE').2 (fun w => epack_no a et false w hE)
  have HT' := hide HT
  clear h HT hy hs
  go_enter Try.func18, Try.ntmps18
  go_wp2_with fail
  refine HS.out.mono ?_
  rintro e y1 ⟨rfl, b1⟩
  go_wp2_with fail
  refine (HT'.out _).mono ?_
  rintro e y3 ⟨rfl, b3⟩
  have B3 := b1.trans (b3.mono b1.size)
  go_wp2
  go_ret2
  exact ⟨rfl, B3⟩
set_option maxHeartbeats 1000000 in
theorem px_spare_no {w : World} {x rr rb tr tb B S : Nat} {g : Nat → Nat} {T won lost : Nat} {lk : Int} (h : PxIs w x rr rb tr tb B S g T won lost lk) (hT : S ≤ T) :
    Calls Try.prog 19 #[.pointer (some ⟨x, 0, none⟩)] w fun e w' => e = .returned (.tuple #[.int .i64 0, .int .i64 9]) ∧ Below w.heap.size w w' := by
  have c1 := h.c1
  have c3 := h.c3
  have hbs := h.bs
  obtain ⟨tc, htk⟩ := h.tk
  have HL := hide (rload htk 0 (by omega) (T : Int) rfl)
  have hw : IntKind.u64.wrap (S : Int) = (S : Int) := IntWalk.u64_in _ (by omega)
  clear h
  go_enter Try.func19, Try.ntmps19
  go_wp2_with fail
  refine HL.out.mono ?_
  rintro e y ⟨rfl, rfl⟩
  go_wp2
  go_loopw [4] (fun vi wr => vi = .int .u64 (T : Int) ∧ wr = y) (fun _ _ => 0)
  case atStart => exact ⟨rfl, rfl⟩
  case round =>
    obtain ⟨rfl, rfl⟩ := hrel
    go_wp2
    go_ret2
    exact ⟨rfl, Below.refl _ _⟩
set_option maxHeartbeats 1000000 in
theorem px_spare_yes {w : World} {x rr rb tr tb B S : Nat} {g : Nat → Nat} {T won lost : Nat} {lk : Int} (h : PxIs w x rr rb tr tb B S g T won lost lk) (hT : T < S) :
    Calls Try.prog 19 #[.pointer (some ⟨x, 0, none⟩)] w fun e w' => e = .returned (.tuple #[.int .i64 ((B + T : Nat) : Int), .int .i64 0]) ∧ PxIs w' x rr rb tr tb B S g (T + 1) won lost lk ∧ Keeps (PxOwn x rr rb tr tb) w w' := by
  have hbs := h.bs
  have c1 := h.c1
  have c3 := h.c3
  obtain ⟨tc, htk⟩ := h.tk
  have HL := hide (rload htk 0 (by omega) (T : Int) rfl)
  have HC := hide (kcas_any htk 0 (by omega) (T : Int) rfl ((T : Int) + 1))
  have hw : IntKind.u64.wrap (S : Int) = (S : Int) := IntWalk.u64_in _ (by omega)
  have hw2 : wrap64 (T : Int) = (T : Int) := IntWalk.wrap64_in _ (by omega)
  have HPX : Hid (∀ w', (∃ c, RowIs w' tr tb 1 (updV (fun _ => (T : Int)) 0 ((T : Int) + 1)) c 0) → Keeps (InRow tr tb) w w' → PxIs w' x rr rb tr tb B S g (T + 1) won lost lk ∧ Keeps (PxOwn x rr rb tr tb) w w') := fun w' hr hk => by
    have n2 := h.n2
    have nx : ¬ InRow tr tb x := fun e => e.elim h.ne.2.2.1 h.ne.2.2.2
    have nt : ¬ InRow tr tb rr := fun e => e.elim (fun e => n2.1 e.symm) (fun e => n2.2.2.1 e.symm)
    have nb : ¬ InRow tr tb rb := fun e => e.elim (fun e => n2.2.1 e.symm) (fun e => n2.2.2.2 e.symm)
    obtain ⟨l1, l2, l3, l4, l5⟩ := h.lt
    refine ⟨⟨by rw [hk.cell l1 nx]; exact h.c0, by rw [hk.cell l1 nx]; exact h.c1, by rw [hk.cell l1 nx]; exact h.c2, by rw [hk.cell l1 nx]; exact h.c3, by rw [hk.cell l1 nx]; exact h.c4, by rw [hk.frozen l1 nx]; exact h.f4, h.row.keep hk nt nb, ?_, h.ne, h.n2, h.bs, ?_⟩, hk.wider (fun i _ hi => hi.elim (fun e => .inr (.inr (.inr (.inl e)))) (fun e => .inr (.inr (.inr (.inr e)))))⟩
    · obtain ⟨c, hr⟩ := hr
      exact ⟨c, hr.same (fun i hi => by unfold updV; rw [if_pos (by omega)]; rfl)⟩
    · have := h.few
      omega
  have HR : Hid (((B + T : Nat) : Int) = (B : Int) + (T : Int)) := by show _ = _; omega
  rw [HR.out]
  clear h
  go_enter Try.func19, Try.ntmps19
  go_wp2_with fail
  refine HL.out.mono ?_
  rintro e y ⟨rfl, rfl⟩
  go_wp2
  go_loopw [4] (fun vi wr => vi = .int .u64 (T : Int) ∧ wr = y) (fun _ _ => 0)
  case atStart => exact ⟨rfl, rfl⟩
  case round =>
    obtain ⟨rfl, rfl⟩ := hrel
    go_wp2_with fail
    refine HC.out.mono ?_
    rintro e y2 ⟨rfl, hr, hk⟩
    obtain ⟨HP, HK⟩ := HPX.out y2 hr hk
    have c0 := HP.c0
    have HP' := hide HP
    clear HP hr hk
    go_wp2
    go_ret2
    exact ⟨by first | rfl | simp [hw2], HP'.out, HK⟩
end Go.Proofs.Ytmpnbaiolmkhlaa
