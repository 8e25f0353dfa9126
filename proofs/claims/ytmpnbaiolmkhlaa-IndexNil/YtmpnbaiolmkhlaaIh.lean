/- The reference's index: Drop. -/
import Derived.Test.YtmpnbaiolmkhlaaIg
namespace Go.Proofs.Ytmpnbaiolmkhlaa
set_option maxRecDepth 20000
open Go.RowKit
/-- Words that are read, in block p. -/
def SluAt (w : World) (p : Nat) (l : List Nat) : Prop := ∀ j, j < l.length → w.cell? ⟨p, j, none⟩ = some (.int .u64 (l.getD j 0 : Int))
theorem OwU.slu {w : World} {base p cap : Nat} {l : List Nat} (h : OwU w base p cap l) : SluAt w p l := fun j hj => by
  rw [h.cellAt j (by omega), uintsN_get l j hj, List.getD_eq_getElem?_getD]
theorem OwU.base {w : World} {base p cap : Nat} {l : List Nat} (h : OwU w base p cap l) : base ≤ p := (h.lt p rfl).1
theorem SluAt.keep {w w' : World} {p : Nat} {l : List Nat} (h : SluAt w p l) {M : Nat → Prop} (hk : Keeps M w w') (hp : ¬ M p) : SluAt w' p l := fun j hj => by
  rw [hk.cell (p := ⟨p, j, none⟩) (World.block_lt_of_cell? w _ (h j hj)) hp]; exact h j hj
/-- What is kept in Drop's inner loop. -/
structure DrpW (w wr : World) (r p n : Nat) (l : List Nat) (g : Nat → Nat) : Prop where
  ry : RyIs wr r n g
  sl : SluAt wr p l
  bel : Below w.heap.size w wr
theorem DrpW.word {w wr : World} {r p n : Nat} {l : List Nat} {g : Nat → Nat} (h : DrpW w wr r p n l g) (hr : w.heap.size ≤ r) (hpr : p ≠ r) {b k : Nat} (hb : b < n) (hk : k < 8) (x : Nat) : DrpW w (wr.setCell ⟨r, b * 8 + k, none⟩ (.int .u64 (x : Int))) r p n l (ixUpd g (8 * b + k) x) :=
  ⟨h.ry.word hb hk x, h.sl.keep (M := fun q => q = r) ((Keeps.refl (fun q => q = r) wr).setCell _ (fun _ => rfl) _) hpr, h.bel.setCell hr _⟩
theorem DrpW.drew {w wr : World} {r p n : Nat} {l : List Nat} {g : Nat → Nat} (h : DrpW w wr r p n l g) (k : Nat) : DrpW w (wr.drewN k) r p n l g :=
  ⟨h.ry.below (below_drewN (Below.refl _ _) k), h.sl.keep (M := fun _ => False) (Below.keeps (below_drewN (Below.refl _ _) k)) id, h.bel.trans ((below_drewN (Below.refl _ _) k).mono h.bel.size)⟩
theorem drp_len {B : Nat} {kl : Nat → List Nat} {l : List Nat} {b i : Nat} {K : Nat → List Nat} {E : Nat → Nat} {p : Nat → Bool} (hE : ∀ j, j < B → (kl j).length ≤ E j) (hb : l.length ≤ E b) (old : ∀ j, j < b → K j = kl j) (here : K b = (l.take i).filter p) (rest : ∀ j, b < j → j < B → K j = []) : ∀ j, j < B → (K j).length ≤ E j := by
  intro j hj
  rcases Nat.lt_trichotomy j b with c | c | c
  · rw [old j c]; exact hE j hj
  · subst c
    rw [here]
    have h1 := List.length_filter_le p (l.take i)
    have h2 : (l.take i).length ≤ l.length := by rw [List.length_take]; omega
    omega
  · rw [rest j c hj]; exact Nat.zero_le _
theorem IxLay.congrK {B n : Nat} {K K' : Nat → List Nat} {g : Nat → Nat} (h : IxLay B n K g) (hK : ∀ j, j < B → K j = K' j) : IxLay B n K' g ∧ ixOff K B = ixOff K' B := by
  have off : ∀ c, c ≤ B → ixOff K c = ixOff K' c := fun c hc => ixOff_congr fun j hj => by rw [hK j (by omega)]
  refine ⟨⟨fun b hb j hj k hk => ?_, fun r h1 h2 k hk => ?_⟩, off B (Nat.le_refl _)⟩
  · rw [← hK b hb] at hj
    have := h.row b hb j hj k hk
    unfold ixRid ixCell at *
    rw [← hK b hb, ← off b (by omega)]
    exact this
  · rw [← off B (Nat.le_refl _)] at h1
    exact h.zero r h1 h2 k hk
theorem RxIs.swap {w : World} {m r B S : Nat} {g : Nat → Nat} {T won lost : Nat} (h : RxIs w m r B S g T won lost) {r' : Nat} {g' : Nat → Nat} (hy : RyIs w r' (B + S) g') (hne : m ≠ r') {T' : Nat} (hT : T' ≤ 1000000) :
    RxIs ((w.setCell ⟨m, 2, none⟩ (.slice (some ⟨r', 0, none⟩) (B + S) (B + S))).setCell ⟨m, 3, none⟩ (.int .i64 (T' : Int))) m r' B S g' T' won lost := by
  have fz : ∀ i, ((w.setCell ⟨m, 2, none⟩ (.slice (some ⟨r', 0, none⟩) (B + S) (B + S))).setCell ⟨m, 3, none⟩ (.int .i64 (T' : Int))).frozen? i = w.frozen? i := fun i => by rw [World.frozen?_setCell, World.frozen?_setCell]
  have cl : ∀ i, i ≠ 2 → i ≠ 3 → ((w.setCell ⟨m, 2, none⟩ (.slice (some ⟨r', 0, none⟩) (B + S) (B + S))).setCell ⟨m, 3, none⟩ (.int .i64 (T' : Int))).cell? ⟨m, i, none⟩ = w.cell? ⟨m, i, none⟩ := fun i h2 h3 => by
    rw [ix_set_off _ _ _ _ (fun e => h3 e.symm), ix_set_off _ _ _ _ (fun e => h2 e.symm)]
  have cr : ∀ i, ((w.setCell ⟨m, 2, none⟩ (.slice (some ⟨r', 0, none⟩) (B + S) (B + S))).setCell ⟨m, 3, none⟩ (.int .i64 (T' : Int))).cell? ⟨r', i, none⟩ = w.cell? ⟨r', i, none⟩ := fun i => by
    rw [ix_set_block _ _ _ hne, ix_set_block _ _ _ hne]
  refine ⟨hne, by rw [cl 0 (by decide) (by decide)]; exact h.c0, by rw [cl 1 (by decide) (by decide)]; exact h.c1, ?_, by rw [fz]; exact h.f2, ?_, by rw [fz]; exact h.f3, by rw [cl 4 (by decide) (by decide)]; exact h.c4, by rw [fz]; exact h.f4, by rw [cl 5 (by decide) (by decide)]; exact h.c5, by rw [fz]; exact h.f5,
    fun b hb k hk => by rw [cr]; exact hy.cs b hb k hk, fun b hb k hk => by rw [fz]; exact hy.fs b hb k hk, h.bs, hT, h.few.2⟩
  · rw [ix_set_off _ _ _ _ (by decide)]; exact World.cell?_setCell_same _ _ _ h.c2
  · exact World.cell?_setCell_same (u := .int .i64 (T : Int)) _ _ _ (by rw [ix_set_off _ _ _ _ (by decide)]; exact h.c3)
set_option maxRecDepth 10000 in
set_option maxHeartbeats 4000000 in
theorem rx_drop {w : World} {m r B S : Nat} {g : Nat → Nat} {T won lost : Nat} (h : RxIs w m r B S g T won lost) {cs : Nat → List Nat} (hv : IxInv B (B + S) g T cs) (hs : ixSum cs B = T) :
    Calls Try.prog 10 #[.pointer (some ⟨m, 0, none⟩)] w fun e w' => ∃ (gone r' : Nat) (g' : Nat → Nat), e = .returned (.int .i64 (gone : Int)) ∧ RxIs w' m r' B S g' (ixOff (fun b => ixKept g (ixSlots (cs b))) B) won lost ∧ IxLay B (B + S) (fun b => ixKept g (ixSlots (cs b))) g' ∧ w.heap.size ≤ r' ∧ Keeps (RxOwn m r) w w' := by
  have hbs := h.bs
  have hfew := h.few
  obtain ⟨kl, HKL⟩ : ∃ kl : Nat → List Nat, Hid ((fun b => ixKept g (ixSlots (cs b))) = kl) := ⟨_, rfl⟩
  rw [HKL.out]
  have HKE : Hid (∀ b, kl b = (ixEnts g (ixSlots (cs b))).filter fun x => !ixFresh x) := fun b => by rw [← HKL.out]; rfl
  have HBND : Hid (∀ K : Nat → List Nat, (∀ b, b < B → (K b).length ≤ (ixEnts g (ixSlots (cs b))).length) → B + ixOff K B ≤ B + S) := fun K hK => by
    have := ixOff_le hv K hK B (Nat.le_refl _)
    have := hv.top
    omega
  have HLE : Hid (∀ b, b < B → (cs b).length ≤ B + S) := fun b hb => by
    have h1 : ∀ c, b < c → (cs b).length - 1 ≤ ixSum cs c := fun c hc => by
      induction c with
      | zero => omega
      | succ c ih =>
        show _ ≤ ixSum cs c + ((cs c).length - 1)
        by_cases e : b = c
        · subst e; omega
        · have := ih (by omega); omega
    have := h1 B hb
    have := hv.top
    omega
  have HEN : Hid (∀ (w' : World) (b : Nat), RxIs w' m r B S g T won lost → b < B → _) := fun w' b h' hb => rx_entries h' (hv.path b hb) (HLE.out b hb) (fun x hx => by have := hv.lt b hb x hx; have := hv.top; omega)
  have HSZ : Hid (∀ b, b < B → ∀ x ∈ ixEnts g (ixSlots (cs b)), x < 18446744073709551616) := fun b hb x hx => by
    obtain ⟨h0, s, hs', rfl⟩ := ixEnts_mem.1 hx
    obtain ⟨r', k, hr', hrn, hk, rfl⟩ := hv.slot hb hs'
    rcases hv.word r' hrn k hk with e | e
    · exact absurd e h0
    · exact e.pos.2
  have HKB : Hid (∀ b, b < B → (kl b).length ≤ (ixEnts g (ixSlots (cs b))).length) := fun b _ => by rw [HKE.out]; exact List.length_filter_le _ _
  have HLN : Hid (∀ b, b < B → (ixEnts g (ixSlots (cs b))).length ≤ 7 * (B + S)) := fun b hb => by
    have h1 := ixEnts_length g (ixSlots (cs b))
    have h2 := HLE.out b hb
    rw [ixSlots_length] at h1; omega
  obtain ⟨i0, hi, hz0, hz1, hz2⟩ := info_parts Try.infoBucket
  have H := hide h
  have c2 := h.c2
  clear h hv hs
  go_enter Try.func10, Try.ntmps10
  go_wp2_with (at_make; refine wpList_make_full _ rfl _ _ 77 rfl w.heap.size 84 i0 (.agg #[.int .u64 0, .int .u64 0, .int .u64 0, .int .u64 0, .int .u64 0, .int .u64 0, .int .u64 0, .int .u64 0]) 8 Try.underlying77 hi hz0 hz1 _ _ _ _ (B + S) rfl rfl ?a1 ?a2 ?b1 ?b2 (Nat.le_refl _) ?_)
  case a1 => omega
  case a2 => omega
  case b1 => rw [hz2]; omega
  case b2 => unfold maxLen; omega
  intro w1 hown hgrow
  have hry := ry_made (by simpa [Value.cells] using hown)
  have hb1 : Below w.heap.size w w1 := (Below.refl _ _).grown hgrow (Nat.le_refl _) (by simp)
  obtain ⟨r', hr'⟩ : ∃ r', Hid (w.heap.size = r') := ⟨_, rfl⟩
  rw [hr'.out] at hry ⊢
  clear hown hgrow c2
  go_wp2
  go_loopw [3, 5, 6] (fun vg vt vb wr => ∃ (b gone : Nat) (K : Nat → List Nat) (g' : Nat → Nat), b ≤ B ∧ vb = .int .i64 (b : Int) ∧ vg = .int .i64 (gone : Int) ∧ gone ≤ b * 10000 ∧ vt = .int .i64 (ixOff K B : Int) ∧ IxLay B (B + S) K g' ∧ (∀ j, j < b → K j = kl j) ∧ (∀ j, b ≤ j → j < B → K j = []) ∧ RyIs wr r' (B + S) g' ∧ Below w.heap.size w wr)
    (fun _ _ vb _ => B - (intOf vb).toNat)
  case atStart => exact ⟨0, 0, fun _ => [], fun _ => 0, Nat.zero_le _, rfl, rfl, by omega, by rw [ixOff_rest (b := 0) (Nat.zero_le _) (fun _ _ _ => rfl)]; rfl, ixLay_nil B (B + S), fun j hj => by omega, fun _ _ _ => rfl, hry, hb1⟩
  case round =>
    clear hry hb1
    obtain ⟨b, gone, K, g', hb, rfl, rfl, hgone, rfl, hlay, hold, hrest, hry, hbel⟩ := hrel
    by_cases hlt : b < B
    · have hRw := H.out.below hbel
      have c0 := hRw.c0
      have HE := hide (HEN.out wr b hRw hlt)
      clear hRw
      have hll := HLN.out b hlt
      have hkb := HKE.out b
      have HSB := hide (HSZ.out b hlt)
      have hll2 : (ixEnts g (ixSlots (cs b))).length ≤ (ixEnts g (ixSlots (cs b))).length := Nat.le_refl _
      obtain ⟨l, HLL⟩ : ∃ l, Hid (ixEnts g (ixSlots (cs b)) = l) := ⟨_, rfl⟩
      have HLL2 := hide (HLL.out)
      rw [HLL.out] at HE hll hkb HSB
      have hbel2 := hbel.size
      go_wp2_with fail
      refine HE.out.mono ?_
      rintro e x ⟨p, cap, rfl, ho, bx⟩
      have hdp : IxDrp B (B + S) kl l b 0 K g' := ⟨hlay, hold, by rw [hrest b (Nat.le_refl _) hlt]; rfl, fun j h1 h2 => hrest j (by omega) h2⟩
      have hpr : p ≠ r' := by
        have h1 := ho.base
        have h2 := hry.lt (by omega)
        omega
      have hdw : DrpW w x r' p (B + S) l g' := ⟨hry.below bx, ho.slu, hbel.trans (bx.mono hbel.size)⟩
      have hK0 : K b = [] := hrest b (Nat.le_refl _) hlt
      clear ho hry hbel bx hlay hold hrest HE c0
      go_wp2
      go_loopw [3, 5, 8, 9, 10] (fun vg vt va vk vi wr => ∃ (i gone2 : Nat) (K : Nat → List Nat) (g' : Nat → Nat), i ≤ l.length ∧ vi = .int .i64 (i : Int) ∧ vg = .int .i64 (gone2 : Int) ∧ gone2 ≤ gone + i ∧ vt = .int .i64 (ixOff K B : Int) ∧ va = .int .i64 (ixRid B K b (ixExt (K b).length) : Int) ∧ vk = .int .i64 (((K b).length - 7 * ixExt (K b).length : Nat) : Int) ∧ IxDrp B (B + S) kl l b i K g' ∧ DrpW w wr r' p (B + S) l g')
        (fun _ _ _ _ vi _ => l.length - (intOf vi).toNat)
      case atStart => exact ⟨0, gone, K, g', Nat.zero_le _, rfl, rfl, by omega, rfl, by rw [hK0]; simp [ixExt, ixRid], by rw [hK0]; rfl, hdp, hdw⟩
      case round =>
        clear hdp hdw hK0
        obtain ⟨i, gone2, K, g', hi', rfl, rfl, hgone2, rfl, rfl, rfl, hdp, hdw⟩ := hrel
        by_cases hlt2 : i < l.length
        · have hlen := drp_len (E := fun b => (ixEnts g (ixSlots (cs b))).length) HKB.out (by rw [HLL.out]; exact Nat.le_refl _) hdp.old hdp.here hdp.rest
          have hbn := HBND.out K hlen
          have hA := ixRid_lt (B := B) (K := K) (b := b) (j := ixExt (K b).length) hlt (Nat.le_refl _)
          have hsp := ixExt_span (K b).length
          have hxs := HSB.out _ (getD_mem hlt2)
          have cx := hdw.sl i hlt2
          obtain ⟨xv, HXV⟩ : ∃ xv, Hid (l.getD i 0 = xv) := ⟨_, rfl⟩
          rw [HXV.out] at hxs cx
          have hq1 : (xv : Int) / 4611686018427387904 = ((xv / 4611686018427387904 : Nat) : Int) := by omega
          have hq2 : (((xv / 4611686018427387904 : Nat) : Int) % 2 == 1) = ixFresh xv := by unfold ixFresh; rw [Bool.eq_iff_iff]; simp only [beq_iff_eq, decide_eq_true_eq]; omega
          obtain ⟨sq, HSQ⟩ : ∃ sq, Hid (xv / 4611686018427387904 = sq) := ⟨_, rfl⟩
          rw [HSQ.out] at hq1 hq2
          obtain ⟨q, HQ⟩ : ∃ q, Hid (ixExt (K b).length = q) := ⟨_, rfl⟩
          rw [HQ.out] at hA hsp ⊢
          obtain ⟨A, HA⟩ : ∃ A, Hid (ixRid B K b q = A) := ⟨_, rfl⟩
          rw [HA.out] at hA ⊢
          obtain ⟨TK, HTK⟩ : ∃ TK, Hid (ixOff K B = TK) := ⟨_, rfl⟩
          rw [HTK.out] at hA hbn ⊢
          obtain ⟨KK, HKK⟩ : ∃ KK, Hid ((K b).length - 7 * q = KK) := ⟨_, rfl⟩
          rw [HKK.out]
          have hKl : (K b).length = 7 * q + KK := by have := HKK.out; omega
          have hK7 : KK ≤ 7 := by omega
          have HKL7 := hide hKl
          have HDP := hide hdp
          have HDW := hide hdw
          clear hsp hlen hKl hdp hdw
          cases hfr : ixFresh xv with
          | true =>
            rw [hfr] at hq2
            go_wp2
            go_roundw
            case rel => exact ⟨i + 1, gone2 + 1, K, g', by omega, by go_num, by go_num, by omega, by rw [HTK.out], by rw [HQ.out, HA.out], by rw [HQ.out, HKK.out], HDP.out.skip hlt2 (by rw [HXV.out]; exact hfr), HDW.out⟩
            case measure => simp [intOf]; omega
          | false =>
            rw [hfr] at hq2
            by_cases h7 : KK = 7
            · subst h7
              have hov := ixOff_over (x := xv) hlt HQ.out HKL7.out HDP.out.rest
              have hlen2 := drp_len (E := fun b => (ixEnts g (ixSlots (cs b))).length) (K := ixAdd K b xv) (i := i + 1) (p := fun x => !ixFresh x) HKB.out (by rw [HLL.out]; exact Nat.le_refl _) (fun j hj => by rw [ixAdd_ne (by omega)]; exact HDP.out.old j hj)
                (by rw [take_filter hlt2, ixAdd_same, HDP.out.here, HXV.out]; simp only [hfr]; simp) (fun j h1 h2 => by rw [ixAdd_ne (by omega)]; exact HDP.out.rest j h1 h2)
              have hbn2 := HBND.out _ hlen2
              rw [hov, HTK.out] at hbn2
              have HLAY := hide (HDP.out.lay.over (x := xv) hlt HQ.out HKL7.out HDP.out.rest (by rw [HTK.out]; omega))
              rw [HTK.out, HA.out] at HLAY
              have hc0 := (H.out.below HDW.out.bel).c0
              obtain ⟨NX, hNX⟩ : ∃ NX : Nat, (B : Int) + (TK : Int) = (NX : Int) := ⟨B + TK, by omega⟩
              have hNXe : B + TK = NX := by omega
              rw [hNXe] at HLAY
              have hAn : (A : Int) < (B : Int) + (S : Int) := by omega
              have hNn : (NX : Int) < (B : Int) + (S : Int) := by omega
              have cr := HDW.out.ry.cs A (by omega) 7 (by omega)
              have fr := HDW.out.ry.fs A (by omega) 7 (by omega)
              have HDW2 := hide (HDW.out.word (by rw [hr'.out]; exact Nat.le_refl _) hpr (b := A) (k := 7) (by omega) (by omega) (NX + 1))
              rw [show ((NX + 1 : Nat) : Int) = (NX : Int) + 1 from rfl] at HDW2
              clear hov hlen2 hbn2 HDW
              go_wp2_with fail
              generalize wr.setCell ⟨r', A * 8 + 7, none⟩ (.int .u64 ((NX : Int) + 1)) = Y at *
              have cx := HDW2.out.sl i hlt2
              rw [HXV.out] at cx
              have cr2 := HDW2.out.ry.cs NX (by omega) 0 (by omega)
              have fr2 := HDW2.out.ry.fs NX (by omega) 0 (by omega)
              rw [Nat.add_zero] at cr2 fr2
              have HDW3 := hide ((HDW2.out.word (by rw [hr'.out]; exact Nat.le_refl _) hpr (b := NX) (k := 0) (by omega) (by omega) xv).drew 1)
              simp only [Nat.add_zero] at HDW3
              have HL5 : Hid ((ixAdd K b xv b).length = 7 * q + 7 + 1) := by rw [Hid, ixAdd_same, List.length_append, HKL7.out]; rfl
              clear HDW2 cr fr
              go_region_law (fail)
              go_wp2
              go_roundw
              case rel => exact ⟨i + 1, gone2, ixAdd K b xv, _, by omega, by go_num, rfl, by omega, by rw [HLAY.out.2.1]; go_num, by rw [HLAY.out.2.2.1, HLAY.out.2.2.2], by rw [HLAY.out.2.2.1, HL5.out, show 7 * q + 7 + 1 - 7 * (q + 1) = 1 by omega]; rfl, by have := HDP.out.put hlt2 (by rw [HXV.out]; exact hfr) (g' := ixUpd (ixUpd g' (8 * A + 7) (NX + 1)) (8 * NX) xv) (by rw [HXV.out]; exact HLAY.out.1); rw [HXV.out] at this; exact this, HDW3.out⟩
              case measure => simp [intOf]; omega
            · have h7' : ((KK : Int) == 7) = false := by rw [beq_eq_false_iff_ne]; omega
              have hAn : (A : Int) < (B : Int) + (S : Int) := by omega
              have hK8 : (KK : Int) < 8 := by omega
              have cr := HDW.out.ry.cs A (by omega) KK (by omega)
              have fr := HDW.out.ry.fs A (by omega) KK (by omega)
              have HDW2 := hide ((HDW.out.word (by rw [hr'.out]; exact Nat.le_refl _) hpr (b := A) (k := KK) (by omega) (by omega) xv).drew 1)
              obtain ⟨lay', off', ext', rid'⟩ := HDP.out.lay.put (x := xv) hlt HQ.out HKL7.out (by omega)
              rw [HA.out] at lay' rid'
              rw [HTK.out] at off'
              have HL1 := hide lay'
              have HL2 := hide off'
              have HL3 := hide ext'
              have HL4 := hide rid'
              have HL5 : Hid ((ixAdd K b xv b).length = 7 * q + KK + 1) := by rw [Hid, ixAdd_same, List.length_append, HKL7.out]; rfl
              clear HDW lay' off' ext' rid'
              go_wp2_with fail
              go_region_law (fail)
              go_wp2
              go_roundw
              case rel => exact ⟨i + 1, gone2, ixAdd K b xv, _, by omega, by go_num, rfl, by omega, by rw [HL2.out], by rw [HL3.out, HL4.out], by rw [HL3.out, HL5.out]; go_num, by have := HDP.out.put hlt2 (by rw [HXV.out]; exact hfr) (g' := ixUpd g' (8 * A + KK) xv) (by rw [HXV.out]; exact HL1.out); rw [HXV.out] at this; exact this, HDW2.out⟩
              case measure => simp [intOf]; omega
        · have e : i = l.length := by omega
          subst e
          have HB2 : Hid (K b = kl b) := by rw [Hid, hdp.here, hkb, List.take_length]
          go_wp2
          go_roundw
          case rel => exact ⟨b + 1, gone2, K, g', by omega, by go_num, rfl, by omega, rfl, hdp.lay, fun j hj => (by
            by_cases e : j = b
            · subst e; exact HB2.out
            · exact hdp.old j (by omega)), fun j h1 h2 => hdp.rest j (by omega) h2, hdw.ry, hdw.bel⟩
          case measure => simp [intOf]; omega
    · have e : b = B := by omega
      subst e
      have hX := H.out.below hbel
      have hlx := hX.lt
      have hl0 := H.out.lt
      have hmr : m ≠ r' := by have := hr'.out; omega
      obtain ⟨lk, ok⟩ := hlay.congrK hold
      rw [ok]
      have hT : ixOff kl b ≤ 1000000 := by
        have := HBND.out kl HKB.out
        omega
      have HS := hide (hX.swap hry hmr hT)
      have HK : Hid (Keeps (RxOwn m r) w ((wr.setCell ⟨m, 2, none⟩ (.slice (some ⟨r', 0, none⟩) (b + S) (b + S))).setCell ⟨m, 3, none⟩ (.int .i64 (ixOff kl b : Int)))) := (((Below.keeps (S := RxOwn m r) (show Below w.heap.size w wr from hbel)).setCell ⟨m, 2, none⟩ (fun _ => .inl rfl) _).setCell ⟨m, 3, none⟩ (fun _ => .inl rfl) _)
      have HLK := hide lk
      have c0 := hX.c0
      have c2 := hX.c2
      have c3 := hX.c3
      have f2 := hX.f2
      have f3 := hX.f3
      clear hX hry hlay hold hrest hbel lk ok
      go_wp2
      go_ret
      exact ⟨gone, r', g', rfl, HS.out, HLK.out, by rw [hr'.out]; exact Nat.le_refl _, HK.out⟩
end Go.Proofs.Ytmpnbaiolmkhlaa
