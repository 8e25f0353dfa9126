/- The program's index: Drop. -/
import Derived.Test.YtmpnbaiolmkhlaaJ4
import Derived.Test.YtmpnbaiolmkhlaaIh
namespace Go.Proofs.Ytmpnbaiolmkhlaa
set_option maxRecDepth 20000
open Go.RowKit
set_option maxRecDepth 10000 in
set_option maxHeartbeats 4000000 in
theorem px_drop {w : World} {x rr rb tr tb B S : Nat} {g : Nat → Nat} {T won lost : Nat} {lk : Int} (h : PxIs w x rr rb tr tb B S g T won lost lk) {cs : Nat → List Nat} (hv : IxInv B (B + S) g T cs) (_hs : ixSum cs B = T) :
    Calls Try.prog 9 #[.pointer (some ⟨x, 0, none⟩)] w fun e w' => ∃ (gone : Nat) (g' : Nat → Nat), e = .returned (.int .i64 (gone : Int)) ∧ PxIs w' x rr rb tr tb B S g' (ixOff (fun b => ixKept g (ixSlots (cs b))) B) won lost lk ∧ IxLay B (B + S) (fun b => ixKept g (ixSlots (cs b))) g' ∧ Keeps (PxOwn x rr rb tr tb) w w' := by
  have hbs := h.bs
  obtain ⟨kl, HKL⟩ : ∃ kl : Nat → List Nat, Hid ((fun b => ixKept g (ixSlots (cs b))) = kl) := ⟨_, rfl⟩
  rw [HKL.out]
  have HKE : Hid (∀ b, kl b = (ixEnts g (ixSlots (cs b))).filter fun x => !ixFresh x) := fun b => by rw [← HKL.out]; rfl
  have HKB : Hid (∀ b, b < B → (kl b).length ≤ (ixEnts g (ixSlots (cs b))).length) := fun b _ => by rw [HKE.out]; exact List.length_filter_le _ _
  have HBND : Hid (∀ K : Nat → List Nat, (∀ b, b < B → (K b).length ≤ (ixEnts g (ixSlots (cs b))).length) → B + ixOff K B ≤ B + S) := fun K hK => by
    have := ixOff_le hv K hK B (Nat.le_refl _)
    have := hv.top
    omega
  have HLE : Hid (∀ b, b < B → (cs b).length ≤ B + S) := fun b hb => by
    have h1 : ∀ c, b < c → (cs b).length - 1 ≤ ixSum cs c := fun c hc => by
      induction c with
      | zero => omega
      | succ c ih =>
        show _ ≤ ixSum cs c + ((cs c).length - 1)
        by_cases e : b = c
        · subst e; omega
        · have := ih (by omega); omega
    have := h1 B hb
    have := hv.top
    omega
  have HEN : Hid (∀ (w' : World) (b : Nat), PxIs w' x rr rb tr tb B S g T won lost lk → b < B → _) := fun w' b h' hb => px_entries h' (hv.path b hb) (HLE.out b hb) (fun x hx => by have := hv.lt b hb x hx; have := hv.top; omega)
  have HSZ : Hid (∀ b, b < B → ∀ y ∈ ixEnts g (ixSlots (cs b)), IxEn y) := fun b hb y hx => by
    obtain ⟨h0, s, hs', rfl⟩ := ixEnts_mem.1 hx
    obtain ⟨r', k, hr', hrn, hk, rfl⟩ := hv.slot hb hs'
    rcases hv.word r' hrn k hk with e | e
    · exact absurd e h0
    · exact e
  have HLN : Hid (∀ b, b < B → (ixEnts g (ixSlots (cs b))).length ≤ 20000) := fun b hb => by
    have h1 := ixEnts_length g (ixSlots (cs b))
    have h2 := HLE.out b hb
    rw [ixSlots_length] at h1; omega
  have HOW : Hid (∀ i, PxOwn x rr rb tr tb i → i < w.heap.size) := fun i hi => by
    obtain ⟨l1, l2, l3, l4, l5⟩ := h.lt
    rcases hi with rfl | rfl | rfl | rfl | rfl <;> assumption
  obtain ⟨i0, hi, hz0, hz1, hz2⟩ := info_parts Try.infoSlU
  have H := hide h
  have c0 := h.c0
  clear h hv
  go_enter Try.func9, Try.ntmps9
  go_wp2_with (at_make; refine wpList_make_full _ rfl _ _ 80 rfl w.heap.size 37 i0 (.slice none 0 0) 1 Try.underlying80 hi hz0 hz1 _ _ _ _ B rfl rfl rfl rfl ?b1 ?b2 (Nat.le_refl _) ?_)
  case b1 => rw [hz2]; omega
  case b2 => unfold maxLen; omega
  intro w1 hown hgrow
  have hown1 : w1.ownsRow w.heap.size 37 1 (.slice (some ⟨w.heap.size, 0, none⟩) B B) B (List.replicate B (.slice none 0 0)) := by
    simpa [Value.cells, toList_madeCells_one] using hown
  have hb1 : Below w.heap.size w w1 := (Below.refl _ _).grown hgrow (Nat.le_refl _) (by simp)
  obtain ⟨kb, hkb⟩ : ∃ kb, Hid (w.heap.size = kb) := ⟨_, rfl⟩
  have hkp : KpAt w1 kb kb B kl 0 := by
    rw [hkb.out] at hown1
    refine ⟨fun i hi => by omega, fun i _ hi => ?_, fun i hi => hown1.frozenAt i, (World.ownsRow.lt hown1 kb rfl).2, Nat.le_refl _⟩
    rw [hown1.cellAt i (by omega), List.getElem?_replicate, if_pos hi]
  rw [hkb.out]
  clear hown hgrow hown1 c0
  go_wp2
  go_loopw [3, 18] (fun vg vi wr => ∃ (b gone : Nat), b ≤ B ∧ vi = .int .i64 (b : Int) ∧ vg = .int .i64 (gone : Int) ∧ gone ≤ b * 20000 ∧ KpAt wr kb kb B kl b ∧ Below w.heap.size w wr) (fun _ vi _ => B - (intOf vi).toNat)
  case atStart => exact ⟨0, 0, Nat.zero_le _, rfl, rfl, by omega, hkp, hb1⟩
  case round =>
    clear hkp hb1
    obtain ⟨b, gone, hb, rfl, rfl, hgone, hkp, hbel⟩ := hrel
    by_cases hlt : b < B
    · have HE := hide (HEN.out wr b (H.out.below hbel) hlt)
      have hll := HLN.out b hlt
      have hke := HKE.out b
      have hsz := HSZ.out b hlt
      have hkb7 := HKB.out b hlt
      obtain ⟨l, HLL⟩ : ∃ l, Hid (ixEnts g (ixSlots (cs b)) = l) := ⟨_, rfl⟩
      rw [HLL.out] at HE hll hke hsz hkb7
      have hbs2 := hbel.size
      go_wp2_with fail
      refine HE.out.mono ?_
      rintro e y ⟨ao, cap, rfl, hoy, by_⟩
      have HDE := hide (sDelete hoy by_.size hll hsz)
      rw [← hke] at HDE
      have HKP := hide hkp
      have HBY := hide by_
      have HBE := hide hbel
      have hklt := hkp.lt
      have hkrest := hkp.rest b (Nat.le_refl _) hlt
      have hkfz := hkp.fz b hlt
      have HKE2 := hide hke
      clear hoy hsz HE hkp by_ hbel hke
      generalize hkn : (kl b).length = kn at *
      have HKN := hide hkn
      clear hkn
      go_wp2_with fail
      refine HDE.out.mono ?_
      rintro e z ⟨ao', cap', rfl, hkc, hsl, hab, bz⟩
      have BZ := HBY.out.trans bz
      have e0 := (BZ.cell (p := ⟨kb, b, none⟩) hklt).trans hkrest
      have f0 := (BZ.frozen (p := ⟨kb, b, none⟩) hklt).trans hkfz
      have hKP := (HKP.out.below BZ).push hlt (ao := ao') (cap := cap') (by rw [HKN.out]; exact hkc) (by rw [HKN.out]; exact hsl) (fun q off e => by have := hab q off e; omega)
      rw [HKN.out] at hKP
      have HKP2 := hide hKP
      have HB2 := hide ((HBE.out.trans (BZ.mono HBE.out.size)).setCell (p := ⟨kb, b, none⟩) (by rw [hkb.out]; exact Nat.le_refl _) (.slice ao' kn cap'))
      clear hKP hsl hab bz BZ HDE HKP HBY hkrest hkfz
      go_wp2
      go_roundw
      case rel => exact ⟨b + 1, gone + l.length - kn, by omega, by go_num, by go_num, by omega, HKP2.out, HB2.out⟩
      case measure => simp [intOf]; omega
    · have e : B = b := by omega
      subst e
      obtain ⟨iu, hui, huz0, huz1, huz2⟩ := info_parts Try.infoU64
      have HX := hide (H.out.below hbel)
      have HLEN := hide (len_any rr _ _ _ wr HX.out.row.c0)
      have c2 := HX.out.c2
      have HKP := hide hkp
      have HBE := hide hbel
      obtain ⟨n, HN⟩ : ∃ n, Hid (n = 8 * (B + S) + 1) := ⟨_, rfl⟩
      have hnn : 1 + ((8 * (B + S) : Nat) : Int) = (n : Int) := by have := HN.out; omega
      have hnb : n ≤ 20000 := by have := HN.out; omega
      have hmod : IntKind.i64.wrap (n : Int) = (n : Int) := IntWalk.i64_in _ (by omega)
      clear hkp hbel
      have HN8 := hide HN.out
      generalize 8 * (B + S) = M at HLEN hnn HN
      go_wp2_with fail
      refine HLEN.out.mono ?_
      rintro e y ⟨rfl, rfl⟩
      go_wp2_with (at_make; refine wpList_make_full _ rfl _ _ 37 rfl y.heap.size 32 iu (.int .u64 0) 1 Try.underlying37 hui huz0 huz1 _ _ _ _ n rfl rfl ?a1 ?a2 ?b1 ?b2 (Nat.le_refl _) ?_)
      case a1 => first | exact hnn | omega | (simp; omega)
      case a2 => first | exact hnn | omega | (simp; omega)
      case b1 => rw [huz2]; omega
      case b2 => unfold maxLen; omega
      intro w2 hown2 hgrow2
      have hz2 : ∀ t, t < n → w2.cell? ⟨y.heap.size, t, none⟩ = some (.int .u64 0) := fun t ht => by
        have ho : w2.ownsRow y.heap.size 32 1 (.slice (some ⟨y.heap.size, 0, none⟩) n n) n (List.replicate n (.int .u64 0)) := by
          simpa [Value.cells, toList_madeCells_one] using hown2
        rw [ho.cellAt t (by omega), List.getElem?_replicate, if_pos ht]
      have hb2 : Below y.heap.size y w2 := (Below.refl _ _).grown hgrow2 (Nat.le_refl _) (by simp)
      have hws := HBE.out.size
      have HQ : Hid (∀ q, kb ≤ q → ¬ PxOwn x rr rb tr tb q) := fun q hq hp => by
        have := HOW.out q hp
        have := hkb.out
        omega
      have HFI := hide (px_fill0 (HX.out.below hb2) y.heap.size n HN8.out (HQ.out _ (by have := hkb.out; omega)) hz2)
      have KB := hide ((Below.keeps (S := PxOwn x rr rb tr tb) HBE.out).trans (Below.keeps (S := PxOwn x rr rb tr tb) hb2) (fun _ _ t => t))
      have HK2 := hide (HKP.out.below hb2)
      have hb2s := hb2.size
      clear hown2 hgrow2 hz2 hb2 HX HLEN HKP HBE c2
      go_wp2_with fail
      refine HFI.out.mono ?_
      rintro e z ⟨rfl, pz, kz⟩
      have hPX : PxIs z x rr rb tr tb B S (fun _ => 0) (ixOff (fun _ => []) B) won lost lk := by
        rw [show ixOff (fun _ => []) B = 0 from ixOff_rest (b := 0) (Nat.zero_le _) (fun _ _ _ => rfl)]; exact pz
      have hKZ := HK2.out.keep kz (fun i h1 _ => HQ.out i h1)
      have hKW := KB.out.trans kz (fun _ _ t => t)
      have hc0 := hKZ.lt
      clear pz kz HFI KB HK2
      go_wp2
      go_loopw [52] (fun vi wr => ∃ (i : Nat) (K : Nat → List Nat) (g' : Nat → Nat), i ≤ B ∧ vi = .int .i64 (i : Int) ∧ PxIs wr x rr rb tr tb B S g' (ixOff K B) won lost lk ∧ IxLay B (B + S) K g' ∧ (∀ j, j < i → K j = kl j) ∧ (∀ j, i ≤ j → j < B → K j = []) ∧ KpAt wr kb kb B kl B ∧ Keeps (PxOwn x rr rb tr tb) w wr) (fun vi _ => B - (intOf vi).toNat)
      case atStart => exact ⟨0, fun _ => [], fun _ => 0, Nat.zero_le _, rfl, hPX, ixLay_nil B (B + S), fun j hj => by omega, fun _ _ _ => rfl, hKZ, hKW⟩
      case round =>
        clear hPX hKZ hKW hc0
        obtain ⟨i, K, g', hi', rfl, hPX, hlay, hold, hrest, hKP, hKW⟩ := hrel
        by_cases hlt2 : i < B
        · obtain ⟨ao, cap, ec, hcap, hsl, hab⟩ := hKP.old i hlt2
          have hap : ∀ q off, ao = some ⟨q, off, none⟩ → ¬ PxOwn x rr rb tr tb q := fun q off e => HQ.out q (hab q off e).1
          have hKi := hrest i (Nat.le_refl _) hlt2
          by_cases h0 : (kl i).length = 0
          · have HL := hide (px_lay_nil hPX i ao cap hlt2)
            have hk0 : kl i = [] := List.length_eq_zero_iff.1 h0
            have HP : Hid (∀ z, Keeps (PxOwn x rr rb tr tb) wr z → KpAt z kb kb B kl B ∧ Keeps (PxOwn x rr rb tr tb) w z) := fun z hk => ⟨hKP.keep hk (fun i h1 _ => HQ.out i h1), hKW.trans hk (fun _ _ t => t)⟩
            have HO : Hid (∀ j, j < i + 1 → K j = kl j) := fun j hj => by
              by_cases e : j = i
              · subst e; rw [hKi, hk0]
              · exact hold j (by omega)
            have HRS : Hid (∀ j, i + 1 ≤ j → j < B → K j = []) := fun j h1 h2 => hrest j (by omega) h2
            have HLY := hide hlay
            rw [h0] at ec
            clear hsl hab hap hPX hlay hold hrest hKP hKW hcap h0 hk0 hKi
            go_wp2_with fail
            refine HL.out.mono ?_
            rintro e z2 ⟨rfl, p2, k2⟩
            obtain ⟨a, b'⟩ := HP.out z2 k2
            go_wp2
            go_roundw
            case rel => exact ⟨i + 1, K, g', by omega, by go_num, p2, HLY.out, HO.out, HRS.out, a, b'⟩
            case measure => simp [intOf]; omega
          · have hoff := ixOff_app (l := kl i) hKi B
            rw [if_pos hlt2] at hoff
            have hapk : ∀ j, j ≠ i → ixApp K i (kl i) j = K j := fun j hj => ixApp_ne hj
            have hapi : ixApp K i (kl i) i = kl i := by rw [ixApp_same, hKi, List.nil_append]
            have hbd := HBND.out (ixApp K i (kl i)) (fun b hb => by
              by_cases e : b = i
              · subst e; rw [hapi]; exact HKB.out b hb
              · rw [hapk b e]
                by_cases e2 : b < i
                · rw [hold b e2]; exact HKB.out b hb
                · rw [hrest b (by omega) hb]; exact Nat.zero_le _)
            have HL := hide (px_lay hPX hsl hcap (by omega) hap hlay rfl hlt2 hKi (fun j h1 h2 => hrest j (by omega) h2) (fun j hj => by
              have : j ≤ ixExt (kl i).length := by unfold ixExt; omega
              omega))
            have HP : Hid (∀ z, Keeps (PxOwn x rr rb tr tb) wr z → KpAt z kb kb B kl B ∧ Keeps (PxOwn x rr rb tr tb) w z) := fun z hk => ⟨hKP.keep hk (fun i h1 _ => HQ.out i h1), hKW.trans hk (fun _ _ t => t)⟩
            have HO : Hid (∀ j, j < i + 1 → ixApp K i (kl i) j = kl j) := fun j hj => by
              by_cases e : j = i
              · subst e; exact hapi
              · rw [hapk j e]; exact hold j (by omega)
            have HRS : Hid (∀ j, i + 1 ≤ j → j < B → ixApp K i (kl i) j = []) := fun j h1 h2 => by rw [hapk j (by omega)]; exact hrest j (by omega) h2
            generalize ixApp K i (kl i) = K2 at *
            clear hsl hab hap hPX hlay hold hrest hKP hKW hcap h0 hKi hoff hapk hapi hbd
            generalize (kl i).length = kn at *
            go_wp2_with fail
            refine HL.out.mono ?_
            rintro e z2 ⟨rfl, g2, p2, ly2, k2⟩
            obtain ⟨a, b'⟩ := HP.out z2 k2
            go_wp2
            go_roundw
            case rel => exact ⟨i + 1, K2, g2, by omega, by go_num, p2, ly2, HO.out, HRS.out, a, b'⟩
            case measure => simp [intOf]; omega
        · have e : i = B := by omega
          subst e
          obtain ⟨lk', ok⟩ := hlay.congrK hold
          rw [ok] at hPX
          go_wp2
          go_ret
          exact ⟨gone, g', rfl, hPX, lk', hKW⟩
end Go.Proofs.Ytmpnbaiolmkhlaa
