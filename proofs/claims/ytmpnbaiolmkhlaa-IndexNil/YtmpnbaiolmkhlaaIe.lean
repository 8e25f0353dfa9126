/- The reference's index: Look. -/
import Derived.Test.YtmpnbaiolmkhlaaId
import Derived.Test.YtmpnbaiolmkhlaaWm
import Derived.Test.YtmpnbaiolmkhlaaNe
namespace Go.Proofs.Ytmpnbaiolmkhlaa
set_option maxRecDepth 20000
open Go.RowKit
theorem ixUpto_prefix {c : List Nat} {i k : Nat} (hi : i < c.length) (hk : k ≤ 7) : ∃ rest, ixSlots c = ixUpto c i k ++ rest := by
  have e1 : ixSlots c = ixSlots (c.take i) ++ (ixRow (c.getD i 0) 7 ++ ixSlots (c.drop (i + 1))) := by
    have e : c = c.take i ++ (c.getD i 0 :: c.drop (i + 1)) := by
      rw [List.getD_eq_getElem?_getD, List.getElem?_eq_getElem hi]
      simp
    conv => lhs; rw [e]
    simp [ixSlots]
  have e2 : ixRow (c.getD i 0) 7 = ixRow (c.getD i 0) k ++ ((List.range 7).drop k).map (fun j => 8 * c.getD i 0 + j) := by
    unfold ixRow
    rw [← List.map_append]
    congr 1
    rw [show List.range k = (List.range 7).take k by rw [List.take_range, Nat.min_eq_left hk], List.take_append_drop]
  refine ⟨((List.range 7).drop k).map (fun j => 8 * c.getD i 0 + j) ++ ixSlots (c.drop (i + 1)), ?_⟩
  rw [e1, e2]
  unfold ixUpto
  simp
theorem ixUpto_at {c : List Nat} {i k : Nat} (hi : i < c.length) (hk : k < 7) : ∃ rest, ixSlots c = ixUpto c i k ++ (8 * c.getD i 0 + k) :: rest := by
  obtain ⟨rest, h⟩ := ixUpto_prefix hi (show k + 1 ≤ 7 by omega)
  exact ⟨rest, by rw [h, ixUpto_on]; simp⟩
/-- The first free slot, as the loop has it. -/
def ixFirst (g : Nat → Nat) (l : List Nat) : Int := match l.find? (ixFree g) with
  | some s => (s : Int)
  | none => -1
theorem ixFirst_nil (g : Nat → Nat) : ixFirst g [] = -1 := rfl
theorem ixFirst_snoc (g : Nat → Nat) (l : List Nat) (s : Nat) : ixFirst g (l ++ [s]) = if g s = 0 ∧ ixFirst g l < 0 then (s : Int) else ixFirst g l := by
  unfold ixFirst
  rw [List.find?_append]
  cases h : l.find? (ixFree g) with
  | some q => simp; omega
  | none =>
    by_cases hs : g s = 0 <;> simp [ixFree, hs]
theorem ixFirst_cases (g : Nat → Nat) (l : List Nat) : (ixFirst g l = -1 ∧ l.find? (ixFree g) = none) ∨ ∃ s, s ∈ l ∧ ixFirst g l = (s : Int) ∧ l.find? (ixFree g) = some s := by
  unfold ixFirst
  cases h : l.find? (ixFree g) with
  | none => exact .inl ⟨rfl, rfl⟩
  | some s => exact .inr ⟨s, List.mem_of_find?_eq_some h, rfl, rfl⟩
theorem ixLook_hit {g : Nat → Nat} {t s : Nat} {l m : List Nat} (hn : l.find? (ixHit g t) = none) (hs : ixHit g t s = true) : ixLook g (l ++ s :: m) t = (1, s, g s) := by
  unfold ixLook
  rw [List.find?_append, hn]
  simp [hs]
theorem find_snoc_none {p : Nat → Bool} {l : List Nat} {s : Nat} (hn : l.find? p = none) (hs : p s = false) : (l ++ [s]).find? p = none := by
  rw [List.find?_append, hn]; simp [hs]
/-- The reference reads what is an entry's. -/
theorem ref_reads {a t : Nat} {f : Bool} (h : entB a t f = true) : Says 13 #[.int .u64 (entN a t f : Int)] (.returned (.tuple #[enV a t f, .int .i64 0])) := by
  obtain ⟨ha, ht, _⟩ := entB_iff.1 h
  obtain ⟨h1, h2⟩ := entN_lt (f := f) ha ht
  have e1 := entN_a (t := t) (f := f) ha
  have e2 := entN_t (f := f) ha ht
  have e3 := entN_fresh h
  unfold ixFresh at e3
  have hz : ((entN a t f : Int) == 0) = false := by rw [beq_eq_false_iff_ne]; omega
  have g2 : decide ((entN a t f : Int) < 9223372036854775808) = false := by rw [decide_eq_false_iff_not]; omega
  have t1 := tag_ref _ h2
  have t2 := fresh_ref _ h2
  rw [e2] at t1
  rw [e3] at t2
  exact fun w => run_yes (entN a t f) a (entN a t f / 281474976710656) (entN a t f / 4611686018427387904) t f w hz (by omega) (by omega) t1 (by omega) t2 g2 h
theorem ref_reads_en {x : Nat} (h : IxEn x) : ∃ a f, Says 13 #[.int .u64 (x : Int)] (.returned (.tuple #[enV a (ixTag x) f, .int .i64 0])) := by
  obtain ⟨a, t, f, h, rfl⟩ := h
  rw [entN_tag h]
  exact ⟨a, f, ref_reads h⟩
theorem ref_reads_zero : Says 13 #[.int .u64 0] (.returned (.tuple #[enV 0 0 false, .int .i64 7])) := fun w => run_zero w
def lookV (k s x b : Nat) : Value := .agg #[.int .i64 (k : Int), .int .i64 (s : Int), .int .u64 (x : Int), .int .i64 (b : Int)]
/-- Look's result while it isn't told. -/
structure LkRes (w : World) (b : Nat) : Prop where
  c0 : w.cell? ⟨b, 0, none⟩ = some (.int .i64 0)
  c1 : w.cell? ⟨b, 1, none⟩ = some (.int .i64 0)
  c2 : w.cell? ⟨b, 2, none⟩ = some (.int .u64 0)
  c3 : w.cell? ⟨b, 3, none⟩ = some (.int .i64 0)
  f0 : w.frozen? ⟨b, 0, none⟩ = false
  f1 : w.frozen? ⟨b, 1, none⟩ = false
  f2 : w.frozen? ⟨b, 2, none⟩ = false
  f3 : w.frozen? ⟨b, 3, none⟩ = false
theorem LkRes.lt {w : World} {b : Nat} (h : LkRes w b) : b < w.heap.size := World.block_lt_of_cell? w _ h.c0
theorem LkRes.below {w w' : World} {b : Nat} (h : LkRes w b) (hb : Below w.heap.size w w') : LkRes w' b :=
  ⟨by rw [hb.cell h.lt]; exact h.c0, by rw [hb.cell h.lt]; exact h.c1, by rw [hb.cell h.lt]; exact h.c2, by rw [hb.cell h.lt]; exact h.c3, by rw [hb.frozen h.lt]; exact h.f0, by rw [hb.frozen h.lt]; exact h.f1, by rw [hb.frozen h.lt]; exact h.f2, by rw [hb.frozen h.lt]; exact h.f3⟩
theorem LkRes.made (w : World) (T : TypeId) : LkRes (w.alloc (.cells #[.int .i64 0, .int .i64 0, .int .u64 0, .int .i64 0] T)) w.heap.size := by
  refine ⟨?_, ?_, ?_, ?_, ?_, ?_, ?_, ?_⟩ <;> simp
/-- Look's result told. -/
theorem LkRes.set {w : World} {b : Nat} (h : LkRes w b) (a0 a1 a2 a3 : Value) :
    ((((w.setCell ⟨b, 0, none⟩ a0).setCell ⟨b, 1, none⟩ a1).setCell ⟨b, 2, none⟩ a2).setCell ⟨b, 3, none⟩ a3).cell? ⟨b, 0, none⟩ = some a0 ∧
    ((((w.setCell ⟨b, 0, none⟩ a0).setCell ⟨b, 1, none⟩ a1).setCell ⟨b, 2, none⟩ a2).setCell ⟨b, 3, none⟩ a3).cell? ⟨b, 1, none⟩ = some a1 ∧
    ((((w.setCell ⟨b, 0, none⟩ a0).setCell ⟨b, 1, none⟩ a1).setCell ⟨b, 2, none⟩ a2).setCell ⟨b, 3, none⟩ a3).cell? ⟨b, 2, none⟩ = some a2 ∧
    ((((w.setCell ⟨b, 0, none⟩ a0).setCell ⟨b, 1, none⟩ a1).setCell ⟨b, 2, none⟩ a2).setCell ⟨b, 3, none⟩ a3).cell? ⟨b, 3, none⟩ = some a3 := by
  obtain ⟨s0, s1, s2⟩ := set_threeE h.c0 h.c1 h.c2 a0 a1 a2
  have n : ∀ i, i ≠ 3 → (⟨b, 3, none⟩ : Addr) ≠ ⟨b, i, none⟩ := fun i hi e => hi (by cases e; rfl)
  have o : ∀ i, i ≠ 3 → ∀ w : World, (w.setCell ⟨b, 3, none⟩ a3).cell? ⟨b, i, none⟩ = w.cell? ⟨b, i, none⟩ := fun i hi w => World.cell?_setCell_other _ _ _ _ (by first | exact n i hi | exact (n i hi).symm)
  refine ⟨(o 0 (by decide) _).trans s0, (o 1 (by decide) _).trans s1, (o 2 (by decide) _).trans s2, World.cell?_setCell_same (u := .int .i64 0) _ _ _ ?_⟩
  · exact (World.cell?_setCell_other _ _ _ _ (by first | exact n 2 (by decide) | exact (n 2 (by decide)).symm)).trans ((World.cell?_setCell_other _ _ _ _ (by first | exact n 1 (by decide) | exact (n 1 (by decide)).symm)).trans ((World.cell?_setCell_other _ _ _ _ (by first | exact n 0 (by decide) | exact (n 0 (by decide)).symm)).trans h.c3))
/-- What is kept in Look's loops. -/
structure LkW (w wr : World) (q : Nat) (c : List Nat) : Prop where
  res : LkRes wr w.heap.size
  chn : ChnAt wr q c
  bel : Below w.heap.size w wr
theorem LkW.below {w wr w' : World} {q : Nat} {c : List Nat} (h : LkW w wr q c) (hb : Below wr.heap.size wr w') : LkW w w' q c := ⟨h.res.below hb, h.chn.keep (M := fun _ => False) (Below.keeps hb) id, h.bel.trans (hb.mono h.bel.size)⟩
set_option maxHeartbeats 2000000 in
theorem rx_look {w : World} {m r B S : Nat} {g : Nat → Nat} {T won lost : Nat} (h : RxIs w m r B S g T won lost) {b hN t : Nat} {c : List Nat} (hh : hN < 18446744073709551616) (hbk : buckN hN (B : Int) = b) (ht : hN / 1125899906842624 = t) (hp : IxPath g b c) (hl : c.length ≤ B + S) (hlt : ∀ x ∈ c, x < B + S)
    (hw : ∀ s ∈ ixSlots c, g s = 0 ∨ IxEn (g s)) {kd sl xw : Nat} (hlk : ixLook g (ixSlots c) t = (kd, sl, xw)) :
    Calls Try.prog 35 #[.pointer (some ⟨m, 0, none⟩), .int .u64 (hN : Int)] w fun e w' => e = .returned (lookV kd sl xw (ixLast c)) ∧ Below w.heap.size w w' := by
  have hbs := h.bs
  have hpos := hp.pos
  have H := hide h
  have hb0 := (Below.refl w.heap.size w).alloc (Nat.le_refl _) (.cells #[.int .i64 0, .int .i64 0, .int .u64 0, .int .i64 0] 46)
  have HC := hide (rx_chain (h.below hb0) hp hl hlt)
  have HL := hide hlt
  have c0 := (h.below hb0).c0
  have HB := hide hbk
  obtain ⟨la, HLA⟩ : ∃ la, Hid (ixLast c = la) := ⟨_, rfl⟩
  rw [HLA.out]
  go_enter Try.func35, Try.ntmps35
  go_wp2_with fail
  refine (rbucket_any hN B _ hh).mono ?_
  rintro e x ⟨rfl, rfl⟩
  rw [HB.out]
  go_wp2_with fail
  refine HC.out.mono ?_
  rintro e x ⟨v, rfl, ho, bx⟩
  obtain ⟨q, capq, rfl, hq1, hq2, hqc⟩ := own_slI ho hp.pos
  have hchn : ChnAt x q c := hqc
  have hB := hb0.trans (bx.mono hb0.size)
  have hq3 : w.heap.size < q := by simp at hq1; omega
  have cl := hchn (c.length - 1) (by omega)
  rw [show c.getD (c.length - 1) 0 = ixLast c from rfl, HLA.out] at cl
  have hcl : ((c.length : Int) - 1) = ((c.length - 1 : Nat) : Int) := by omega
  have hLW : LkW w x q c := ⟨(LkRes.made w _).below bx, hchn, hB⟩
  clear h hlt hb0 bx ho hq1 hqc hchn hB HC hbk c0
  have HP := hide hp
  have HW := hide hw
  have HLK := hide hlk
  clear hp hw hlk
  go_wp2
  go_loopw [7, 8] (fun vf vi wr => ∃ i : Nat, i ≤ c.length ∧ vi = .int .i64 (i : Int) ∧ vf = .int .i64 (ixFirst g (ixUpto c i 0)) ∧ (ixUpto c i 0).find? (ixHit g t) = none ∧ LkW w wr q c)
    (fun _ vi _ => c.length - (intOf vi).toNat)
  case atStart => exact ⟨0, Nat.zero_le _, rfl, by rw [ixUpto_start]; rfl, by rw [ixUpto_start]; rfl, hLW⟩
  case round =>
    clear hLW hq2 cl hcl
    obtain ⟨i, hi', rfl, rfl, hnh, hlw⟩ := hrel
    by_cases hlt : i < c.length
    · have HCI := HL.out _ (getD_mem hlt)
      obtain ⟨ci, HCE⟩ : ∃ ci, Hid (c.getD i 0 = ci) := ⟨_, rfl⟩
      rw [HCE.out] at HCI
      have HN := hide (ixUpto_next c i hlt)
      have HON : Hid (∀ k, ixUpto c i (k + 1) = ixUpto c i k ++ [8 * ci + k]) := fun k => by rw [ixUpto_on, HCE.out]
      have HAT : Hid (∀ k, k < 7 → ∃ rest, ixSlots c = ixUpto c i k ++ (8 * ci + k) :: rest) := fun k hk => by rw [← HCE.out]; exact ixUpto_at hlt hk
      go_wp2
      go_loopw [7, 9] (fun vf vk wr => ∃ k : Nat, k ≤ 7 ∧ vk = .int .i64 (k : Int) ∧ vf = .int .i64 (ixFirst g (ixUpto c i k)) ∧ (ixUpto c i k).find? (ixHit g t) = none ∧ LkW w wr q c)
        (fun _ vk _ => 7 - (intOf vk).toNat)
      case atStart => exact ⟨0, by omega, rfl, rfl, hnh, hlw⟩
      case round =>
        clear hnh hlw
        obtain ⟨k, hk', rfl, rfl, hnh, hlw⟩ := hrel
        by_cases hk7 : k < 7
        · have hRw := H.out.below hlw.bel
          have c2 := hRw.c2
          have cc := hRw.cs ci HCI k (by omega)
          have cq := hlw.chn i hlt
          rw [HCE.out] at cq
          have HON2 := hide (HON.out k)
          obtain ⟨rest, hrest⟩ := HAT.out k hk7
          have HWS := HW.out (8 * ci + k) (by rw [hrest]; simp)
          have hci : (ci : Int) < (B : Int) + (S : Int) := by omega
          have hk8 : (k : Int) < 8 := by omega
          have HRS := hide hrest
          have HLW := hide hlw
          have HNH := hide hnh
          obtain ⟨G, HG⟩ : ∃ G, Hid (g (8 * ci + k) = G) := ⟨_, rfl⟩
          rw [HG.out] at cc HWS
          have HFS := hide (ixFirst_snoc g (ixUpto c i k) (8 * ci + k))
          obtain ⟨F, HF⟩ : ∃ F, Hid (ixFirst g (ixUpto c i k) = F) := ⟨_, rfl⟩
          rw [HF.out] at HFS ⊢
          rw [HG.out] at HFS
          clear hRw hrest hlw hnh
          by_cases hG0 : G = 0
          · subst hG0
            have HU := hide ref_reads_zero
            simp only [enV] at HU
            have HX : Hid (ixHit g t (8 * ci + k) = false) := by show _ = _; unfold ixHit; rw [HG.out]; simp
            go_wp2_with fail
            go_quiet ((fail))
            have HLX := hide (HLW.out.below (below_drewN (Below.refl _ _) nq))
            clear HLW
            generalize wr.drewN nq = X at *
            go_wp2_with fail
            refine (HU.out _).mono ?_
            rintro e y ⟨rfl, by1⟩
            have HLY := hide ((HLX.out.below by1).below ((Below.refl _ y).alloc (Nat.le_refl _) (.cells #[.int .u64 0, .int .u64 0, .bool false] 40)))
            clear HLX by1
            go_wp2_with fail
            go_quiet ((fail))
            have HLZ := hide (HLY.out.below (below_drewN (Below.refl _ _) nq))
            have cqZ := HLZ.out.chn i hlt
            rw [HCE.out] at cqZ
            clear HLY
            by_cases hF : F < 0
            · have HF2 : Hid (ixFirst g (ixUpto c i k ++ [8 * ci + k]) = ((8 * ci + k : Nat) : Int)) := by rw [Hid, HFS.out]; simp [hF]
              go_wp2
              go_roundw
              case rel => exact ⟨k + 1, by omega, by go_num, by rw [HON2.out, HF2.out]; congr 1; omega, by rw [HON2.out]; exact find_snoc_none HNH.out HX.out, HLZ.out⟩
              case measure => simp [intOf]; omega
            · have HF2 : Hid (ixFirst g (ixUpto c i k ++ [8 * ci + k]) = F) := by rw [Hid, HFS.out]; simp [hF]
              go_wp2
              go_roundw
              case rel => exact ⟨k + 1, by omega, by go_num, by rw [HON2.out, HF2.out], by rw [HON2.out]; exact find_snoc_none HNH.out HX.out, HLZ.out⟩
              case measure => simp [intOf]; omega
          · have hGe : IxEn G := by
              rcases HWS with e | e
              · exact absurd e hG0
              · exact e
            obtain ⟨ea, ef, hU⟩ := ref_reads_en hGe
            have HU := hide hU
            simp only [enV] at HU
            obtain ⟨tg, HTG⟩ : ∃ tg, Hid (ixTag G = tg) := ⟨_, rfl⟩
            rw [HTG.out] at HU
            have hG0' : ((G : Int) == 0) = false := by rw [beq_eq_false_iff_ne]; omega
            have HF2 : Hid (ixFirst g (ixUpto c i k ++ [8 * ci + k]) = F) := by rw [Hid, HFS.out, if_neg (fun e => hG0 e.1)]
            clear hU hGe HWS HFS
            have HTA := fun (w : World) => rtag_any hN w hh
            rw [ht] at HTA
            have HTA' := hide HTA
            clear HTA
            go_wp2_with fail
            go_quiet ((fail))
            have HLX := hide (HLW.out.below (below_drewN (Below.refl _ _) nq))
            clear HLW
            generalize wr.drewN nq = X at *
            go_wp2_with fail
            refine (HU.out _).mono ?_
            rintro e y ⟨rfl, by1⟩
            have HLY := hide ((HLX.out.below by1).below ((Below.refl _ y).alloc (Nat.le_refl _) (.cells #[.int .u64 (ea : Int), .int .u64 (tg : Int), .bool ef] 40)))
            clear HLX by1
            by_cases hT : tg = t
            · subst hT
              have HX : Hid (ixHit g tg (8 * ci + k) = true) := by show _ = _; unfold ixHit; rw [HG.out, HTG.out]; simp [hG0]
              have HE := HLK.out
              rw [HRS.out, ixLook_hit HNH.out HX.out, HG.out] at HE
              obtain ⟨HE1, HE4⟩ := Prod.mk.inj HE
              obtain ⟨HE2, HE3⟩ := Prod.mk.inj HE4
              have HR : Hid (lookV kd sl xw la = .agg #[.int .i64 1, .int .i64 ((ci : Int) * 8 + (k : Int)), .int .u64 (G : Int), .int .i64 (la : Int)]) := by
                rw [Hid, ← HE1, ← HE2, ← HE3]; unfold lookV; rw [show ((8 * ci + k : Nat) : Int) = (ci : Int) * 8 + (k : Int) by omega]; rfl
              clear HE HE1 HE2 HE3 HE4 HX
              go_wp2_with fail
              go_quiet ((go_at_call 15; exact Calls.quiet_of_same (HTA'.out _)))
              have HLZ := HLY.out.below (below_drewN (Below.refl _ _) nq)
              have RES := HLZ.res
              have BEL := HLZ.bel
              have fz0 := RES.f0
              have fz1 := RES.f1
              have fz2 := RES.f2
              have fz3 := RES.f3
              have dz0 := RES.c0
              have dz1 := RES.c1
              have dz2 := RES.c2
              have dz3 := RES.c3
              have cqZ := HLZ.chn i hlt
              rw [HCE.out] at cqZ
              clear HLY
              generalize World.drewN _ nq = Z at *
              go_wp2
              obtain ⟨s0, s1, s2, s3⟩ := RES.set (.int .i64 1) (.int .i64 ((ci : Int) * 8 + (k : Int))) (.int .u64 (G : Int)) (.int .i64 (la : Int))
              have hy : Below w.heap.size w ((((Z.setCell ⟨w.heap.size, 0, none⟩ (.int .i64 1)).setCell ⟨w.heap.size, 1, none⟩ (.int .i64 ((ci : Int) * 8 + (k : Int)))).setCell ⟨w.heap.size, 2, none⟩ (.int .u64 (G : Int))).setCell ⟨w.heap.size, 3, none⟩ (.int .i64 (la : Int))) := (((BEL.setCell (Nat.le_refl _) _).setCell (Nat.le_refl _) _).setCell (Nat.le_refl _) _).setCell (Nat.le_refl _) _
              generalize (((Z.setCell ⟨w.heap.size, 0, none⟩ (.int .i64 1)).setCell ⟨w.heap.size, 1, none⟩ (.int .i64 ((ci : Int) * 8 + (k : Int)))).setCell ⟨w.heap.size, 2, none⟩ (.int .u64 (G : Int))).setCell ⟨w.heap.size, 3, none⟩ (.int .i64 (la : Int)) = y at *
              (try simp only [Exit.inBlock, Exit.then])
              refine bodyPost_ret (by simp [results, Try.results35, go_sem, s0, s1, s2, s3]; try rfl) rfl ?_
              exact ⟨by rw [HR.out], hy⟩
            · have hd : ((tg : Int) == (t : Int)) = false := by rw [beq_eq_false_iff_ne]; omega
              have HX : Hid (ixHit g t (8 * ci + k) = false) := by show _ = _; unfold ixHit; rw [HG.out, HTG.out]; simp [hT]
              go_wp2_with fail
              go_quiet ((go_at_call 15; exact Calls.quiet_of_same (HTA'.out _)))
              have HLZ := hide (HLY.out.below (below_drewN (Below.refl _ _) nq))
              clear HLY
              go_wp2
              go_roundw
              case rel => exact ⟨k + 1, by omega, by go_num, by rw [HON2.out, HF2.out], by rw [HON2.out]; exact find_snoc_none HNH.out HX.out, HLZ.out⟩
              case measure => simp [intOf]; omega
        · have ek : k = 7 := by omega
          subst ek
          rw [HN.out] at hnh ⊢
          go_wp2
          go_roundw
          case rel => exact ⟨i + 1, by omega, by go_num, rfl, hnh, hlw⟩
          case measure => simp [intOf]; omega
    · have e : i = c.length := by omega
      subst e
      rw [ixUpto_all] at hnh ⊢
      have RES := hlw.res
      have BEL := hlw.bel
      have fz0 := RES.f0
      have fz1 := RES.f1
      have fz2 := RES.f2
      have fz3 := RES.f3
      have dz0 := RES.c0
      have dz1 := RES.c1
      have dz2 := RES.c2
      have dz3 := RES.c3
      rcases ixFirst_cases g (ixSlots c) with ⟨hF, hfn⟩ | ⟨s, hs, hF, hfn⟩
      · have HE : ixLook g (ixSlots c) t = (3, 0, 0) := by unfold ixLook; rw [hnh, hfn]
        rw [HLK.out] at HE
        obtain ⟨HE1, HE4⟩ := Prod.mk.inj HE
        obtain ⟨HE2, HE3⟩ := Prod.mk.inj HE4
        have HR : Hid (lookV kd sl xw la = .agg #[.int .i64 3, .int .i64 0, .int .u64 0, .int .i64 (la : Int)]) := by rw [Hid, HE1, HE2, HE3]; rfl
        clear HE HE1 HE2 HE3 HE4
        rw [hF]
        clear hnh hfn hF hlw
        generalize wr = Z at *
        go_wp2
        obtain ⟨s0, s1, s2, s3⟩ := RES.set (.int .i64 3) (.int .i64 0) (.int .u64 0) (.int .i64 (la : Int))
        have hy : Below w.heap.size w ((((Z.setCell ⟨w.heap.size, 0, none⟩ (.int .i64 3)).setCell ⟨w.heap.size, 1, none⟩ (.int .i64 0)).setCell ⟨w.heap.size, 2, none⟩ (.int .u64 0)).setCell ⟨w.heap.size, 3, none⟩ (.int .i64 (la : Int))) := (((BEL.setCell (Nat.le_refl _) _).setCell (Nat.le_refl _) _).setCell (Nat.le_refl _) _).setCell (Nat.le_refl _) _
        generalize (((Z.setCell ⟨w.heap.size, 0, none⟩ (.int .i64 3)).setCell ⟨w.heap.size, 1, none⟩ (.int .i64 0)).setCell ⟨w.heap.size, 2, none⟩ (.int .u64 0)).setCell ⟨w.heap.size, 3, none⟩ (.int .i64 (la : Int)) = y at *
        (try simp only [Exit.inBlock, Exit.then])
        refine bodyPost_ret (by simp [results, Try.results35, go_sem, s0, s1, s2, s3]; try rfl) rfl ?_
        exact ⟨by rw [HR.out], hy⟩
      · have HE : ixLook g (ixSlots c) t = (2, s, 0) := by unfold ixLook; rw [hnh, hfn]
        rw [HLK.out] at HE
        obtain ⟨HE1, HE4⟩ := Prod.mk.inj HE
        obtain ⟨HE2, HE3⟩ := Prod.mk.inj HE4
        have HR : Hid (lookV kd sl xw la = .agg #[.int .i64 2, .int .i64 (s : Int), .int .u64 0, .int .i64 (la : Int)]) := by rw [Hid, HE1, HE2, HE3]; rfl
        clear HE HE1 HE2 HE3 HE4
        rw [hF]
        clear hnh hfn hF hlw
        generalize wr = Z at *
        go_wp2
        obtain ⟨s0, s1, s2, s3⟩ := RES.set (.int .i64 2) (.int .i64 (s : Int)) (.int .u64 0) (.int .i64 (la : Int))
        have hy : Below w.heap.size w ((((Z.setCell ⟨w.heap.size, 0, none⟩ (.int .i64 2)).setCell ⟨w.heap.size, 1, none⟩ (.int .i64 (s : Int))).setCell ⟨w.heap.size, 2, none⟩ (.int .u64 0)).setCell ⟨w.heap.size, 3, none⟩ (.int .i64 (la : Int))) := (((BEL.setCell (Nat.le_refl _) _).setCell (Nat.le_refl _) _).setCell (Nat.le_refl _) _).setCell (Nat.le_refl _) _
        generalize (((Z.setCell ⟨w.heap.size, 0, none⟩ (.int .i64 2)).setCell ⟨w.heap.size, 1, none⟩ (.int .i64 (s : Int))).setCell ⟨w.heap.size, 2, none⟩ (.int .u64 0)).setCell ⟨w.heap.size, 3, none⟩ (.int .i64 (la : Int)) = y at *
        (try simp only [Exit.inBlock, Exit.then])
        refine bodyPost_ret (by simp [results, Try.results35, go_sem, s0, s1, s2, s3]; try rfl) rfl ?_
        exact ⟨by rw [HR.out], hy⟩
end Go.Proofs.Ytmpnbaiolmkhlaa
