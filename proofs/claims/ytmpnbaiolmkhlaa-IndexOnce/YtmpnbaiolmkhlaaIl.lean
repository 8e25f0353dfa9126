/- Each tag once: the law's walk, whatever the program's index is, if its calls do what IxProg says. -/
import Derived.Test.YtmpnbaiolmkhlaaIk
import Derived.Deep.CutBlock
import Derived.Deep.DeepCutAuto
namespace Go.Proofs.Ytmpnbaiolmkhlaa
set_option maxRecDepth 20000
open Go.RowKit
/-- The last word with a tag. -/
def ixFnd (l : List Nat) (t : Nat) : Option Nat := (l.filter fun x => decide (ixTag x = t)).getLast?
theorem ixFnd_nil (t : Nat) : ixFnd [] t = none := rfl
theorem ixFnd_take {l : List Nat} {t j : Nat} (h : j < l.length) : ixFnd (l.take (j + 1)) t = if ixTag (l.getD j 0) = t then some (l.getD j 0) else ixFnd (l.take j) t := by
  unfold ixFnd
  rw [take_filter h]
  by_cases e : ixTag (l.getD j 0) = t
  · rw [if_pos (by simpa using e), if_pos e]; simp
  · rw [if_neg (by simpa using e), if_neg e, List.append_nil]
theorem ixFnd_look {B n : Nat} {g : Nat → Nat} {T : Nat} {cs : Nat → List Nat} (h : IxInv B n g T cs) {b t kd sl xw : Nat} (hb : b < B) (hl : ixLook g (ixSlots (cs b)) t = (kd, sl, xw)) :
    (((kd : Nat) : Int) == 1) = (ixFnd (ixEnts g (ixSlots (cs b))) t).isSome ∧ xw = (ixFnd (ixEnts g (ixSlots (cs b))) t).getD 0 := by
  have none_of : (∀ s ∈ ixSlots (cs b), ixHit g t s = false) → ixFnd (ixEnts g (ixSlots (cs b))) t = none := fun hn => by
    unfold ixFnd
    have : (ixEnts g (ixSlots (cs b))).filter (fun x => decide (ixTag x = t)) = [] := by
      rw [List.filter_eq_nil_iff]
      intro x hx
      obtain ⟨h0, s, hs, rfl⟩ := ixEnts_mem.1 hx
      have := hn s hs
      unfold ixHit at this
      simpa [h0] using this
    rw [this]; rfl
  rcases ixLook_cases hl with ⟨rfl, e1, e2, e3, e4⟩ | ⟨rfl, _, _, rfl, hn⟩ | ⟨rfl, _, rfl, hn⟩
  · have hm : xw ∈ (ixEnts g (ixSlots (cs b))).filter (fun x => decide (ixTag x = t)) := by
      rw [List.mem_filter]
      exact ⟨ixEnts_mem.2 ⟨e3, sl, e1, e2⟩, by simpa using e4⟩
    unfold ixFnd
    obtain ⟨y, hy⟩ : ∃ y, ((ixEnts g (ixSlots (cs b))).filter (fun x => decide (ixTag x = t))).getLast? = some y := by
      cases hg : ((ixEnts g (ixSlots (cs b))).filter (fun x => decide (ixTag x = t))).getLast? with
      | none => rw [List.getLast?_eq_none_iff] at hg; rw [hg] at hm; cases hm
      | some y => exact ⟨y, rfl⟩
    have hym := List.mem_of_getLast? hy
    rw [List.mem_filter] at hym
    obtain ⟨h0, s, hs, rfl⟩ := ixEnts_mem.1 hym.1
    have ht : ixTag (g s) = t := by simpa using hym.2
    have : sl = s := h.uniq b hb sl e1 s hs (by rw [e2]; exact e3) h0 (by rw [e2, e4, ht])
    subst this
    rw [hy]
    exact ⟨rfl, e2.symm⟩
  · rw [none_of hn]; exact ⟨rfl, rfl⟩
  · rw [none_of hn]; exact ⟨rfl, rfl⟩
/-- What was found ahead of bucket k; ahead of its word j. -/
def ixOut (b0 : Nat) (F : Option Nat) (k : Nat) : Option Nat := if k ≤ b0 then none else F
def ixMid (b0 : Nat) (F : Option Nat) (l : List Nat) (t k j : Nat) : Option Nat := if k < b0 then none else if k = b0 then ixFnd (l.take j) t else F
theorem ixMid_zero (b0 : Nat) (F : Option Nat) (l : List Nat) (t k : Nat) : ixMid b0 F l t k 0 = ixOut b0 F k := by
  unfold ixMid ixOut
  by_cases h1 : k < b0
  · rw [if_pos h1, if_pos (by omega)]
  · rw [if_neg h1]
    by_cases h2 : k = b0
    · rw [if_pos h2, if_pos (by omega)]; rfl
    · rw [if_neg h2, if_neg (by omega)]
theorem ixMid_end {b0 : Nat} {F : Option Nat} {l : List Nat} {t k : Nat} (hF : k = b0 → F = ixFnd l t) : ixMid b0 F l t k l.length = ixOut b0 F (k + 1) := by
  unfold ixMid ixOut
  by_cases h1 : k < b0
  · rw [if_pos h1, if_pos (show k + 1 ≤ b0 by omega)]
  · rw [if_neg h1, if_neg (show ¬ k + 1 ≤ b0 by omega)]
    by_cases h2 : k = b0
    · rw [if_pos h2, List.take_length, hF h2]
    · rw [if_neg h2]
theorem ixMid_on {b0 : Nat} {F : Option Nat} {l : List Nat} {t k j : Nat} (hj : j < l.length) : ixMid b0 F l t k (j + 1) = if k = b0 ∧ ixTag (l.getD j 0) = t then some (l.getD j 0) else ixMid b0 F l t k j := by
  unfold ixMid
  by_cases h1 : k < b0
  · rw [if_pos h1, if_pos h1, if_neg (by omega)]
  · rw [if_neg h1, if_neg h1]
    by_cases h2 : k = b0
    · rw [if_pos h2, if_pos h2, ixFnd_take hj]
      by_cases e : ixTag (l.getD j 0) = t
      · rw [if_pos e, if_pos ⟨h2, e⟩]
      · rw [if_neg e, if_neg (fun x => e x.2)]
    · rw [if_neg h2, if_neg h2, if_neg (fun x => h2 x.1)]
theorem SluAt.below {w w' : World} {p : Nat} {l : List Nat} (h : SluAt w p l) (hb : Below w.heap.size w w') : SluAt w' p l := h.keep (M := fun _ => False) (Below.keeps hb) id
theorem pairs_at {l : List Nat} (h : l.Pairwise (fun x y => ixTag x ≠ ixTag y)) {j k : Nat} (hj : j < k) (hk : k < l.length) : ixTag (l.getD k 0) ≠ ixTag (l.getD j 0) := by
  have := List.pairwise_iff_getElem.1 h j k (by omega) hk hj
  rw [List.getD_eq_getElem?_getD, List.getElem?_eq_getElem hk, List.getD_eq_getElem?_getD, List.getElem?_eq_getElem (show j < l.length by omega)]
  exact fun e => this e.symm
set_option maxHeartbeats 8000000 in
set_option maxRecDepth 20000 in
theorem once_loops {X : IxPred} (C : IxProg X) (w : World) (B S : Nat) (ao : Option Addr) (len cap : Nat) (z : Nat → Ax) (hz : Axs w ao len z) (hpw : powB (B : Int) = true) (hB : B ≤ 16) (hS : S ≤ 8) :
    Calls Try.prog 3 #[.int .i64 (B : Int), .int .i64 (S : Int), .slice ao len cap] w fun e w' => e = .returned (.bool true) ∧ Below w.heap.size w w' := by
  have HZ := hide hz
  have HNP : Hid (∀ Z : World, _) := fun Z => C.newY B S Z hpw (by omega)
  have HNR : Hid (∀ Z : World, _) := fun Z => rx_new_yes B S hpw (by omega) Z
  have hB1 := (powB_range hpw).1
  have G0 := hide (ixGood_new hpw (show S ≤ 64 by omega))
  clear hz
  go_enter Try.func3, Try.ntmps3
  go_wp2_with fail
  refine (awake17 C _).mono ?_
  rintro e x1 ⟨rfl, b1⟩
  go_wp2_with fail
  refine (HNP.out _).mono ?_
  rintro e x2 ⟨M, x, rfl, p2, hM2, b2⟩
  have B2 := b1.trans (b2.mono b1.size)
  go_wp2_with fail
  refine (HNR.out _).mono ?_
  rintro e x3 ⟨m, r, rfl, r3, hm3, hr3, b3⟩
  have B3 := B2.trans (b3.mono B2.size)
  have HT : IxTw X x3 w.heap.size x m B S M r (fun _ => 0) 0 0 (fun _ => 0) 0 0 := by
    have s1 := b1.size
    have s2 := b2.size
    refine ⟨C.keep p2 (N := fun _ => False) (Below.keeps b3) (fun _ _ => id), r3, ⟨fun e => ?_, fun e => ?_⟩, fun i hi => by have := hM2 i hi; omega, ⟨by omega, by omega⟩, B3.size⟩
    · have := C.lt p2 _ e; omega
    · have := C.lt p2 _ e; omega
  have HOK : IxOk X x3 w.heap.size x m B S 0 := ⟨M, r, _, 0, 0, 0, _, HT, G0.out, Nat.le_refl _, Nat.le_refl _⟩
  clear p2 hM2 r3 hm3 hr3 HT b1 b2 B2 b3 HNP HNR
  go_wp2_with fail
  refine (small_any _ _ _).mono ?_
  rintro e x4 ⟨rfl, rfl⟩
  have d1 : (decide ((B : Int) ≤ 16) && decide ((S : Int) ≤ 8)) = true := by simp; omega
  rw [d1]
  go_upto_block 0 with fail
  go_cut [11] (fun s11 wx => IxOk X wx w.heap.size x m B S 150 ∧ Below w.heap.size w wx)
  case first =>
    go_wp2
    go_loopw [11] (fun vi wr => ∃ i : Nat, i ≤ len ∧ i ≤ 150 ∧ vi = .int .i64 (i : Int) ∧ IxOk X wr w.heap.size x m B S i ∧ Below w.heap.size w wr) (fun vi _ => 150 - (intOf vi).toNat)
    case atStart => exact ⟨0, Nat.zero_le _, by omega, rfl, HOK, B3⟩
    case round =>
      clear HOK B3
      obtain ⟨i, hil, hi150, rfl, hok, hbel⟩ := hrel
      by_cases hlt : i < len
      · by_cases hl150 : i < 150
        · obtain ⟨hax, ab, aoff, rfl, hat⟩ := HZ.out i hlt
          have hat2 := hat.below hbel
          obtain ⟨c0, c1, c2, c3, c4, c5, c6, c7⟩ := hat2
          have HAX := hide hax
          generalize z i = a at *
          obtain ⟨kd, hN, sl, old, mi, ad, bk, sp⟩ := a
          simp only at c0 c1 c2 c3 c4 c5 c6 c7
          have HOK := hide hok
          have HBEL := hide hbel
          clear hat hax hok hbel
          have hb1 := (Below.refl wr.heap.size wr).alloc (Nat.le_refl _) (.cells #[.int .i64 kd, .int .u64 hN, .int .i64 sl, .int .u64 old, .bool mi, .int .u64 ad, .int .i64 bk, .int .i64 sp] 34)
          have HOK1 := hide (HOK.out.below C hb1)
          have HB1 := hide (HBEL.out.alloc HBEL.out.size (.cells #[.int .i64 kd, .int .u64 hN, .int .i64 sl, .int .u64 old, .bool mi, .int .u64 ad, .int .i64 bk, .int .i64 sp] 34))
          clear HOK HBEL hb1
          go_upto_if 73 with fail
          go_cut [12] (fun s12 wx => IxOk X wx w.heap.size x m B S (i + 1) ∧ Below w.heap.size w wx)
          case first =>
            by_cases hk5 : kd = 5
            · subst hk5
              obtain ⟨M, r, g, T, k, won, cs, h1, G, hk, hwon⟩ := HOK1.out
              have HD1 := hide (drop_p C h1 G (by omega))
              have HG := hide G
              clear h1 G
              go_wp2_with fail
              refine HD1.out.mono ?_
              rintro e y1 ⟨gone, rfl, ⟨g', h2, hl⟩, b2⟩
              have HD2 := hide (drop_r C h2 HG.out hl hk hwon)
              have B2 := hide (HB1.out.trans b2)
              clear h2 hl b2 HD1
              go_wp2_with fail
              refine HD2.out.mono ?_
              rintro e y2 ⟨gone2, rfl, ok2, b3⟩
              have OK2 := hide (ok2.more (Nat.le_succ i))
              have B3 := hide (B2.out.trans b3)
              clear ok2 b3
              go_wp2
              go_meet
              case rel => exact ⟨OK2.out, B3.out⟩
            · have hk5' : (kd == 5) = false := by rw [beq_eq_false_iff_ne]; exact hk5
              have HGR := hide (grows_ok C HOK1.out (by omega) _ HAX.out)
              simp only [axV] at HGR
              go_wp2_with fail
              refine HGR.out.mono ?_
              rintro e y1 ⟨rfl, ok2, b2⟩
              have OK2 := hide ok2
              have B2 := hide (HB1.out.trans b2)
              clear ok2 b2
              go_wp2
              go_meet
              case rel => exact ⟨OK2.out, B2.out⟩
          case rest =>
            obtain ⟨hok, hbel⟩ := hcut
            obtain ⟨M, r, g, T, k0, won, cs, h1, G, hk, hwon⟩ := hok
            have HBW := hide hbel
            have H1 := hide h1
            have HG := hide G
            clear h1 G hbel
            go_wp2
            go_loopw [13] (fun vb wr2 => ∃ b : Nat, b ≤ B ∧ vb = .int .i64 (b : Int) ∧ Below wc.heap.size wc wr2) (fun vb _ => B - (intOf vb).toNat)
            case atStart => exact ⟨0, Nat.zero_le _, rfl, Below.refl _ _⟩
            case round =>
              obtain ⟨b, hbB, rfl, hb2⟩ := hrel
              by_cases hbl : b < B
              · have HE := hide (rx_entries (H1.out.q.below hb2) (HG.out.inv.path b hbl) (HG.out.len hbl) (HG.out.in' hbl))
                have HPR := hide (HG.out.inv.pairs hbl)
                have HEN : Hid (∀ y ∈ ixEnts g (ixSlots (cs b)), IxEn y) := fun y hy => by
                  obtain ⟨h0, s, hs, rfl⟩ := ixEnts_mem.1 hy
                  rcases HG.out.words hbl s hs with e | e
                  · exact absurd e h0
                  · exact e
                have hll := ixEnts_length g (ixSlots (cs b))
                rw [ixSlots_length] at hll
                have hcl := HG.out.len hbl
                obtain ⟨l, HLL⟩ : ∃ l, Hid (ixEnts g (ixSlots (cs b)) = l) := ⟨_, rfl⟩
                rw [HLL.out] at HE HPR HEN hll
                have HB2 := hide hb2
                clear hb2
                go_wp2_with fail
                refine HE.out.mono ?_
                rintro e y ⟨p, pcap, rfl, ho, by1⟩
                have HSL := hide ho.slu
                have HB3 := hide (HB2.out.trans (by1.mono HB2.out.size))
                clear ho by1 HB2 HE
                go_wp2
                go_loopw [15] (fun vk wr3 => ∃ k : Nat, k ≤ l.length ∧ vk = .int .i64 (k : Int) ∧ SluAt wr3 p l ∧ Below wc.heap.size wc wr3) (fun vk _ => l.length - (intOf vk).toNat)
                case atStart => exact ⟨0, Nat.zero_le _, rfl, HSL.out, HB3.out⟩
                case round =>
                  clear HSL HB3
                  obtain ⟨k, hkl, rfl, hsl, hb3⟩ := hrel
                  by_cases hk2 : k < l.length
                  · have cx := hsl k hk2
                    obtain ⟨ea, ef, hU⟩ := ref_reads_en (HEN.out _ (getD_mem hk2))
                    have HU := hide hU
                    simp only [enV] at HU
                    have HSL := hide hsl
                    have HB3 := hide hb3
                    obtain ⟨xv, HXV⟩ : ∃ xv, Hid (l.getD k 0 = xv) := ⟨_, rfl⟩
                    rw [HXV.out] at cx HU
                    obtain ⟨tk, HTK⟩ : ∃ tk, Hid (ixTag xv = tk) := ⟨_, rfl⟩
                    rw [HTK.out] at HU
                    clear hU hsl hb3
                    go_wp2_with fail
                    refine (HU.out _).mono ?_
                    rintro e y2 ⟨rfl, by2⟩
                    have hb4 := (by2.alloc by2.size (.cells #[.int .u64 (ea : Int), .int .u64 (tk : Int), .bool ef] 40))
                    have HSL4 := hide (HSL.out.below hb4)
                    have HB4 := hide (HB3.out.trans (hb4.mono HB3.out.size))
                    have hct : (y2.alloc (.cells #[.int .u64 (ea : Int), .int .u64 (tk : Int), .bool ef] 40)).cell? ⟨y2.heap.size, 1, none⟩ = some (.int .u64 (tk : Int)) := by simp
                    have HCT := hide hct
                    clear hct by2 hb4 HSL HB3
                    go_wp2
                    go_loopw [18] (fun vj wr4 => ∃ j : Nat, j ≤ k ∧ vj = .int .i64 (j : Int) ∧ SluAt wr4 p l ∧ wr4.cell? ⟨y2.heap.size, 1, none⟩ = some (.int .u64 (tk : Int)) ∧ Below wc.heap.size wc wr4) (fun vj _ => k - (intOf vj).toNat)
                    case atStart => exact ⟨0, Nat.zero_le _, rfl, HSL4.out, HCT.out, HB4.out⟩
                    case round =>
                      clear HSL4 HCT HB4
                      obtain ⟨j, hjk, rfl, hsl, hct, hb4⟩ := hrel
                      by_cases hj2 : j < k
                      · have cy := hsl j (by omega)
                        obtain ⟨ga, gf, hV⟩ := ref_reads_en (HEN.out _ (getD_mem (show j < l.length by omega)))
                        have hne := pairs_at HPR.out hj2 hk2
                        have HV := hide hV
                        simp only [enV] at HV
                        obtain ⟨yv, HYV⟩ : ∃ yv, Hid (l.getD j 0 = yv) := ⟨_, rfl⟩
                        rw [HYV.out] at cy HV hne
                        rw [HXV.out, HTK.out] at hne
                        obtain ⟨tj, HTJ⟩ : ∃ tj, Hid (ixTag yv = tj) := ⟨_, rfl⟩
                        rw [HTJ.out] at HV hne
                        have hnb : ((tk : Int) == (tj : Int)) = false := by rw [beq_eq_false_iff_ne]; omega
                        have HSL := hide hsl
                        have HB4 := hide hb4
                        have hql : y2.heap.size < wr.heap.size := World.block_lt_of_cell? _ _ hct
                        have HCT := hide hct
                        clear hV hsl hb4 hne hct
                        go_wp2_with fail
                        refine (HV.out _).mono ?_
                        rintro e y3 ⟨rfl, by3⟩
                        have hb5 := (by3.alloc by3.size (.cells #[.int .u64 (ga : Int), .int .u64 (tj : Int), .bool gf] 40))
                        have HSL5 := hide (HSL.out.below hb5)
                        have HB5 := hide (HB4.out.trans (hb5.mono HB4.out.size))
                        have hct := (hb5.cell (p := ⟨y2.heap.size, 1, none⟩) hql).trans HCT.out
                        have HCT5 := hide hct
                        clear by3 hb5 HSL HB4
                        go_wp2
                        go_roundw
                        case rel => exact ⟨j + 1, by omega, by go_num, HSL5.out, HCT5.out, HB5.out⟩
                        case measure => simp [intOf]; omega
                      · have e : j = k := by omega
                        subst e
                        go_wp2
                        go_roundw
                        case rel => exact ⟨j + 1, by omega, by go_num, hsl, hb4⟩
                        case measure => simp [intOf]; omega
                  · have e : k = l.length := by omega
                    subst e
                    go_wp2
                    go_roundw
                    case rel => exact ⟨b + 1, by omega, by go_num, hb3⟩
                    case measure => simp [intOf]; omega
              · have e : b = B := by omega
                subst e
                go_wp2
                go_roundw
                case rel => exact ⟨i + 1, by omega, by omega, by go_num, ⟨M, r, g, T, k0, won, cs, H1.out.below C hb2, HG.out, hk, hwon⟩, HBW.out.trans (hb2.mono HBW.out.size)⟩
                case measure => simp [intOf]; omega
        · go_wp2
          go_meet
          case rel => exact ⟨hok.more hi150, hbel⟩
      · go_wp2
        go_meet
        case rel => exact ⟨hok.more hi150, hbel⟩
  case rest =>
    obtain ⟨hok, hbel⟩ := hcut
    go_wp2
    go_loopw [21] (fun vi wr => ∃ i : Nat, i ≤ len ∧ i ≤ 150 ∧ vi = .int .i64 (i : Int) ∧ IxOk X wr w.heap.size x m B S 150 ∧ Below w.heap.size w wr) (fun vi _ => 150 - (intOf vi).toNat)
    case atStart => exact ⟨0, Nat.zero_le _, by omega, rfl, hok, hbel⟩
    case round =>
      clear hok hbel
      obtain ⟨i, hil, hi150, rfl, hok, hbel⟩ := hrel
      by_cases hlt : i < len
      · by_cases hl150 : i < 150
        · obtain ⟨hax, ab, aoff, rfl, hat⟩ := HZ.out i hlt
          have hah := hax.h
          have c1 := (hat.below hbel).c1
          have hI : decide ((i : Int) < 150) = true := decide_eq_true (by omega)
          obtain ⟨WA, hWA⟩ : ∃ WA, WA = wr := ⟨_, rfl⟩
          subst hWA
          obtain ⟨hN, hNe⟩ := Int.eq_ofNat_of_zero_le hah.1
          rw [hNe] at c1 hah
          have hh : hN < 18446744073709551616 := by omega
          obtain ⟨M, r, g, T, k0, won, cs, h1, G, hk, hwon⟩ := hok
          have hb0 := G.buck hN
          obtain ⟨b0, HB0⟩ : ∃ b0, Hid (buckN hN (B : Int) = b0) := ⟨_, rfl⟩
          rw [HB0.out] at hb0
          obtain ⟨t, HT⟩ : ∃ t, Hid (hN / 1125899906842624 = t) := ⟨_, rfl⟩
          rcases hlk : ixLook g (ixSlots (cs b0)) t with ⟨kd, sl, xw⟩
          obtain ⟨f1, f2⟩ := ixFnd_look G.inv hb0 hlk
          obtain ⟨F, HF⟩ : ∃ F, Hid (ixFnd (ixEnts g (ixSlots (cs b0))) t = F) := ⟨_, rfl⟩
          rw [HF.out] at f1 f2
          have HFE1 := hide f1
          have HFE2 := hide f2
          have HBU := fun (w : World) => rbucket_any hN (B : Int) w hh
          rw [HB0.out] at HBU
          have HTA := fun (w : World) => rtag_any hN w hh
          rw [HT.out] at HTA
          have HBU' := hide HBU
          have HTA' := hide HTA
          have HLKP : Hid (∀ (Z : World) (M : Nat → Prop), X Z M x B S g T k0 → _) := fun Z M hZ => C.look hZ G (by omega) hN hh b0 t kd sl xw HB0.out HT.out hlk
          have HBW := hide hbel
          have H1 := hide h1
          have HG := hide G
          have habl : ab < WA.heap.size := World.block_lt_of_cell? _ _ c1
          have HC1 := hide c1
          clear h1 G hbel HBU HTA f1 f2 hlk hah hat hax hNe
          go_wp2
          go_loopw [22, 23, 24] (fun v22 v23 v24 wr2 => ∃ k : Nat, k ≤ B ∧ v24 = .int .i64 (k : Int) ∧ v22 = .int .u64 (((ixOut b0 F k).getD 0 : Nat) : Int) ∧ v23 = .bool (ixOut b0 F k).isSome ∧ Below WA.heap.size WA wr2) (fun _ _ v24 _ => B - (intOf v24).toNat)
          case atStart => exact ⟨0, Nat.zero_le _, rfl, by rw [ixOut, if_pos (Nat.zero_le _)]; rfl, by rw [ixOut, if_pos (Nat.zero_le _)]; rfl, Below.refl _ _⟩
          case round =>
            obtain ⟨k, hkB, rfl, rfl, rfl, hb2⟩ := hrel
            by_cases hkl : k < B
            · have HE := hide (rx_entries (H1.out.q.below hb2) (HG.out.inv.path k hkl) (HG.out.len hkl) (HG.out.in' hkl))
              have HEN : Hid (∀ y ∈ ixEnts g (ixSlots (cs k)), IxEn y) := fun y hy => by
                obtain ⟨h0, s, hs, rfl⟩ := ixEnts_mem.1 hy
                rcases HG.out.words hkl s hs with e | e
                · exact absurd e h0
                · exact e
              have hll := ixEnts_length g (ixSlots (cs k))
              rw [ixSlots_length] at hll
              have hcl := HG.out.len hkl
              have HFK : Hid (k = b0 → F = ixFnd (ixEnts g (ixSlots (cs k))) t) := fun e => by rw [e, HF.out]
              obtain ⟨l, HLL⟩ : ∃ l, Hid (ixEnts g (ixSlots (cs k)) = l) := ⟨_, rfl⟩
              rw [HLL.out] at HE HEN hll HFK
              have HB2 := hide hb2
              have HM0 := hide (ixMid_zero b0 F l t k)
              have HME := hide (ixMid_end (l := l) HFK.out)
              clear hb2
              go_wp2_with fail
              refine HE.out.mono ?_
              rintro e y ⟨p, pcap, rfl, ho, by1⟩
              have HSL := hide ho.slu
              have HB3 := hide (HB2.out.trans (by1.mono HB2.out.size))
              clear ho by1 HB2 HE
              go_wp2
              go_loopw [22, 23, 26] (fun v22 v23 v26 wr3 => ∃ j : Nat, j ≤ l.length ∧ v26 = .int .i64 (j : Int) ∧ v22 = .int .u64 (((ixMid b0 F l t k j).getD 0 : Nat) : Int) ∧ v23 = .bool (ixMid b0 F l t k j).isSome ∧ SluAt wr3 p l ∧ Below WA.heap.size WA wr3) (fun _ _ v26 _ => l.length - (intOf v26).toNat)
              case atStart => exact ⟨0, Nat.zero_le _, rfl, by rw [HM0.out], by rw [HM0.out], HSL.out, HB3.out⟩
              case round =>
                clear HSL HB3
                obtain ⟨j, hjl, rfl, rfl, rfl, hsl, hb3⟩ := hrel
                by_cases hj2 : j < l.length
                · have cx := hsl j hj2
                  obtain ⟨ea, ef, hU⟩ := ref_reads_en (HEN.out _ (getD_mem hj2))
                  have HU := hide hU
                  simp only [enV] at HU
                  have HON := hide (ixMid_on (b0 := b0) (F := F) (t := t) (k := k) hj2)
                  obtain ⟨xv, HXV⟩ : ∃ xv, Hid (l.getD j 0 = xv) := ⟨_, rfl⟩
                  rw [HXV.out] at cx HU HON
                  obtain ⟨tk, HTK⟩ : ∃ tk, Hid (ixTag xv = tk) := ⟨_, rfl⟩
                  rw [HTK.out] at HU HON
                  obtain ⟨mv, HMV⟩ : ∃ mv, Hid (ixMid b0 F l t k j = mv) := ⟨_, rfl⟩
                  rw [HMV.out] at HON ⊢
                  obtain ⟨wv, HWV⟩ : ∃ wv, Hid (mv.getD 0 = wv) := ⟨_, rfl⟩
                  obtain ⟨fv, HFV⟩ : ∃ fv, Hid (mv.isSome = fv) := ⟨_, rfl⟩
                  rw [HWV.out, HFV.out]
                  have HSL := hide hsl
                  have HB3 := hide hb3
                  clear hU hsl hb3
                  go_wp2_with fail
                  refine (HU.out _).mono ?_
                  rintro e y2 ⟨rfl, by2⟩
                  have hb4 := (by2.alloc by2.size (.cells #[.int .u64 (ea : Int), .int .u64 (tk : Int), .bool ef] 40))
                  have HSL4 := hide (HSL.out.below hb4)
                  have HB4 := hide (HB3.out.trans (hb4.mono HB3.out.size))
                  have cx4 := HSL4.out j hj2
                  rw [HXV.out] at cx4
                  have ch4 := (HB4.out.cell (p := ⟨ab, aoff + i * 8 + 1, none⟩) habl).trans HC1.out
                  clear by2 hb4 HSL HB3 cx
                  by_cases hkb : k = b0
                  · have d1 : ((k : Int) == (b0 : Int)) = true := by rw [beq_iff_eq]; omega
                    by_cases htt : tk = t
                    · have d2 : ((tk : Int) == (t : Int)) = true := by rw [beq_iff_eq]; omega
                      have HS : Hid (ixMid b0 F l t k (j + 1) = some xv) := by rw [Hid, HON.out, if_pos ⟨hkb, htt⟩]
                      clear hkb htt
                      go_wp2_with fail
                      go_quiet ((first | (go_at_call 14; exact Calls.quiet_of_same (HBU'.out _)) | (go_at_call 15; exact Calls.quiet_of_same (HTA'.out _))))
                      have HSL5 := hide (HSL4.out.below (below_drewN (Below.refl _ _) nq))
                      have HB5 := hide (HB4.out.trans ((below_drewN (Below.refl _ _) nq).mono HB4.out.size))
                      have cx5 := HSL5.out j hj2
                      rw [HXV.out] at cx5
                      clear HSL4 HB4
                      go_wp2
                      go_roundw
                      case rel => exact ⟨j + 1, by omega, by go_num, by rw [HS.out]; rfl, by rw [HS.out]; rfl, HSL5.out, HB5.out⟩
                      case measure => simp [intOf]; omega
                    · have d2 : ((tk : Int) == (t : Int)) = false := by rw [beq_eq_false_iff_ne]; omega
                      have HS : Hid (ixMid b0 F l t k (j + 1) = mv) := by rw [Hid, HON.out, if_neg (fun e => htt e.2)]
                      clear hkb htt
                      go_wp2_with fail
                      go_quiet ((first | (go_at_call 14; exact Calls.quiet_of_same (HBU'.out _)) | (go_at_call 15; exact Calls.quiet_of_same (HTA'.out _))))
                      have HSL5 := hide (HSL4.out.below (below_drewN (Below.refl _ _) nq))
                      have HB5 := hide (HB4.out.trans ((below_drewN (Below.refl _ _) nq).mono HB4.out.size))
                      clear HSL4 HB4
                      go_wp2
                      go_roundw
                      case rel => exact ⟨j + 1, by omega, by go_num, by rw [HS.out, HWV.out], by rw [HS.out, HFV.out], HSL5.out, HB5.out⟩
                      case measure => simp [intOf]; omega
                  · have d1 : ((k : Int) == (b0 : Int)) = false := by rw [beq_eq_false_iff_ne]; omega
                    have HS : Hid (ixMid b0 F l t k (j + 1) = mv) := by rw [Hid, HON.out, if_neg (fun e => hkb e.1)]
                    clear hkb
                    go_wp2_with fail
                    go_quiet ((first | (go_at_call 14; exact Calls.quiet_of_same (HBU'.out _)) | (go_at_call 15; exact Calls.quiet_of_same (HTA'.out _))))
                    have HSL5 := hide (HSL4.out.below (below_drewN (Below.refl _ _) nq))
                    have HB5 := hide (HB4.out.trans ((below_drewN (Below.refl _ _) nq).mono HB4.out.size))
                    clear HSL4 HB4
                    go_wp2
                    go_roundw
                    case rel => exact ⟨j + 1, by omega, by go_num, by rw [HS.out, HWV.out], by rw [HS.out, HFV.out], HSL5.out, HB5.out⟩
                    case measure => simp [intOf]; omega
                · have e : j = l.length := by omega
                  subst e
                  rw [HME.out]
                  go_wp2
                  go_roundw
                  case rel => exact ⟨k + 1, by omega, by go_num, rfl, rfl, hb3⟩
                  case measure => simp [intOf]; omega
            · have e : k = B := by omega
              subst e
              have HOF : Hid (ixOut b0 F k = F) := by rw [Hid, ixOut, if_neg (by omega)]
              rw [HOF.out, ← HFE1.out, ← HFE2.out]
              have H2 := hide (H1.out.below C hb2)
              have ch := (hb2.cell (p := ⟨ab, aoff + i * 8 + 1, none⟩) habl).trans HC1.out
              have HB2 := hide (HBW.out.trans (hb2.mono HBW.out.size))
              have HLP := hide (HLKP.out _ _ H2.out.p)
              simp only [lookV] at HLP
              obtain ⟨la, HLA⟩ : ∃ la, Hid (ixLast (cs b0) = la) := ⟨_, rfl⟩
              rw [HLA.out] at HLP
              obtain ⟨fb, HFB⟩ : ∃ fb, Hid ((((kd : Nat) : Int) == 1) = fb) := ⟨_, rfl⟩
              have hfb := HFB.out
              rw [HFB.out]
              have e1 : (fb != fb) = false := by simp
              have e2 : ((xw : Int) != (xw : Int)) = false := by simp
              clear hb2
              go_wp2_with fail
              refine HLP.out.mono ?_
              rintro e y ⟨rfl, p1, k1⟩
              obtain ⟨h3, b3⟩ := H2.out.prog p1 k1
              have H4 := hide (h3.below C ((Below.refl y.heap.size y).alloc (Nat.le_refl _) (.cells #[.int .i64 (kd : Int), .int .i64 (sl : Int), .int .u64 (xw : Int), .int .i64 (la : Int)] 46)))
              have HB4 := hide ((HB2.out.trans b3).alloc (HB2.out.trans b3).size (.cells #[.int .i64 (kd : Int), .int .i64 (sl : Int), .int .u64 (xw : Int), .int .i64 (la : Int)] 46))
              clear h3 b3 p1 k1 HLP
              go_wp2
              go_roundw
              case rel => exact ⟨i + 1, by omega, by omega, by go_num, ⟨_, r, g, T, k0, won, cs, H4.out, HG.out, hk, hwon⟩, HB4.out⟩
              case measure => simp [intOf]; omega
        · go_wp2
          go_ret
          exact ⟨rfl, hbel⟩
      · go_wp2
        go_ret
        exact ⟨rfl, hbel⟩
/-- Where there is no such index: both say so. -/
theorem once_no {X : IxPred} (C : IxProg X) (w : World) (B S : Int) (v : Value) (h : powB B = false ∨ S < 0 ∨ 64 < S) :
    Calls Try.prog 3 #[.int .i64 B, .int .i64 S, v] w fun e w' => e = .returned (.bool true) ∧ Below w.heap.size w w' := by
  have HNP := hide (fun Z : World => C.newN B S Z h)
  have HNR := hide (fun Z : World => rx_new_no B S h Z)
  clear h
  go_enter Try.func3, Try.ntmps3
  go_wp2_with fail
  refine (awake17 C _).mono ?_
  rintro e x1 ⟨rfl, b1⟩
  go_wp2_with fail
  refine (HNP.out _).mono ?_
  rintro e x2 ⟨rfl, b2⟩
  have B2 := b1.trans (b2.mono b1.size)
  clear b1 b2
  go_wp2_with fail
  refine (HNR.out _).mono ?_
  rintro e x3 ⟨rfl, rfl⟩
  go_wp2_with fail
  refine (small_any _ _ _).mono ?_
  rintro e x4 ⟨rfl, rfl⟩
  cases decide (B ≤ 16) && decide (S ≤ 8)
  · go_wp2
    go_ret
    exact ⟨rfl, B2⟩
  · go_wp2
    go_ret
    exact ⟨rfl, B2⟩
/-- Where there is one, but a great one. -/
theorem once_big {X : IxPred} (C : IxProg X) (w : World) (B S : Nat) (v : Value) (hpw : powB (B : Int) = true) (hS : S ≤ 64) (hb : 16 < B ∨ 8 < S) :
    Calls Try.prog 3 #[.int .i64 (B : Int), .int .i64 (S : Int), v] w fun e w' => e = .returned (.bool true) ∧ Below w.heap.size w w' := by
  have HNP := hide (fun Z : World => C.newY B S Z hpw hS)
  have HNR := hide (fun Z : World => rx_new_yes B S hpw hS Z)
  have d1 : (decide ((B : Int) ≤ 16) && decide ((S : Int) ≤ 8)) = false := by
    rw [Bool.and_eq_false_iff, decide_eq_false_iff_not, decide_eq_false_iff_not]; omega
  go_enter Try.func3, Try.ntmps3
  go_wp2_with fail
  refine (awake17 C _).mono ?_
  rintro e x1 ⟨rfl, b1⟩
  go_wp2_with fail
  refine (HNP.out _).mono ?_
  rintro e x2 ⟨M, x, rfl, p2, hM2, b2⟩
  have B2 := b1.trans (b2.mono b1.size)
  clear b1 b2
  go_wp2_with fail
  refine (HNR.out _).mono ?_
  rintro e x3 ⟨m, r, rfl, r3, hm3, hr3, b3⟩
  have B3 := B2.trans (b3.mono B2.size)
  go_wp2_with fail
  refine (small_any _ _ _).mono ?_
  rintro e x4 ⟨rfl, rfl⟩
  rw [d1]
  go_wp2
  go_ret
  exact ⟨rfl, B3⟩
theorem once_any {X : IxPred} (C : IxProg X) (w : World) (b s : Int) (v : Value) (o : IsAxs w v) :
    Calls Try.prog 3 #[.int .i64 b, .int .i64 s, v] w fun e w' => e = .returned (.bool true) ∧ Below w.heap.size w w' := by
  obtain ⟨ao, len, cap, z, rfl, _, hz⟩ := o
  cases hp : powB b
  · exact once_no C w b s _ (.inl hp)
  · by_cases h1 : s < 0 ∨ 64 < s
    · exact once_no C w b s _ (.inr h1)
    · have hr := powB_range hp
      obtain ⟨B, rfl⟩ := Int.eq_ofNat_of_zero_le (show 0 ≤ b by omega)
      obtain ⟨S, rfl⟩ := Int.eq_ofNat_of_zero_le (show 0 ≤ s by omega)
      by_cases h2 : B ≤ 16 ∧ S ≤ 8
      · exact once_loops C w B S ao len cap z hz hp h2.1 h2.2
      · exact once_big C w B S _ hp (by omega) (by omega)
end Go.Proofs.Ytmpnbaiolmkhlaa
