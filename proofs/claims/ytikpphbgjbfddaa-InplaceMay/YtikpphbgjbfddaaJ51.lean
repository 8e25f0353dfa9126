/- Parts of the proof: Jy. -/
import Derived.Test.YtikpphbgjbfddaaJ32
namespace Go.Proofs.Ytikpphbgjbfddaa
set_option maxRecDepth 20000
open Go.RowKit
/-- A predicate that tells of a world: somebody of the program at block p, its own blocks M, over the buffer at t, at a place whose page isn't in. -/
abbrev MyPred := World → (Nat → Prop) → Nat → Nat → Prop
/-- What the program's calls do where no page is in, and at nothing. -/
structure InMay (YW YR : MyPred) : Prop where
  keepW : ∀ {w w' : World} {M R : Nat → Prop} {t p : Nat}, YW w M t p → Keeps R w w' → (∀ i, M i → ¬ R i) → YW w' M t p
  keepR : ∀ {w w' : World} {M R : Nat → Prop} {t p : Nat}, YR w M t p → Keeps R w w' → (∀ i, M i → ¬ R i) → YR w' M t p
  ltW : ∀ {w : World} {M : Nat → Prop} {t p : Nat}, YW w M t p → ∀ i, M i → i < w.heap.size
  ltR : ∀ {w : World} {M : Nat → Prop} {t p : Nat}, YR w M t p → ∀ i, M i → i < w.heap.size
  newWY : ∀ {w : World} {S : Nat → Prop} {t k : Nat} (a key : Int) (s : ByteArray), PB w S t 2 5 k (fun _ => none) → 0 ≤ a ∧ a < 18446744073709551616 → s.size ≤ 1000 → mayR a key (s.size : Int) = true →
    Calls Try.prog 19 #[.pointer (some ⟨t, 0, none⟩), .int .u64 a, .int .i64 key, .string s] w fun e w' => ∃ (M : Nat → Prop) (p : Nat), e = .returned (.tuple #[.pointer (some ⟨p, 0, none⟩), .int .i64 0]) ∧ YW w' M t p ∧ (∀ i, M i → w.heap.size ≤ i) ∧ Below w.heap.size w w'
  newWN : ∀ {w : World} {S : Nat → Prop} {t k : Nat} (a key : Int) (s : ByteArray), PB w S t 2 5 k (fun _ => none) → 0 ≤ a ∧ a < 18446744073709551616 → s.size ≤ 1000 → mayR a key (s.size : Int) = false →
    Calls Try.prog 19 #[.pointer (some ⟨t, 0, none⟩), .int .u64 a, .int .i64 key, .string s] w fun e w' => e = .returned (.tuple #[.pointer none, .int .i64 1]) ∧ Below w.heap.size w w'
  newRY : ∀ {w : World} {S : Nat → Prop} {t k : Nat} (a key n : Int), PB w S t 2 5 k (fun _ => none) → 0 ≤ a ∧ a < 18446744073709551616 → mayR a key n = true →
    Calls Try.prog 20 #[.pointer (some ⟨t, 0, none⟩), .int .u64 a, .int .i64 key, .int .i64 n] w fun e w' => ∃ (M : Nat → Prop) (p : Nat), e = .returned (.tuple #[.pointer (some ⟨p, 0, none⟩), .int .i64 0]) ∧ YR w' M t p ∧ (∀ i, M i → w.heap.size ≤ i) ∧ Below w.heap.size w w'
  newRN : ∀ {w : World} {S : Nat → Prop} {t k : Nat} (a key n : Int), PB w S t 2 5 k (fun _ => none) → 0 ≤ a ∧ a < 18446744073709551616 → mayR a key n = false →
    Calls Try.prog 20 #[.pointer (some ⟨t, 0, none⟩), .int .u64 a, .int .i64 key, .int .i64 n] w fun e w' => e = .returned (.tuple #[.pointer none, .int .i64 1]) ∧ Below w.heap.size w w'
  newAY : ∀ {w : World} {S : Nat → Prop} {t k : Nat} (a key : Int), PB w S t 2 5 k (fun _ => none) → 0 ≤ a ∧ a < 18446744073709551616 → mayR a key 8 = true →
    Calls Try.prog 21 #[.pointer (some ⟨t, 0, none⟩), .int .u64 a, .int .i64 key, .int .u64 1] w fun e w' => ∃ p, e = .returned (.tuple #[.pointer (some ⟨p, 0, none⟩), .int .i64 0]) ∧ Below w.heap.size w w'
  newAN : ∀ {w : World} {S : Nat → Prop} {t k : Nat} (a key : Int), PB w S t 2 5 k (fun _ => none) → 0 ≤ a ∧ a < 18446744073709551616 → mayR a key 8 = false →
    Calls Try.prog 21 #[.pointer (some ⟨t, 0, none⟩), .int .u64 a, .int .i64 key, .int .u64 1] w fun e w' => e = .returned (.tuple #[.pointer none, .int .i64 1]) ∧ Below w.heap.size w w'
  moveW : ∀ {w : World} {M S : Nat → Prop} {t p k : Nat}, YW w M t p → PB w S t 2 5 k (fun _ => none) → (∀ i, M i → ¬ S i) →
    Calls Try.prog 23 #[.pointer (some ⟨p, 0, none⟩)] w fun e w' => e = .returned (.tuple #[.int .i64 0, .int .i64 7]) ∧ YW w' (More M w w') t p ∧ Keeps M w w'
  moveR : ∀ {w : World} {M S : Nat → Prop} {t p k : Nat}, YR w M t p → PB w S t 2 5 k (fun _ => none) → (∀ i, M i → ¬ S i) →
    Calls Try.prog 24 #[.pointer (some ⟨p, 0, none⟩)] w fun e w' => e = .returned (.tuple #[.int .i64 0, .int .i64 7]) ∧ YR w' (More M w w') t p ∧ Keeps M w w'
  holds : ∀ {w : World} {M : Nat → Prop} {t p : Nat}, YW w M t p → Calls Try.prog 14 #[.pointer (some ⟨p, 0, none⟩)] w fun e w' => e = .returned (.bool false) ∧ Below w.heap.size w w'
  value : ∀ {w : World} {M : Nat → Prop} {t p : Nat}, YR w M t p → Calls Try.prog 13 #[.pointer (some ⟨p, 0, none⟩)] w fun e w' => e = .returned (.string ⟨#[]⟩) ∧ Below w.heap.size w w'
  moveW0 : ∀ (w : World), Calls Try.prog 23 #[.pointer none] w fun e w' => e = .returned (.tuple #[.int .i64 0, .int .i64 2]) ∧ Below w.heap.size w w'
  moveR0 : ∀ (w : World), Calls Try.prog 24 #[.pointer none] w fun e w' => e = .returned (.tuple #[.int .i64 0, .int .i64 2]) ∧ Below w.heap.size w w'
  newR0 : ∀ (a key n : Int) (w : World), Calls Try.prog 20 #[.pointer none, .int .u64 a, .int .i64 key, .int .i64 n] w fun e w' => e = .returned (.tuple #[.pointer none, .int .i64 2]) ∧ Below w.heap.size w w'
  holds0 : ∀ (w : World), Calls Try.prog 14 #[.pointer none] w fun e w' => e = .returned (.bool false) ∧ Below w.heap.size w w'
  value0 : ∀ (w : World), Calls Try.prog 13 #[.pointer none] w fun e w' => e = .returned (.string ⟨#[]⟩) ∧ Below w.heap.size w w'
set_option maxHeartbeats 8000000 in
theorem imay_any {X : InPred} (C : InProg X) {YW YR : MyPred} (D : InMay YW YR) (a key : Int) (s : ByteArray) (n : Int) (ha : 0 ≤ a ∧ a < 18446744073709551616) (w : World) :
    Calls Try.prog 5 #[.int .u64 a, .int .i64 key, .string s, .int .i64 n] w fun e w' => e = .returned (.bool true) ∧ Below w.heap.size w w' := by
  have HAW := hide (awake18 C w)
  by_cases hs : s.size ≤ 1000
  · have hs' : ¬ (1000 : Int) < (s.size : Int) := by omega
    have HNW := hide (pb_new_yes 5 2 (by decide) (by decide))
    have HMA := hide (fun (v : Int) (w : World) => rmay_any a key v w ha.1)
    have HHA := hide ha
    have HHS := hide hs
    clear ha hs
    cases he : mayR a key (s.size : Int) with
    | true =>
      have HE := hide he
      clear he
      cases hf : mayR a key n with
      | true =>
        have HF := hide hf
        clear hf
        cases hg : mayR a key 8 with
        | true =>
          have HG := hide hg
          clear hg
          go_enter Try.func5, Try.ntmps5
          go_wp2_with fail
          refine HAW.out.mono ?_
          rintro e y0 ⟨rfl, b0⟩
          go_wp2_with fail
          refine (HNW.out y0).mono ?_
          rintro e y1 ⟨t, rfl, hpb, b1⟩
          have B1 := b0.trans (b1.mono b0.size)
          have HPB := hide hpb
          have hS : Hid (∀ i, (y0.heap.size ≤ i ∧ i < y1.heap.size) → i < y1.heap.size) := fun i h => h.2
          have HW1 := hide (D.newWY a key s hpb HHA.out HHS.out HE.out)
          clear hpb b0 b1
          go_wp2_with fail
          refine HW1.out.mono ?_
          rintro e y2 ⟨M1, p1, rfl, hy1, hM1, b2⟩
          have HY1 := hide hy1
          have HM1 := hide hM1
          clear hy1 hM1
          have BY2 := b2
          have B2 := B1.trans (b2.mono B1.size)
          have hpb2 := HPB.out.below BY2
          have HR1 := hide (D.newRY a key n hpb2 HHA.out HF.out)
          clear hpb2 b2 HW1
          go_wp2_with fail
          refine HR1.out.mono ?_
          rintro e y3 ⟨M2, p2, rfl, hy2, hM2, b3⟩
          have HY2 := hide hy2
          have HM2 := hide hM2
          clear hy2 hM2
          have b23 := b3
          have BY3 := BY2.trans (b3.mono BY2.size)
          have B3 := B2.trans (b3.mono B2.size)
          have hpb3 := HPB.out.below BY3
          have HA1 := hide (D.newAY a key hpb3 HHA.out HG.out)
          clear hpb3 b3 HR1
          go_wp2_with fail
          refine HA1.out.mono ?_
          rintro e y4 ⟨p3, rfl, b4⟩
          have b34 := b4
          have BY4 := BY3.trans (b4.mono BY3.size)
          have B4 := B3.trans (b4.mono B3.size)
          clear HA1
          go_wp2_with fail
          refine (HMA.out (s.size : Int) _).mono ?_
          rintro e y5 ⟨rfl, rfl⟩
          rw [HE.out]
          go_wp2_with fail
          refine (HMA.out n _).mono ?_
          rintro e y5 ⟨rfl, rfl⟩
          rw [HF.out]
          go_wp2_with fail
          refine (HMA.out 8 _).mono ?_
          rintro e y5 ⟨rfl, rfl⟩
          rw [HG.out]
          have hpb4 := HPB.out.below BY4
          have HPB4 := hide hpb4
          clear hpb4
          have HB4 := hide B4
          have hy14 := D.keepW (R := fun _ => False) HY1.out (Below.keeps (b23.trans (b34.mono b23.size))) (fun _ _ => id)
          have hd1 : ∀ i, M1 i → ¬ (y0.heap.size ≤ i ∧ i < y1.heap.size) := fun i hi h => by have := HM1.out i hi; omega
          have hl1 : ∀ i, M1 i → i < y2.heap.size := fun i hi => D.ltW HY1.out i hi
          have HMV := hide (D.moveW hy14 HPB4.out hd1)
          have HL1 := hide hl1
          have HD1 := hide hd1
          clear hy14 hd1 hl1
          go_wp2_with fail
          refine HMV.out.mono ?_
          rintro e y5 ⟨rfl, hy15, k5⟩
          have B5 := HB4.out.trans (k5.below HB4.out.size (fun i hi => Nat.le_trans (Nat.le_trans B1.size (Nat.le_refl _)) (HM1.out i hi)))
          have hpb5 := HPB4.out.keep k5 (fun i hi hm => HD1.out i hm hi)
          have HPB5 := hide hpb5
          have HH1 := hide (D.holds hy15)
          clear hy15 hpb5 HMV
          go_wp2_with fail
          refine HH1.out.mono ?_
          rintro e y6 ⟨rfl, b6⟩
          have B6 := B5.trans (b6.mono B5.size)
          have HPB6 := hide (HPB5.out.below b6)
          have HK6 := hide (k5.trans (Below.keeps (S := M1) b6) (fun _ _ t => t))
          clear b6 k5 HH1 HPB5
          have hy26 := D.keepR (R := M1) (D.keepR (R := fun _ => False) HY2.out (Below.keeps b34) (fun _ _ => id)) HK6.out (fun i hi hm => by have := HL1.out i hm; have := HM2.out i hi; omega)
          have hd2 : ∀ i, M2 i → ¬ (y0.heap.size ≤ i ∧ i < y1.heap.size) := fun i hi h => by have := HM2.out i hi; have := BY2.size; omega
          have HMR := hide (D.moveR hy26 HPB6.out hd2)
          clear hy26 hd2
          go_wp2_with fail
          refine HMR.out.mono ?_
          rintro e y7 ⟨rfl, hy27, k7⟩
          have B7 := B6.trans (k7.below B6.size (fun i hi => Nat.le_trans B2.size (HM2.out i hi)))
          have HV1 := hide (D.value hy27)
          clear hy27 k7 HMR
          go_wp2_with fail
          refine HV1.out.mono ?_
          rintro e y8 ⟨rfl, b8⟩
          have B8 := B7.trans (b8.mono B7.size)
          clear b8 HV1
          have W1 := hide D.moveW0
          have W2 := hide D.moveR0
          have W3 := hide (D.newR0 a key n)
          have W4 := hide D.holds0
          have W5 := hide D.value0
          have HBB := hide B8
          go_wp2_with fail
          refine (W1.out _).mono ?_
          rintro e z1 ⟨rfl, c1⟩
          go_wp2_with fail
          refine (W2.out _).mono ?_
          rintro e z2 ⟨rfl, c2⟩
          go_wp2_with fail
          refine (W3.out _).mono ?_
          rintro e z3 ⟨rfl, c3⟩
          go_wp2_with fail
          refine (W4.out _).mono ?_
          rintro e z4 ⟨rfl, c4⟩
          go_wp2_with fail
          refine (W5.out _).mono ?_
          rintro e z5 ⟨rfl, c5⟩
          have D1 := HBB.out.trans (c1.mono HBB.out.size)
          have D2 := D1.trans (c2.mono D1.size)
          have D3 := D2.trans (c3.mono D2.size)
          have D4 := D3.trans (c4.mono D3.size)
          have D5 := D4.trans (c5.mono D4.size)
          go_wp2
          go_ret
          exact ⟨rfl, D5⟩
        | false =>
          have HG := hide hg
          clear hg
          go_enter Try.func5, Try.ntmps5
          go_wp2_with fail
          refine HAW.out.mono ?_
          rintro e y0 ⟨rfl, b0⟩
          go_wp2_with fail
          refine (HNW.out y0).mono ?_
          rintro e y1 ⟨t, rfl, hpb, b1⟩
          have B1 := b0.trans (b1.mono b0.size)
          have HPB := hide hpb
          have hS : Hid (∀ i, (y0.heap.size ≤ i ∧ i < y1.heap.size) → i < y1.heap.size) := fun i h => h.2
          have HW1 := hide (D.newWY a key s hpb HHA.out HHS.out HE.out)
          clear hpb b0 b1
          go_wp2_with fail
          refine HW1.out.mono ?_
          rintro e y2 ⟨M1, p1, rfl, hy1, hM1, b2⟩
          have HY1 := hide hy1
          have HM1 := hide hM1
          clear hy1 hM1
          have BY2 := b2
          have B2 := B1.trans (b2.mono B1.size)
          have hpb2 := HPB.out.below BY2
          have HR1 := hide (D.newRY a key n hpb2 HHA.out HF.out)
          clear hpb2 b2 HW1
          go_wp2_with fail
          refine HR1.out.mono ?_
          rintro e y3 ⟨M2, p2, rfl, hy2, hM2, b3⟩
          have HY2 := hide hy2
          have HM2 := hide hM2
          clear hy2 hM2
          have b23 := b3
          have BY3 := BY2.trans (b3.mono BY2.size)
          have B3 := B2.trans (b3.mono B2.size)
          have hpb3 := HPB.out.below BY3
          have HA1 := hide (D.newAN a key hpb3 HHA.out HG.out)
          clear hpb3 b3 HR1
          go_wp2_with fail
          refine HA1.out.mono ?_
          rintro e y4 ⟨rfl, b4⟩
          have b34 := b4
          have BY4 := BY3.trans (b4.mono BY3.size)
          have B4 := B3.trans (b4.mono B3.size)
          clear HA1
          go_wp2_with fail
          refine (HMA.out (s.size : Int) _).mono ?_
          rintro e y5 ⟨rfl, rfl⟩
          rw [HE.out]
          go_wp2_with fail
          refine (HMA.out n _).mono ?_
          rintro e y5 ⟨rfl, rfl⟩
          rw [HF.out]
          go_wp2_with fail
          refine (HMA.out 8 _).mono ?_
          rintro e y5 ⟨rfl, rfl⟩
          rw [HG.out]
          have hpb4 := HPB.out.below BY4
          have HPB4 := hide hpb4
          clear hpb4
          have HB4 := hide B4
          have hy14 := D.keepW (R := fun _ => False) HY1.out (Below.keeps (b23.trans (b34.mono b23.size))) (fun _ _ => id)
          have hd1 : ∀ i, M1 i → ¬ (y0.heap.size ≤ i ∧ i < y1.heap.size) := fun i hi h => by have := HM1.out i hi; omega
          have hl1 : ∀ i, M1 i → i < y2.heap.size := fun i hi => D.ltW HY1.out i hi
          have HMV := hide (D.moveW hy14 HPB4.out hd1)
          have HL1 := hide hl1
          have HD1 := hide hd1
          clear hy14 hd1 hl1
          go_wp2_with fail
          refine HMV.out.mono ?_
          rintro e y5 ⟨rfl, hy15, k5⟩
          have B5 := HB4.out.trans (k5.below HB4.out.size (fun i hi => Nat.le_trans (Nat.le_trans B1.size (Nat.le_refl _)) (HM1.out i hi)))
          have hpb5 := HPB4.out.keep k5 (fun i hi hm => HD1.out i hm hi)
          have HPB5 := hide hpb5
          have HH1 := hide (D.holds hy15)
          clear hy15 hpb5 HMV
          go_wp2_with fail
          refine HH1.out.mono ?_
          rintro e y6 ⟨rfl, b6⟩
          have B6 := B5.trans (b6.mono B5.size)
          have HPB6 := hide (HPB5.out.below b6)
          have HK6 := hide (k5.trans (Below.keeps (S := M1) b6) (fun _ _ t => t))
          clear b6 k5 HH1 HPB5
          have hy26 := D.keepR (R := M1) (D.keepR (R := fun _ => False) HY2.out (Below.keeps b34) (fun _ _ => id)) HK6.out (fun i hi hm => by have := HL1.out i hm; have := HM2.out i hi; omega)
          have hd2 : ∀ i, M2 i → ¬ (y0.heap.size ≤ i ∧ i < y1.heap.size) := fun i hi h => by have := HM2.out i hi; have := BY2.size; omega
          have HMR := hide (D.moveR hy26 HPB6.out hd2)
          clear hy26 hd2
          go_wp2_with fail
          refine HMR.out.mono ?_
          rintro e y7 ⟨rfl, hy27, k7⟩
          have B7 := B6.trans (k7.below B6.size (fun i hi => Nat.le_trans B2.size (HM2.out i hi)))
          have HV1 := hide (D.value hy27)
          clear hy27 k7 HMR
          go_wp2_with fail
          refine HV1.out.mono ?_
          rintro e y8 ⟨rfl, b8⟩
          have B8 := B7.trans (b8.mono B7.size)
          clear b8 HV1
          have W1 := hide D.moveW0
          have W2 := hide D.moveR0
          have W3 := hide (D.newR0 a key n)
          have W4 := hide D.holds0
          have W5 := hide D.value0
          have HBB := hide B8
          go_wp2_with fail
          refine (W1.out _).mono ?_
          rintro e z1 ⟨rfl, c1⟩
          go_wp2_with fail
          refine (W2.out _).mono ?_
          rintro e z2 ⟨rfl, c2⟩
          go_wp2_with fail
          refine (W3.out _).mono ?_
          rintro e z3 ⟨rfl, c3⟩
          go_wp2_with fail
          refine (W4.out _).mono ?_
          rintro e z4 ⟨rfl, c4⟩
          go_wp2_with fail
          refine (W5.out _).mono ?_
          rintro e z5 ⟨rfl, c5⟩
          have D1 := HBB.out.trans (c1.mono HBB.out.size)
          have D2 := D1.trans (c2.mono D1.size)
          have D3 := D2.trans (c3.mono D2.size)
          have D4 := D3.trans (c4.mono D3.size)
          have D5 := D4.trans (c5.mono D4.size)
          go_wp2
          go_ret
          exact ⟨rfl, D5⟩
      | false =>
        have HF := hide hf
        clear hf
        cases hg : mayR a key 8 with
        | true =>
          have HG := hide hg
          clear hg
          go_enter Try.func5, Try.ntmps5
          go_wp2_with fail
          refine HAW.out.mono ?_
          rintro e y0 ⟨rfl, b0⟩
          go_wp2_with fail
          refine (HNW.out y0).mono ?_
          rintro e y1 ⟨t, rfl, hpb, b1⟩
          have B1 := b0.trans (b1.mono b0.size)
          have HPB := hide hpb
          have hS : Hid (∀ i, (y0.heap.size ≤ i ∧ i < y1.heap.size) → i < y1.heap.size) := fun i h => h.2
          have HW1 := hide (D.newWY a key s hpb HHA.out HHS.out HE.out)
          clear hpb b0 b1
          go_wp2_with fail
          refine HW1.out.mono ?_
          rintro e y2 ⟨M1, p1, rfl, hy1, hM1, b2⟩
          have HY1 := hide hy1
          have HM1 := hide hM1
          clear hy1 hM1
          have BY2 := b2
          have B2 := B1.trans (b2.mono B1.size)
          have hpb2 := HPB.out.below BY2
          have HR1 := hide (D.newRN a key n hpb2 HHA.out HF.out)
          clear hpb2 b2 HW1
          go_wp2_with fail
          refine HR1.out.mono ?_
          rintro e y3 ⟨rfl, b3⟩
          have b23 := b3
          have BY3 := BY2.trans (b3.mono BY2.size)
          have B3 := B2.trans (b3.mono B2.size)
          have hpb3 := HPB.out.below BY3
          have HA1 := hide (D.newAY a key hpb3 HHA.out HG.out)
          clear hpb3 b3 HR1
          go_wp2_with fail
          refine HA1.out.mono ?_
          rintro e y4 ⟨p3, rfl, b4⟩
          have b34 := b4
          have BY4 := BY3.trans (b4.mono BY3.size)
          have B4 := B3.trans (b4.mono B3.size)
          clear HA1
          go_wp2_with fail
          refine (HMA.out (s.size : Int) _).mono ?_
          rintro e y5 ⟨rfl, rfl⟩
          rw [HE.out]
          go_wp2_with fail
          refine (HMA.out n _).mono ?_
          rintro e y5 ⟨rfl, rfl⟩
          rw [HF.out]
          go_wp2_with fail
          refine (HMA.out 8 _).mono ?_
          rintro e y5 ⟨rfl, rfl⟩
          rw [HG.out]
          have hpb4 := HPB.out.below BY4
          have HPB4 := hide hpb4
          clear hpb4
          have HB4 := hide B4
          have hy14 := D.keepW (R := fun _ => False) HY1.out (Below.keeps (b23.trans (b34.mono b23.size))) (fun _ _ => id)
          have hd1 : ∀ i, M1 i → ¬ (y0.heap.size ≤ i ∧ i < y1.heap.size) := fun i hi h => by have := HM1.out i hi; omega
          have hl1 : ∀ i, M1 i → i < y2.heap.size := fun i hi => D.ltW HY1.out i hi
          have HMV := hide (D.moveW hy14 HPB4.out hd1)
          have HL1 := hide hl1
          have HD1 := hide hd1
          clear hy14 hd1 hl1
          go_wp2_with fail
          refine HMV.out.mono ?_
          rintro e y5 ⟨rfl, hy15, k5⟩
          have B5 := HB4.out.trans (k5.below HB4.out.size (fun i hi => Nat.le_trans (Nat.le_trans B1.size (Nat.le_refl _)) (HM1.out i hi)))
          have hpb5 := HPB4.out.keep k5 (fun i hi hm => HD1.out i hm hi)
          have HPB5 := hide hpb5
          have HH1 := hide (D.holds hy15)
          clear hy15 hpb5 HMV
          go_wp2_with fail
          refine HH1.out.mono ?_
          rintro e y6 ⟨rfl, b6⟩
          have B6 := B5.trans (b6.mono B5.size)
          have HPB6 := hide (HPB5.out.below b6)
          have HK6 := hide (k5.trans (Below.keeps (S := M1) b6) (fun _ _ t => t))
          clear b6 k5 HH1 HPB5
          have W1 := hide D.moveW0
          have W2 := hide D.moveR0
          have W3 := hide (D.newR0 a key n)
          have W4 := hide D.holds0
          have W5 := hide D.value0
          have HBB := hide B6
          go_wp2_with fail
          refine (W1.out _).mono ?_
          rintro e z1 ⟨rfl, c1⟩
          go_wp2_with fail
          refine (W2.out _).mono ?_
          rintro e z2 ⟨rfl, c2⟩
          go_wp2_with fail
          refine (W3.out _).mono ?_
          rintro e z3 ⟨rfl, c3⟩
          go_wp2_with fail
          refine (W4.out _).mono ?_
          rintro e z4 ⟨rfl, c4⟩
          go_wp2_with fail
          refine (W5.out _).mono ?_
          rintro e z5 ⟨rfl, c5⟩
          have D1 := HBB.out.trans (c1.mono HBB.out.size)
          have D2 := D1.trans (c2.mono D1.size)
          have D3 := D2.trans (c3.mono D2.size)
          have D4 := D3.trans (c4.mono D3.size)
          have D5 := D4.trans (c5.mono D4.size)
          go_wp2
          go_ret
          exact ⟨rfl, D5⟩
        | false =>
          have HG := hide hg
          clear hg
          go_enter Try.func5, Try.ntmps5
          go_wp2_with fail
          refine HAW.out.mono ?_
          rintro e y0 ⟨rfl, b0⟩
          go_wp2_with fail
          refine (HNW.out y0).mono ?_
          rintro e y1 ⟨t, rfl, hpb, b1⟩
          have B1 := b0.trans (b1.mono b0.size)
          have HPB := hide hpb
          have hS : Hid (∀ i, (y0.heap.size ≤ i ∧ i < y1.heap.size) → i < y1.heap.size) := fun i h => h.2
          have HW1 := hide (D.newWY a key s hpb HHA.out HHS.out HE.out)
          clear hpb b0 b1
          go_wp2_with fail
          refine HW1.out.mono ?_
          rintro e y2 ⟨M1, p1, rfl, hy1, hM1, b2⟩
          have HY1 := hide hy1
          have HM1 := hide hM1
          clear hy1 hM1
          have BY2 := b2
          have B2 := B1.trans (b2.mono B1.size)
          have hpb2 := HPB.out.below BY2
          have HR1 := hide (D.newRN a key n hpb2 HHA.out HF.out)
          clear hpb2 b2 HW1
          go_wp2_with fail
          refine HR1.out.mono ?_
          rintro e y3 ⟨rfl, b3⟩
          have b23 := b3
          have BY3 := BY2.trans (b3.mono BY2.size)
          have B3 := B2.trans (b3.mono B2.size)
          have hpb3 := HPB.out.below BY3
          have HA1 := hide (D.newAN a key hpb3 HHA.out HG.out)
          clear hpb3 b3 HR1
          go_wp2_with fail
          refine HA1.out.mono ?_
          rintro e y4 ⟨rfl, b4⟩
          have b34 := b4
          have BY4 := BY3.trans (b4.mono BY3.size)
          have B4 := B3.trans (b4.mono B3.size)
          clear HA1
          go_wp2_with fail
          refine (HMA.out (s.size : Int) _).mono ?_
          rintro e y5 ⟨rfl, rfl⟩
          rw [HE.out]
          go_wp2_with fail
          refine (HMA.out n _).mono ?_
          rintro e y5 ⟨rfl, rfl⟩
          rw [HF.out]
          go_wp2_with fail
          refine (HMA.out 8 _).mono ?_
          rintro e y5 ⟨rfl, rfl⟩
          rw [HG.out]
          have hpb4 := HPB.out.below BY4
          have HPB4 := hide hpb4
          clear hpb4
          have HB4 := hide B4
          have hy14 := D.keepW (R := fun _ => False) HY1.out (Below.keeps (b23.trans (b34.mono b23.size))) (fun _ _ => id)
          have hd1 : ∀ i, M1 i → ¬ (y0.heap.size ≤ i ∧ i < y1.heap.size) := fun i hi h => by have := HM1.out i hi; omega
          have hl1 : ∀ i, M1 i → i < y2.heap.size := fun i hi => D.ltW HY1.out i hi
          have HMV := hide (D.moveW hy14 HPB4.out hd1)
          have HL1 := hide hl1
          have HD1 := hide hd1
          clear hy14 hd1 hl1
          go_wp2_with fail
          refine HMV.out.mono ?_
          rintro e y5 ⟨rfl, hy15, k5⟩
          have B5 := HB4.out.trans (k5.below HB4.out.size (fun i hi => Nat.le_trans (Nat.le_trans B1.size (Nat.le_refl _)) (HM1.out i hi)))
          have hpb5 := HPB4.out.keep k5 (fun i hi hm => HD1.out i hm hi)
          have HPB5 := hide hpb5
          have HH1 := hide (D.holds hy15)
          clear hy15 hpb5 HMV
          go_wp2_with fail
          refine HH1.out.mono ?_
          rintro e y6 ⟨rfl, b6⟩
          have B6 := B5.trans (b6.mono B5.size)
          have HPB6 := hide (HPB5.out.below b6)
          have HK6 := hide (k5.trans (Below.keeps (S := M1) b6) (fun _ _ t => t))
          clear b6 k5 HH1 HPB5
          have W1 := hide D.moveW0
          have W2 := hide D.moveR0
          have W3 := hide (D.newR0 a key n)
          have W4 := hide D.holds0
          have W5 := hide D.value0
          have HBB := hide B6
          go_wp2_with fail
          refine (W1.out _).mono ?_
          rintro e z1 ⟨rfl, c1⟩
          go_wp2_with fail
          refine (W2.out _).mono ?_
          rintro e z2 ⟨rfl, c2⟩
          go_wp2_with fail
          refine (W3.out _).mono ?_
          rintro e z3 ⟨rfl, c3⟩
          go_wp2_with fail
          refine (W4.out _).mono ?_
          rintro e z4 ⟨rfl, c4⟩
          go_wp2_with fail
          refine (W5.out _).mono ?_
          rintro e z5 ⟨rfl, c5⟩
          have D1 := HBB.out.trans (c1.mono HBB.out.size)
          have D2 := D1.trans (c2.mono D1.size)
          have D3 := D2.trans (c3.mono D2.size)
          have D4 := D3.trans (c4.mono D3.size)
          have D5 := D4.trans (c5.mono D4.size)
          go_wp2
          go_ret
          exact ⟨rfl, D5⟩
    | false =>
      have HE := hide he
      clear he
      cases hf : mayR a key n with
      | true =>
        have HF := hide hf
        clear hf
        cases hg : mayR a key 8 with
        | true =>
          have HG := hide hg
          clear hg
          go_enter Try.func5, Try.ntmps5
          go_wp2_with fail
          refine HAW.out.mono ?_
          rintro e y0 ⟨rfl, b0⟩
          go_wp2_with fail
          refine (HNW.out y0).mono ?_
          rintro e y1 ⟨t, rfl, hpb, b1⟩
          have B1 := b0.trans (b1.mono b0.size)
          have HPB := hide hpb
          have hS : Hid (∀ i, (y0.heap.size ≤ i ∧ i < y1.heap.size) → i < y1.heap.size) := fun i h => h.2
          have HW1 := hide (D.newWN a key s hpb HHA.out HHS.out HE.out)
          clear hpb b0 b1
          go_wp2_with fail
          refine HW1.out.mono ?_
          rintro e y2 ⟨rfl, b2⟩
          have BY2 := b2
          have B2 := B1.trans (b2.mono B1.size)
          have hpb2 := HPB.out.below BY2
          have HR1 := hide (D.newRY a key n hpb2 HHA.out HF.out)
          clear hpb2 b2 HW1
          go_wp2_with fail
          refine HR1.out.mono ?_
          rintro e y3 ⟨M2, p2, rfl, hy2, hM2, b3⟩
          have HY2 := hide hy2
          have HM2 := hide hM2
          clear hy2 hM2
          have b23 := b3
          have BY3 := BY2.trans (b3.mono BY2.size)
          have B3 := B2.trans (b3.mono B2.size)
          have hpb3 := HPB.out.below BY3
          have HA1 := hide (D.newAY a key hpb3 HHA.out HG.out)
          clear hpb3 b3 HR1
          go_wp2_with fail
          refine HA1.out.mono ?_
          rintro e y4 ⟨p3, rfl, b4⟩
          have b34 := b4
          have BY4 := BY3.trans (b4.mono BY3.size)
          have B4 := B3.trans (b4.mono B3.size)
          clear HA1
          go_wp2_with fail
          refine (HMA.out (s.size : Int) _).mono ?_
          rintro e y5 ⟨rfl, rfl⟩
          rw [HE.out]
          go_wp2_with fail
          refine (HMA.out n _).mono ?_
          rintro e y5 ⟨rfl, rfl⟩
          rw [HF.out]
          go_wp2_with fail
          refine (HMA.out 8 _).mono ?_
          rintro e y5 ⟨rfl, rfl⟩
          rw [HG.out]
          have hpb4 := HPB.out.below BY4
          have HPB4 := hide hpb4
          clear hpb4
          have HB4 := hide B4
          have hy26 := D.keepR (R := fun _ => False) HY2.out (Below.keeps b34) (fun _ _ => id)
          have hd2 : ∀ i, M2 i → ¬ (y0.heap.size ≤ i ∧ i < y1.heap.size) := fun i hi h => by have := HM2.out i hi; have := BY2.size; omega
          have HMR := hide (D.moveR hy26 HPB4.out hd2)
          clear hy26 hd2
          go_wp2_with fail
          refine HMR.out.mono ?_
          rintro e y7 ⟨rfl, hy27, k7⟩
          have B7 := B4.trans (k7.below B4.size (fun i hi => Nat.le_trans B2.size (HM2.out i hi)))
          have HV1 := hide (D.value hy27)
          clear hy27 k7 HMR
          go_wp2_with fail
          refine HV1.out.mono ?_
          rintro e y8 ⟨rfl, b8⟩
          have B8 := B7.trans (b8.mono B7.size)
          clear b8 HV1
          have W1 := hide D.moveW0
          have W2 := hide D.moveR0
          have W3 := hide (D.newR0 a key n)
          have W4 := hide D.holds0
          have W5 := hide D.value0
          have HBB := hide B8
          go_wp2_with fail
          refine (W1.out _).mono ?_
          rintro e z1 ⟨rfl, c1⟩
          go_wp2_with fail
          refine (W2.out _).mono ?_
          rintro e z2 ⟨rfl, c2⟩
          go_wp2_with fail
          refine (W3.out _).mono ?_
          rintro e z3 ⟨rfl, c3⟩
          go_wp2_with fail
          refine (W4.out _).mono ?_
          rintro e z4 ⟨rfl, c4⟩
          go_wp2_with fail
          refine (W5.out _).mono ?_
          rintro e z5 ⟨rfl, c5⟩
          have D1 := HBB.out.trans (c1.mono HBB.out.size)
          have D2 := D1.trans (c2.mono D1.size)
          have D3 := D2.trans (c3.mono D2.size)
          have D4 := D3.trans (c4.mono D3.size)
          have D5 := D4.trans (c5.mono D4.size)
          go_wp2
          go_ret
          exact ⟨rfl, D5⟩
        | false =>
          have HG := hide hg
          clear hg
          go_enter Try.func5, Try.ntmps5
          go_wp2_with fail
          refine HAW.out.mono ?_
          rintro e y0 ⟨rfl, b0⟩
          go_wp2_with fail
          refine (HNW.out y0).mono ?_
          rintro e y1 ⟨t, rfl, hpb, b1⟩
          have B1 := b0.trans (b1.mono b0.size)
          have HPB := hide hpb
          have hS : Hid (∀ i, (y0.heap.size ≤ i ∧ i < y1.heap.size) → i < y1.heap.size) := fun i h => h.2
          have HW1 := hide (D.newWN a key s hpb HHA.out HHS.out HE.out)
          clear hpb b0 b1
          go_wp2_with fail
          refine HW1.out.mono ?_
          rintro e y2 ⟨rfl, b2⟩
          have BY2 := b2
          have B2 := B1.trans (b2.mono B1.size)
          have hpb2 := HPB.out.below BY2
          have HR1 := hide (D.newRY a key n hpb2 HHA.out HF.out)
          clear hpb2 b2 HW1
          go_wp2_with fail
          refine HR1.out.mono ?_
          rintro e y3 ⟨M2, p2, rfl, hy2, hM2, b3⟩
          have HY2 := hide hy2
          have HM2 := hide hM2
          clear hy2 hM2
          have b23 := b3
          have BY3 := BY2.trans (b3.mono BY2.size)
          have B3 := B2.trans (b3.mono B2.size)
          have hpb3 := HPB.out.below BY3
          have HA1 := hide (D.newAN a key hpb3 HHA.out HG.out)
          clear hpb3 b3 HR1
          go_wp2_with fail
          refine HA1.out.mono ?_
          rintro e y4 ⟨rfl, b4⟩
          have b34 := b4
          have BY4 := BY3.trans (b4.mono BY3.size)
          have B4 := B3.trans (b4.mono B3.size)
          clear HA1
          go_wp2_with fail
          refine (HMA.out (s.size : Int) _).mono ?_
          rintro e y5 ⟨rfl, rfl⟩
          rw [HE.out]
          go_wp2_with fail
          refine (HMA.out n _).mono ?_
          rintro e y5 ⟨rfl, rfl⟩
          rw [HF.out]
          go_wp2_with fail
          refine (HMA.out 8 _).mono ?_
          rintro e y5 ⟨rfl, rfl⟩
          rw [HG.out]
          have hpb4 := HPB.out.below BY4
          have HPB4 := hide hpb4
          clear hpb4
          have HB4 := hide B4
          have hy26 := D.keepR (R := fun _ => False) HY2.out (Below.keeps b34) (fun _ _ => id)
          have hd2 : ∀ i, M2 i → ¬ (y0.heap.size ≤ i ∧ i < y1.heap.size) := fun i hi h => by have := HM2.out i hi; have := BY2.size; omega
          have HMR := hide (D.moveR hy26 HPB4.out hd2)
          clear hy26 hd2
          go_wp2_with fail
          refine HMR.out.mono ?_
          rintro e y7 ⟨rfl, hy27, k7⟩
          have B7 := B4.trans (k7.below B4.size (fun i hi => Nat.le_trans B2.size (HM2.out i hi)))
          have HV1 := hide (D.value hy27)
          clear hy27 k7 HMR
          go_wp2_with fail
          refine HV1.out.mono ?_
          rintro e y8 ⟨rfl, b8⟩
          have B8 := B7.trans (b8.mono B7.size)
          clear b8 HV1
          have W1 := hide D.moveW0
          have W2 := hide D.moveR0
          have W3 := hide (D.newR0 a key n)
          have W4 := hide D.holds0
          have W5 := hide D.value0
          have HBB := hide B8
          go_wp2_with fail
          refine (W1.out _).mono ?_
          rintro e z1 ⟨rfl, c1⟩
          go_wp2_with fail
          refine (W2.out _).mono ?_
          rintro e z2 ⟨rfl, c2⟩
          go_wp2_with fail
          refine (W3.out _).mono ?_
          rintro e z3 ⟨rfl, c3⟩
          go_wp2_with fail
          refine (W4.out _).mono ?_
          rintro e z4 ⟨rfl, c4⟩
          go_wp2_with fail
          refine (W5.out _).mono ?_
          rintro e z5 ⟨rfl, c5⟩
          have D1 := HBB.out.trans (c1.mono HBB.out.size)
          have D2 := D1.trans (c2.mono D1.size)
          have D3 := D2.trans (c3.mono D2.size)
          have D4 := D3.trans (c4.mono D3.size)
          have D5 := D4.trans (c5.mono D4.size)
          go_wp2
          go_ret
          exact ⟨rfl, D5⟩
      | false =>
        have HF := hide hf
        clear hf
        cases hg : mayR a key 8 with
        | true =>
          have HG := hide hg
          clear hg
          go_enter Try.func5, Try.ntmps5
          go_wp2_with fail
          refine HAW.out.mono ?_
          rintro e y0 ⟨rfl, b0⟩
          go_wp2_with fail
          refine (HNW.out y0).mono ?_
          rintro e y1 ⟨t, rfl, hpb, b1⟩
          have B1 := b0.trans (b1.mono b0.size)
          have HPB := hide hpb
          have hS : Hid (∀ i, (y0.heap.size ≤ i ∧ i < y1.heap.size) → i < y1.heap.size) := fun i h => h.2
          have HW1 := hide (D.newWN a key s hpb HHA.out HHS.out HE.out)
          clear hpb b0 b1
          go_wp2_with fail
          refine HW1.out.mono ?_
          rintro e y2 ⟨rfl, b2⟩
          have BY2 := b2
          have B2 := B1.trans (b2.mono B1.size)
          have hpb2 := HPB.out.below BY2
          have HR1 := hide (D.newRN a key n hpb2 HHA.out HF.out)
          clear hpb2 b2 HW1
          go_wp2_with fail
          refine HR1.out.mono ?_
          rintro e y3 ⟨rfl, b3⟩
          have b23 := b3
          have BY3 := BY2.trans (b3.mono BY2.size)
          have B3 := B2.trans (b3.mono B2.size)
          have hpb3 := HPB.out.below BY3
          have HA1 := hide (D.newAY a key hpb3 HHA.out HG.out)
          clear hpb3 b3 HR1
          go_wp2_with fail
          refine HA1.out.mono ?_
          rintro e y4 ⟨p3, rfl, b4⟩
          have b34 := b4
          have BY4 := BY3.trans (b4.mono BY3.size)
          have B4 := B3.trans (b4.mono B3.size)
          clear HA1
          go_wp2_with fail
          refine (HMA.out (s.size : Int) _).mono ?_
          rintro e y5 ⟨rfl, rfl⟩
          rw [HE.out]
          go_wp2_with fail
          refine (HMA.out n _).mono ?_
          rintro e y5 ⟨rfl, rfl⟩
          rw [HF.out]
          go_wp2_with fail
          refine (HMA.out 8 _).mono ?_
          rintro e y5 ⟨rfl, rfl⟩
          rw [HG.out]
          have hpb4 := HPB.out.below BY4
          have HPB4 := hide hpb4
          clear hpb4
          have HB4 := hide B4
          have W1 := hide D.moveW0
          have W2 := hide D.moveR0
          have W3 := hide (D.newR0 a key n)
          have W4 := hide D.holds0
          have W5 := hide D.value0
          have HBB := hide B4
          go_wp2_with fail
          refine (W1.out _).mono ?_
          rintro e z1 ⟨rfl, c1⟩
          go_wp2_with fail
          refine (W2.out _).mono ?_
          rintro e z2 ⟨rfl, c2⟩
          go_wp2_with fail
          refine (W3.out _).mono ?_
          rintro e z3 ⟨rfl, c3⟩
          go_wp2_with fail
          refine (W4.out _).mono ?_
          rintro e z4 ⟨rfl, c4⟩
          go_wp2_with fail
          refine (W5.out _).mono ?_
          rintro e z5 ⟨rfl, c5⟩
          have D1 := HBB.out.trans (c1.mono HBB.out.size)
          have D2 := D1.trans (c2.mono D1.size)
          have D3 := D2.trans (c3.mono D2.size)
          have D4 := D3.trans (c4.mono D3.size)
          have D5 := D4.trans (c5.mono D4.size)
          go_wp2
          go_ret
          exact ⟨rfl, D5⟩
        | false =>
          have HG := hide hg
          clear hg
          go_enter Try.func5, Try.ntmps5
          go_wp2_with fail
          refine HAW.out.mono ?_
          rintro e y0 ⟨rfl, b0⟩
          go_wp2_with fail
          refine (HNW.out y0).mono ?_
          rintro e y1 ⟨t, rfl, hpb, b1⟩
          have B1 := b0.trans (b1.mono b0.size)
          have HPB := hide hpb
          have hS : Hid (∀ i, (y0.heap.size ≤ i ∧ i < y1.heap.size) → i < y1.heap.size) := fun i h => h.2
          have HW1 := hide (D.newWN a key s hpb HHA.out HHS.out HE.out)
          clear hpb b0 b1
          go_wp2_with fail
          refine HW1.out.mono ?_
          rintro e y2 ⟨rfl, b2⟩
          have BY2 := b2
          have B2 := B1.trans (b2.mono B1.size)
          have hpb2 := HPB.out.below BY2
          have HR1 := hide (D.newRN a key n hpb2 HHA.out HF.out)
          clear hpb2 b2 HW1
          go_wp2_with fail
          refine HR1.out.mono ?_
          rintro e y3 ⟨rfl, b3⟩
          have b23 := b3
          have BY3 := BY2.trans (b3.mono BY2.size)
          have B3 := B2.trans (b3.mono B2.size)
          have hpb3 := HPB.out.below BY3
          have HA1 := hide (D.newAN a key hpb3 HHA.out HG.out)
          clear hpb3 b3 HR1
          go_wp2_with fail
          refine HA1.out.mono ?_
          rintro e y4 ⟨rfl, b4⟩
          have b34 := b4
          have BY4 := BY3.trans (b4.mono BY3.size)
          have B4 := B3.trans (b4.mono B3.size)
          clear HA1
          go_wp2_with fail
          refine (HMA.out (s.size : Int) _).mono ?_
          rintro e y5 ⟨rfl, rfl⟩
          rw [HE.out]
          go_wp2_with fail
          refine (HMA.out n _).mono ?_
          rintro e y5 ⟨rfl, rfl⟩
          rw [HF.out]
          go_wp2_with fail
          refine (HMA.out 8 _).mono ?_
          rintro e y5 ⟨rfl, rfl⟩
          rw [HG.out]
          have hpb4 := HPB.out.below BY4
          have HPB4 := hide hpb4
          clear hpb4
          have HB4 := hide B4
          have W1 := hide D.moveW0
          have W2 := hide D.moveR0
          have W3 := hide (D.newR0 a key n)
          have W4 := hide D.holds0
          have W5 := hide D.value0
          have HBB := hide B4
          go_wp2_with fail
          refine (W1.out _).mono ?_
          rintro e z1 ⟨rfl, c1⟩
          go_wp2_with fail
          refine (W2.out _).mono ?_
          rintro e z2 ⟨rfl, c2⟩
          go_wp2_with fail
          refine (W3.out _).mono ?_
          rintro e z3 ⟨rfl, c3⟩
          go_wp2_with fail
          refine (W4.out _).mono ?_
          rintro e z4 ⟨rfl, c4⟩
          go_wp2_with fail
          refine (W5.out _).mono ?_
          rintro e z5 ⟨rfl, c5⟩
          have D1 := HBB.out.trans (c1.mono HBB.out.size)
          have D2 := D1.trans (c2.mono D1.size)
          have D3 := D2.trans (c3.mono D2.size)
          have D4 := D3.trans (c4.mono D3.size)
          have D5 := D4.trans (c5.mono D4.size)
          go_wp2
          go_ret
          exact ⟨rfl, D5⟩
  · have hs' : (1000 : Int) < (s.size : Int) := by omega
    clear ha
    go_enter Try.func5, Try.ntmps5
    go_wp2_with fail
    refine HAW.out.mono ?_
    rintro e y0 ⟨rfl, b0⟩
    go_wp2
    go_ret
    exact ⟨rfl, b0⟩
end Go.Proofs.Ytikpphbgjbfddaa
