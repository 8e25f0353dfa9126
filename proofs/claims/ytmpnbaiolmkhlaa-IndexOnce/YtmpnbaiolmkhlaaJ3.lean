/- The program's index: a chain is laid. -/
import Derived.Test.YtmpnbaiolmkhlaaJ2
namespace Go.Proofs.Ytmpnbaiolmkhlaa
set_option maxRecDepth 20000
open Go.RowKit
theorem ixOff_app {K : Nat → List Nat} {b : Nat} {l : List Nat} (hk : K b = []) : ∀ c, ixOff (ixApp K b l) c = ixOff K c + (if b < c then ixExt l.length else 0) := fun c => by
  induction c with
  | zero => rfl
  | succ c ih =>
    show ixOff (ixApp K b l) c + ixExt (ixApp K b l c).length = ixOff K c + ixExt (K c).length + _
    rw [ih]
    by_cases e : c = b
    · subst e
      rw [ixApp_same, hk, List.nil_append, if_neg (by omega), if_pos (by omega)]
      simp [ixExt]
    · rw [ixApp_ne e]
      by_cases h : b < c
      · rw [if_pos h, if_pos (by omega)]; omega
      · rw [if_neg h, if_neg (by omega)]; rfl
/-- What holds between the rounds: j buckets are full, the words from 7 j on are still to come. -/
structure LyIs (w wr : World) (x rr rb tr tb B S : Nat) (won lost : Nat) (lk : Int) (K : Nat → List Nat) (b : Nat) (l : List Nat) (j A T : Nat) (ao : Option Addr) (L cap : Nat) : Prop where
  ix : ∃ g, PxIs wr x rr rb tr tb B S g T won lost lk ∧ IxRdy B (B + S) K b l j A T g
  tk : T = ixOff K B + j
  sl : Sl .u64 wr ao L (fun t => (l.getD (7 * j + t) 0 : Int))
  ln : L + 7 * j = l.length ∧ L ≤ cap
  ap : ∀ q off, ao = some ⟨q, off, none⟩ → ¬ PxOwn x rr rb tr tb q
  kp : Keeps (PxOwn x rr rb tr tb) w wr
set_option maxHeartbeats 4000000 in
theorem px_lay {w : World} {x rr rb tr tb B S : Nat} {g : Nat → Nat} {T won lost : Nat} {lk : Int} (h : PxIs w x rr rb tr tb B S g T won lost lk) {K : Nat → List Nat} {b : Nat} {l : List Nat} {ao : Option Addr} {cap : Nat} (hs : Sl .u64 w ao l.length (fun t => (l.getD t 0 : Int))) (hcap : l.length ≤ cap) (hl0 : 0 < l.length)
    (hap : ∀ q off, ao = some ⟨q, off, none⟩ → ¬ PxOwn x rr rb tr tb q) (hlay : IxLay B (B + S) K g) (hT : T = ixOff K B) (hb : b < B) (hk : K b = []) (hr : ∀ i, b < i → i < B → K i = []) (hbnd : ∀ j, 7 * j < l.length → ixOff K B + j ≤ S) :
    Calls Try.prog 34 #[.pointer (some ⟨x, 0, none⟩), .int .i64 (b : Int), .slice ao l.length cap] w fun e w' => e = .returned (.tuple #[]) ∧ ∃ g', PxIs w' x rr rb tr tb B S g' (ixOff (ixApp K b l) B) won lost lk ∧ IxLay B (B + S) (ixApp K b l) g' ∧ Keeps (PxOwn x rr rb tr tb) w w' := by
  have hbs := h.bs
  have hA := ixRdy_start hlay hb (show B ≤ B + S by omega) hk (l := l)
  have hS : LyIs w w x rr rb tr tb B S won lost lk K b l 0 b T ao l.length cap := ⟨⟨g, h, by rw [hT]; exact hA⟩, by omega, by simpa using hs, by omega, hap, Keeps.refl _ _⟩
  have HBD := hide hbnd
  have HR := hide hr
  have HK := hide hk
  clear h hs hap hlay hA hbnd hr hk hT
  generalize hLL : l.length = L0 at *
  go_enter Try.func34, Try.ntmps34
  go_wp2
  go_loopw [1, 2] (fun vb vl wr => ∃ (j A T : Nat) (ao : Option Addr) (L cap : Nat), vb = .int .i64 (A : Int) ∧ vl = .slice ao L cap ∧ 0 < L ∧ LyIs w wr x rr rb tr tb B S won lost lk K b l j A T ao L cap) (fun _ vl _ => match vl with | .slice _ n _ => n | _ => 0)
  case atStart => exact ⟨0, b, T, ao, L0, cap, rfl, rfl, hl0, hS⟩
  case round =>
    clear hS
    obtain ⟨j, A, T, ao, L, cap, rfl, rfl, hL0, hS⟩ := hrel
    obtain ⟨g1, hp, hrd⟩ := hS.ix
    have hAn := hrd.lt
    obtain ⟨hln, hlc⟩ := hS.ln
    obtain ⟨q, off, hao, hc0⟩ := hS.sl 0 hL0
    have hsl := hS.sl
    have hapq := hS.ap q off hao
    subst hao
    have hnr : ¬ InRow rr rb q := fun e => hapq (e.elim (fun e => .inr (.inl e)) (fun e => .inr (.inr (.inl e))))
    have hql : q < wr.heap.size := World.block_lt_of_cell? _ _ hc0
    have c2 := hp.c2
    have hkp := hS.kp
    have htk := hS.tk
    by_cases h7 : 7 < L
    · have hbn := HBD.out (j + 1) (by omega)
      have hTS : T < S := by omega
      have HRD2 := hide (hrd.step hb HR.out HK.out (by omega) (by omega))
      have hwl : ((l.drop (7 * j)).take 7).length = 7 := by rw [List.length_take, List.length_drop]; omega
      have hwz : ∀ t, t < 7 → (fun t => (l.getD (7 * j + t) 0 : Int)) t = (((l.drop (7 * j)).take 7).getD t 0 : Int) := fun t ht => by
        simp only [List.getD_eq_getElem?_getD]
        rw [List.getElem?_take, if_pos ht, List.getElem?_drop]
      have hfv := ixFill_fillV g1 (8 * A) ((l.drop (7 * j)).take 7) (fun t => (l.getD (7 * j + t) 0 : Int)) (by rw [hwl]; exact hwz)
      rw [hwl] at hfv
      obtain ⟨g2, HG2⟩ : ∃ g2, Hid (ixFill g1 (8 * A) ((l.drop (7 * j)).take 7) = g2) := ⟨_, rfl⟩
      rw [HG2.out] at HRD2 hfv
      have HFI := hide (rfill (cap := cap) (hp.drew 1).row (by omega) (8 * A) 7 (by omega) (some ⟨q, off, none⟩) (fun t => (l.getD (7 * j + t) 0 : Int)) ((hsl.drew 1).mono (by omega)) (fun _ g2 off e => by cases e; exact hnr))
      rw [hfv] at HFI
      have HP := hide (hp.drew 1)
      have HKP := hide (hkp.drewN 1)
      have HSLN : Hid (∀ w', Keeps (PxOwn x rr rb tr tb) wr w' → Sl .u64 w' (some ⟨q, off + 7, none⟩) (L - 7) (fun t => (l.getD (7 * (j + 1) + t) 0 : Int))) := fun w' hk t ht => by
        obtain ⟨q', off', e, hc⟩ := hsl (7 + t) (by omega)
        cases e
        refine ⟨q, off + 7, rfl, ?_⟩
        rw [show off + 7 + t = off + (7 + t) by omega, hk.cell (p := ⟨q, off + (7 + t), none⟩) hql hapq, hc]
        simp only
        rw [show 7 * j + (7 + t) = 7 * (j + 1) + t by omega]
      have HW0 : Hid (Keeps (PxOwn x rr rb tr tb) wr (wr.drewN 1)) := (Keeps.refl _ _).drewN 1
      rw [show ((8 * A : Nat) : Int) = 8 * (A : Int) by omega] at HFI
      have hL7 : ¬ L = 7 := by omega
      have hc7 : ¬ cap = 7 := by omega
      have hc70 : ¬ cap = 0 := by omega
      have i1 : (7 : Int) ≤ (cap : Int) := by omega
      have i2 : (7 : Int) ≤ (L : Int) := by omega
      have i3 : (L : Int) ≤ (cap : Int) := by omega
      have i4 : (7 : Int) < (L : Int) := by omega
      have hAb : A ≤ 2000 := by omega
      have hwA : IntKind.i64.wrap (8 * (A : Int)) = 8 * (A : Int) := IntWalk.i64_in _ (by omega)
      have HLN := hide hln
      clear hS hrd hp hsl hkp hfv hwz hwl hc0 hln hLL
      go_wp2_with fail
      go_region_held3 (fun W => W.cell? ⟨x, 2, none⟩ = some (.pointer (some ⟨rr, 0, none⟩))) (first | assumption | go_keep) (first | (go_at_call 68; refine HFI.out.mono ?_; rintro e z ⟨rfl, r1, r2⟩; have HR1 := HP.out.setRow r1 r2; have q4 := HR1.1.c2))
      have P2 := hide HR1.1
      have K2 := hide (HKP.out.trans HR1.2 (fun _ _ t => t))
      have W2 := hide (HW0.out.trans HR1.2 (fun _ _ t => t))
      clear HR1 q4 r1 r2 HFI HP HKP HW0 c2
      go_wp2_with fail
      refine (px_spare_yes P2.out hTS).mono ?_
      rintro e z2 ⟨rfl, p3, k3⟩
      have P3 := hide (p3.drew 1)
      have K3 := hide ((K2.out.trans k3 (fun _ _ t => t)).drewN 1)
      have W3 := hide ((W2.out.trans k3 (fun _ _ t => t)).drewN 1)
      have c2 := p3.c2
      clear p3 k3 P2 K2 W2
      obtain ⟨s, HSE⟩ : ∃ s, Hid (B + T = s) := ⟨_, rfl⟩
      rw [HSE.out] at HRD2 ⊢
      have hsb : s ≤ 2000 := by have := HSE.out; omega
      have HLO := hide (px_linkOf A hAb)
      have HTO := hide (px_linkTo s hsb)
      have HST := hide (kstore P3.out.row (8 * A + 7) (by omega) ((s + 1 : Nat) : Int))
      rw [ixI_upd] at HST
      go_wp2_with fail
      go_region_held3 (fun W => W.cell? ⟨x, 2, none⟩ = some (.pointer (some ⟨rr, 0, none⟩))) (first | assumption | go_keep) (first | (go_at_call 60; refine (HLO.out _).mono ?_; rintro e z4 ⟨rfl, rfl⟩) | (go_at_call 61; refine (HTO.out _).mono ?_; rintro e z5 ⟨rfl, rfl⟩) | (go_at_call 67; refine HST.out.mono ?_; rintro e z6 ⟨rfl, r1, r2⟩; have HR1 := P3.out.setRow r1 r2; have q4 := HR1.1.c2))
      have P4 := hide HR1.1
      have K4 := hide (K3.out.trans HR1.2 (fun _ _ t => t))
      have W4 := hide (W3.out.trans HR1.2 (fun _ _ t => t))
      clear HR1 q4 r1 r2 HST P3 K3 W3 HLO HTO c2
      go_wp2_with fail
      go_quiet ((fail))
      go_wp2
      go_roundw
      case rel =>
        have hl := HLN.out
        have hs := HSE.out
        refine ⟨j + 1, s, T + 1, _, L - 7, cap - 7, rfl, rfl, by omega, ⟨⟨_, P4.out.drew nq, HRD2.out⟩, by omega, HSLN.out _ (W4.out.drewN nq), by omega, fun q' off' e => by cases e; exact hapq, K4.out.drewN nq⟩⟩
      case measure => simp; omega
    · have hfin := hrd.last (by omega) (by omega)
      have hwz : ∀ t, t < (l.drop (7 * j)).length → (fun t => (l.getD (7 * j + t) 0 : Int)) t = ((l.drop (7 * j)).getD t 0 : Int) := fun t ht => by
        simp only [List.getD_eq_getElem?_getD]
        rw [List.getElem?_drop]
      have hfv := ixFill_fillV g1 (8 * A) (l.drop (7 * j)) (fun t => (l.getD (7 * j + t) 0 : Int)) hwz
      have hdl : (l.drop (7 * j)).length = L := by rw [List.length_drop]; omega
      rw [hdl] at hfv
      have HFI := hide (rfill (cap := cap) hp.row (by omega) (8 * A) L (by omega) (some ⟨q, off, none⟩) (fun t => (l.getD (7 * j + t) 0 : Int)) hsl (fun _ g2 off e => by cases e; exact hnr))
      rw [hfv] at HFI
      rw [show ((8 * A : Nat) : Int) = 8 * (A : Int) by omega] at HFI
      have HP := hide hp
      have HKP := hide hkp
      have HFN := hide hfin
      have i4 : ¬ (7 : Int) < (L : Int) := by omega
      clear hS hrd hp hsl hkp hfv hwz hdl hc0 hln hLL hfin
      go_wp2_with fail
      refine HFI.out.mono ?_
      rintro e z ⟨rfl, r1, r2⟩
      obtain ⟨a, b'⟩ := HP.out.setRow r1 r2
      rw [← HFN.out.2] at a
      have A' := hide a
      have K' := hide (HKP.out.trans b' (fun _ _ t => t))
      clear a b' r1 r2
      go_wp2
      go_end0
      exact ⟨rfl, _, A'.out, HFN.out.1, K'.out⟩
end Go.Proofs.Ytmpnbaiolmkhlaa
