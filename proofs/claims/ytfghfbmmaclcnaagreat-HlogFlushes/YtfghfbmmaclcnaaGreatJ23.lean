/- Parts of the proof: Vo Vp Vq Vr. -/
import Derived.Test.YtfghfbmmaclcnaaGreatJ22
namespace Go.Proofs.YtfghfbmmaclcnaaGreat
set_option maxRecDepth 20000
open Go.RowKit Go.Maps Go.Shelf
/-- The predicate of raiseFlushed's closure. -/
def pdN (to : Nat) (_ : Lit) (d : DataW Unit) : Bool := match d with
  | .lit (.int _ p) => decide (p < (to : Int))
  | _ => false
def cutF (g : Int → Option Int) (to : Nat) (t : Int) : Option Int := match g t with
  | some p => if p < (to : Int) then none else some p
  | none => none
theorem tells_cut {w : World} {b n : Nat} {D : DataW Unit} {g : Int → Option Int} (h : w.ownsMap Tryz.prog MI.k MI.R b n D) (hT : Tells MI D g) (to : Nat) : Tells MI (Lib.deleteFuncD (pdN to) D) (cutF g to) := by
  obtain ⟨es, rfl, hn, hk⟩ := owns_keys h
  have hpw : es.Pairwise (fun p q => p.1 ≠ q.1) := by rw [List.Nodup, List.pairwise_map] at hn; exact hn
  show Tells MI (.map (es.filter fun p => !pdN to p.1 p.2)) (cutF g to)
  intro x hx
  have hkey := MI.keyed.key (MI.key x hx)
  have hdat : ∀ p ∈ es, p.1 = MI.kl x → ∀ v, g x = some v → p.2 = MI.en v := fun p hp e v hv => by
    have h1 := ((hT x hx).2 v hv).2 .nil
    have h2 : (MI.kl x, p.2) ∈ es := by rw [← e]; exact hp
    rw [WideAt.atKey_mem .nil hkey hpw h2] at h1
    exact h1
  have hin : ∀ v, g x = some v → ∃ p ∈ es, p.1 = MI.kl x := fun v hv => by
    obtain ⟨p, hp, e⟩ := List.mem_map.1 ((has_key hkey).1 ((hT x hx).2 v hv).1)
    exact ⟨p, hp, e⟩
  unfold cutF
  cases hg : g x with
  | none =>
    refine ⟨fun _ => ?_, fun v e => by cases e⟩
    cases hh : has (DataW.map (es.filter fun p => !pdN to p.1 p.2)) (MI.kl x) with
    | false => rfl
    | true =>
      obtain ⟨p, hp, e⟩ := List.mem_map.1 ((has_key hkey).1 hh)
      have h1 := (hT x hx).1 hg
      rw [(has_key hkey).2 (List.mem_map.2 ⟨p, (List.mem_filter.1 hp).1, e⟩)] at h1
      cases h1
  | some v =>
    by_cases hlt : v < (to : Int)
    · simp only [hlt, if_true]
      refine ⟨fun _ => ?_, fun u e => by cases e⟩
      cases hh : has (DataW.map (es.filter fun p => !pdN to p.1 p.2)) (MI.kl x) with
      | false => rfl
      | true =>
        obtain ⟨p, hp, e⟩ := List.mem_map.1 ((has_key hkey).1 hh)
        obtain ⟨h1, h2⟩ := List.mem_filter.1 hp
        rw [hdat p h1 e v hg] at h2
        have h3 : pdN to p.1 (MI.en v) = decide (v < (to : Int)) := rfl
        rw [h3] at h2
        simp [hlt] at h2
    · simp only [hlt, if_false]
      refine ⟨(fun e => by cases e), fun u e => ?_⟩
      cases e
      obtain ⟨p, hp, e⟩ := hin v hg
      have h3 : pdN to p.1 (MI.en v) = decide (v < (to : Int)) := rfl
      have hp2 : p.2 = MI.en v := hdat p hp e v hg
      have hm : p ∈ es.filter fun p => !pdN to p.1 p.2 := List.mem_filter.2 ⟨hp, by rw [hp2, h3]; simp [hlt]⟩
      refine ⟨(has_key hkey).2 (List.mem_map.2 ⟨p, hm, e⟩), fun z => ?_⟩
      have hm2 : (MI.kl x, MI.en v) ∈ es.filter fun p => !pdN to p.1 p.2 := by rw [← e, ← hp2]; exact hm
      exact WideAt.atKey_mem z hkey (hpw.filter _) hm2
theorem hl_closure (B to : Nat) (p x : Int) (W : World) (hB : W.cell? ⟨B, 0, none⟩ = some (.int .i64 (to : Int))) :
    Calls Tryz.prog 177 (#[.int .i64 x, .int .i64 p] ++ #[.pointer (some ⟨B, 0, none⟩)]) W fun e W' => e = .returned (.bool (decide (p < (to : Int)))) ∧ W' = W := by
  go_enter Tryz.func177, Tryz.ntmps177
  go_wp2
  go_ret
  exact ⟨rfl, rfl⟩
/-- maps.DeleteFunc with raiseFlushed's closure. -/
theorem hl_delete {w : World} {b : Nat} {g : Int → Option Int} (h : MapAs MI w b g) (B to : Nat) (hB : w.cell? ⟨B, 0, none⟩ = some (.int .i64 (to : Int))) (hne : B ≠ b) :
    Calls Tryz.prog 176 #[.map (some b), .func (.func 177) #[] #[.pointer (some ⟨B, 0, none⟩)]] w fun e w' => e = .returned (.tuple #[]) ∧ MapAs MI w' b (cutF g to) ∧ Keeps (fun x => x = b) w w' := by
  obtain ⟨n, D, hown, hT⟩ := h
  have hBl := World.block_lt_of_cell? w _ hB
  have := AnyDf.maps_DeleteFunc Tryz.hdel MI.keyed MI.R (pdN to) 177 #[.pointer (some ⟨B, 0, none⟩)] b n D w (enters_of Tryz.func177 (by kernel_rfl) rfl) hown (fun W key val kl yd yp hg hk hv => by
    obtain ⟨x, hx, rfl⟩ := MI.keyInv _ _ hk
    obtain ⟨c, rfl, e⟩ := MI.R_inv hv
    cases e
    have hBW : W.cell? ⟨B, 0, none⟩ = some (.int .i64 (to : Int)) := hg.cell hB (fun e => hne (by simpa using e))
    refine (hl_closure B to c x W hBW).mono ?_
    rintro e W' ⟨rfl, rfl⟩
    exact ⟨rfl, World.grownBy.refl _ _⟩)
  refine this.mono ?_
  rintro e w' ⟨rfl, ho, hg⟩
  exact ⟨rfl, ⟨n, _, ho, tells_cut hown hT to⟩, (Keeps.refl (fun x => x = b) w).grown hg (fun k hk _ => by cases hk; rfl)⟩
theorem upTo_at (L : List Fy) (j : Nat) (hj : isL L (j : Int) true = false) : ∀ (f a : Nat), a ≤ j → j ≤ a + f → (∀ i, a ≤ i → i < j → isL L (i : Int) true = true) → upTo L a f = j
  | 0, a, h1, h2, _ => by unfold upTo; omega
  | f + 1, a, h1, h2, h3 => by
    unfold upTo
    by_cases e : a = j
    · subst e
      rw [hj, if_neg (by decide)]
    · rw [h3 a (Nat.le_refl _) (by omega), if_pos rfl]
      exact upTo_at L j hj f (a + 1) (by omega) (by omega) (fun i g1 g2 => h3 i (by omega) g2)
theorem lanF_cut {L : List Fy} (h : L.Pairwise (fun x y => x.t < y.t)) (m j : Nat) (hj : m ≤ j) : cutF (lanF L m) j = lanF L j := by
  funext t
  refine opt_ext (fun p => ?_)
  rw [lanF_some h]
  unfold cutF
  constructor
  · intro e
    cases e2 : lanF L m t with
    | none => rw [e2] at e; cases e
    | some q =>
      rw [e2] at e
      simp only at e
      split at e
      · cases e
      · cases e
        obtain ⟨y, hy, h1, h2, h3, h4⟩ := (lanF_some h).1 e2
        exact ⟨y, hy, h1, h2, by omega, h4⟩
  · rintro ⟨y, hy, h1, h2, h3, h4⟩
    rw [(lanF_some h (a := m)).2 ⟨y, hy, h1, h2, by omega, h4⟩]
    simp only
    rw [if_neg (by omega)]
/-- The number in a box. -/
def boxN (w : World) (B : Nat) : Nat := match w.cell? ⟨B, 0, none⟩ with
  | some v => (intOf v).toNat
  | none => 0
theorem boxN_eq {w : World} {B j : Nat} (h : w.cell? ⟨B, 0, none⟩ = some (.int .i64 (j : Int))) : boxN w B = j := by
  unfold boxN
  rw [h]
  simp [intOf]
section
variable {w : World} {o : Nat → Nat} {a : Ad} {c : Cf} {s : Hs} {k : Nat}
set_option maxHeartbeats 2000000 in
theorem hl_raiseFlushed (h : Hp w o a c s k) (htk : s.L.Pairwise (fun x y => x.t < y.t)) (hok : ∀ y ∈ s.L, okI y.t) (hpl : ∀ y ∈ s.L, 0 ≤ y.p ∧ y.p < (s.m 1 : Int)) (hord : s.m 2 ≤ s.m 1) (hm1 : s.m 1 ≤ 64) :
    Calls Tryz.prog 94 #[.pointer (some ⟨a.l, 0, none⟩)] w fun e w' => e = .returned (.tuple #[]) ∧ Hq w o a c { s with m := upM s.m 2 (upTo s.L (s.m 2) 64) } k w' := by
  have c2 := h.c2
  obtain ⟨m2, hm2⟩ : ∃ m2, s.m 2 = m2 := ⟨_, rfl⟩
  have hat := mk_at h.mm 2 2 rfl (by omega) m2 hm2
  have hl := h.lt
  have HHAS := hide (fun x (b : Below w.heap.size w x) (j : Nat) (hj : s.m 2 ≤ j) => hl_has (h.below b).la (j : Int) (isL s.L (j : Int) true) (lan_has htk hok (s.m 2) (j : Int) (by omega)))
  have HLT : Hid (∀ j : Nat, isL s.L (j : Int) true = true → j < s.m 1) := fun j e => by
    obtain ⟨y, hy, h1, -⟩ := isL_iff.1 e
    have := hpl y hy
    omega
  have HUP := hide (fun j h1 h2 h3 h4 => upTo_at s.L j h1 64 (s.m 2) h2 h3 h4)
  have HCUT := hide (fun j hj => lanF_cut htk (s.m 2) j hj)
  have H := hide h
  have HM := hide (fun x (b : Below w.heap.size w x) (j : Nat) (hj : j ≤ 64) => mraise (h.below b).mm 2 (j : Int) (s.P : Int) (by omega))
  have HRV : Hid (∀ j : Nat, s.m 2 ≤ j → j ≤ s.m 1 → raiseV s.m 2 (j : Int) (s.P : Int) = upM s.m 2 j) := fun j h1 h2 => by
    by_cases e : j = s.m 2
    · subst e
      have e1 : raiseE s.m 2 ((s.m 2 : Nat) : Int) (s.P : Int) = 8 := by
        unfold raiseE
        rw [if_neg (by decide), show s.m (Int.toNat 2) = s.m 2 from rfl, if_pos (Int.le_refl _)]
      unfold raiseV
      rw [e1, if_neg (by decide)]
      funext i
      unfold upM
      split
      · rename_i e; rw [e]
      · rfl
    · have e1 : raiseE s.m 2 (j : Int) (s.P : Int) = 0 := by
        unfold raiseE
        rw [if_neg (by decide), show s.m (Int.toNat 2) = s.m 2 from rfl, if_neg (by omega), show mostK s.m (Int.toNat 2) (s.P : Int) = (s.m 1 : Int) from rfl, if_neg (by omega)]
      unfold raiseV
      rw [e1, if_pos rfl]
      rfl
  rw [hm2] at HHAS HUP HRV hord HCUT
  obtain ⟨S', hS'⟩ : ∃ S', S' = ({ s with m := upM s.m 2 (upTo s.L m2 64) } : Hs) := ⟨_, rfl⟩
  rw [hm2, ← hS']
  have HS := hide (fun j (e : upTo s.L m2 64 = j) => (by rw [hS', e] : S' = ({ s with m := upM s.m 2 j } : Hs)))
  clear hS' h hpl htk hok
  have HMU : Hid (s.m 2 = m2) := hm2
  clear hm2
  go_enter Tryz.func94, Tryz.ntmps94
  go_wp2_with fail
  refine hat.mono ?_
  rintro e x ⟨rfl, rfl⟩
  clear hat
  go_wp2
  have hbz := (Below.refl x.heap.size x).alloc (Nat.le_refl _) (.cells #[.int .i64 (m2 : Int)] 3)
  have z0 : (x.alloc (.cells #[.int .i64 (m2 : Int)] 3)).cell? ⟨x.heap.size, 0, none⟩ = some (.int .i64 (m2 : Int)) := by simp
  have z1 : (x.alloc (.cells #[.int .i64 (m2 : Int)] 3)).frozen? ⟨x.heap.size, 0, none⟩ = false := by simp
  generalize x.alloc (.cells #[.int .i64 (m2 : Int)] 3) = z at *
  obtain ⟨BB, hBB⟩ : ∃ BB, x.heap.size = BB := ⟨_, rfl⟩
  have HBB := hide hBB
  rw [hBB] at z0 z1 ⊢
  have hlB : a.l < BB := by omega
  clear hBB
  go_loopw [8] (fun _ wr => ∃ j : Nat, m2 ≤ j ∧ j ≤ s.m 1 ∧ wr.cell? ⟨BB, 0, none⟩ = some (.int .i64 j) ∧ wr.frozen? ⟨BB, 0, none⟩ = false ∧ Hid (∀ i, m2 ≤ i → i < j → isL s.L (i : Int) true = true) ∧ Hid (Below x.heap.size x wr)) (fun _ wr => s.m 1 - boxN wr BB)
  case atStart => exact ⟨m2, Nat.le_refl _, hord, z0, z1, fun i h1 h2 => by omega, hbz⟩
  case round =>
    obtain ⟨j, hj1, hj2, q0, q1, hall, hbel⟩ := hrel
    clear z0 z1 hbz
    have hy := H.out.below hbel.out
    have c7 := hy.c7
    have hbel1 := below_drewN hbel.out 1
    have HBL1 := hide hbel1
    have hrl : BB < wr.heap.size := World.block_lt_of_cell? wr _ q0
    cases hs : isL s.L (j : Int) true with
    | true =>
      have hlt := HLT.out j hs
      have HALL : Hid (∀ i, m2 ≤ i → i < j + 1 → isL s.L (i : Int) true = true) := fun i h1 h2 => by
        by_cases e : i = j
        · subst e; exact hs
        · exact hall.out i h1 (by omega)
      have hhas := HHAS.out _ hbel1 j hj1
      rw [hs] at hhas
      clear hs hall HUP HCUT HM HRV HS hy hbel1
      go_wp2
      go_region_held3 (fun W => W.cell? ⟨a.l, 7, none⟩ = some (.map (some a.lb)) ∧ W.cell? ⟨BB, 0, none⟩ = some (.int .i64 j)) (first | assumption | go_keep) (first | (go_at_call 98; refine hhas.mono ?_; rintro e y ⟨rfl, b2⟩; have r7 := (b2.cell (p := ⟨a.l, 7, none⟩) (World.block_lt_of_cell? wr _ c7)).trans c7; have r0 := (b2.cell (p := ⟨BB, 0, none⟩) hrl).trans q0; have r1 := (b2.frozen (p := ⟨BB, 0, none⟩) hrl).trans q1; have HBy := hide (HBL1.out.trans (b2.mono HBL1.out.size))))
      all_goals
        have hbs : Below x.heap.size x (y.setCell ⟨BB, 0, none⟩ (.int .i64 ((j : Int) + 1))) := HBy.out.setCell (by have := HBB.out; simp only; omega) _
        have HBS := hide hbs
        have hboxr : boxN wr BB = j := boxN_eq q0
        have hsc : (y.setCell ⟨BB, 0, none⟩ (.int .i64 ((j : Int) + 1))).cell? ⟨BB, 0, none⟩ = some (.int .i64 ((j + 1 : Nat) : Int)) := World.cell?_setCell_same _ _ _ r0
        have hsf : (y.setCell ⟨BB, 0, none⟩ (.int .i64 ((j : Int) + 1))).frozen? ⟨BB, 0, none⟩ = false := by rw [World.frozen?_setCell]; exact r1
        have hboxs : boxN (y.setCell ⟨BB, 0, none⟩ (.int .i64 ((j : Int) + 1))) BB = j + 1 := boxN_eq hsc
        have HSC := hide (And.intro hsc hsf)
        have HBX := hide (And.intro hboxr hboxs)
        clear hbs hboxr hboxs hhas b2 hsc hsf
        go_wp2
        go_roundw
        case rel => exact ⟨j + 1, by omega, by omega, HSC.out.1, HSC.out.2, HALL.out, HBS.out⟩
        case measure => rw [HBX.out.1, HBX.out.2]; omega
    | false =>
      have hhas := HHAS.out _ hbel1 j hj1
      rw [hs] at hhas
      have hup := HUP.out j hs hj1 (by omega) hall.out
      have hSS := HS.out j hup
      have hrv := HRV.out j hj1 hj2
      have HFin : Hid (∀ y', Hq x o a c ({ s with m := upM s.m 2 j } : Hs) k y' → Hq x o a c S' k y') := fun y' q => by rw [hSS]; exact q
      have HC3 := HCUT.out j hj1
      have HMj := hide (fun x' b => (by have := HM.out x' b j (by omega); rw [hrv] at this; exact this : Calls Tryz.prog 97 #[.pointer (some ⟨a.mt, 0, none⟩), .int .i64 2, .int .i64 (j : Int), .int .i64 (s.P : Int)] x' fun e w' => e = .returned (.int .i64 (raiseE s.m 2 (j : Int) (s.P : Int))) ∧ MkAt w' a.mt a.mr a.mb (upM s.m 2 j) ∧ Keeps (fun k => k = a.mb) x' w'))
      have HCT := hide HC3
      have HLA : Hid (upM s.m 2 j 2 = j) := upM_same _ _ _
      clear hs hall HUP HCUT HM HRV HS hy hbel1 hup hSS hrv HC3 HLT
      generalize raiseE s.m 2 (j : Int) (s.P : Int) = RE at *
      go_wp2
      go_region_held3 (fun W => W.cell? ⟨a.l, 7, none⟩ = some (.map (some a.lb)) ∧ W.cell? ⟨BB, 0, none⟩ = some (.int .i64 j)) (first | assumption | go_keep) (first | (go_at_call 98; refine hhas.mono ?_; rintro e y ⟨rfl, b2⟩; have r7 := (b2.cell (p := ⟨a.l, 7, none⟩) (World.block_lt_of_cell? wr _ c7)).trans c7; have r0 := (b2.cell (p := ⟨BB, 0, none⟩) hrl).trans q0; have HBy := hide (HBL1.out.trans (b2.mono HBL1.out.size))))
      all_goals
        have hyy := H.out.below HBy.out
        have c0 := hyy.c0
        have c2y := hyy.c2
        have HY1 := hide (hyy.drew 1)
        have HBy1 := hide (below_drewN HBy.out 1)
        clear hyy hhas
        go_wp2
        go_region_held3 (fun W => W.cell? ⟨a.l, 0, none⟩ = some (.pointer (some ⟨a.t, 0, none⟩)) ∧ W.cell? ⟨a.l, 2, none⟩ = some (.pointer (some ⟨a.mt, 0, none⟩)) ∧ W.cell? ⟨BB, 0, none⟩ = some (.int .i64 j)) (first | assumption | go_keep) (first | (go_at_call 39; obtain ⟨won, hw, ht⟩ := HY1.out.tl; refine (tPage ht).mono ?_; rintro e y3 ⟨rfl, b3⟩; have HB3 := hide (HBy1.out.trans (b3.mono HBy1.out.size)); have HY3 := hide (HY1.out.below b3); have s0 := HY3.out.c0; have s2 := HY3.out.c2; have sB := (b3.cell (p := ⟨BB, 0, none⟩) (World.block_lt_of_cell? y _ r0)).trans r0) | (go_at_call 97; refine (HMj.out _ HB3.out).mono ?_; rintro e y4 ⟨rfl, hm4, k4⟩; obtain ⟨o4, g4, X4, K4⟩ := HY3.out.setMk k4 hm4; have u0 := g4.c0; have u2 := g4.c2; have uB := (k4.cell (p := ⟨BB, 0, none⟩) (World.block_lt_of_cell? y3 _ sB) (by have := H.out.sz a.mb (by rw [H.out.om.2.2]; omega); have := HBB.out; simp only; omega)).trans sB))
        all_goals
          have v7 := g4.c7
          have hdel := hl_delete g4.la BB j uB (by have := H.out.sz a.lb (by rw [H.out.ob]; omega); have := HBB.out; omega)
          rw [HMU.out, HCT.out] at hdel
          have HQ := hide (fun y5 (hk5 : Keeps (fun x => x = a.lb) y4 y5) (hg5 : MapAs MI y5 a.lb (lanF s.L j)) => Gq.after H.out HB3.out (Gq.trans X4 K4 (g4.setLa hk5 hg5)))
          clear X4 K4 g4 HY3 HB3 HY1 HBy1 HMj
          go_wp2_with fail
          refine hdel.mono ?_
          rintro e y5 ⟨rfl, hg5, k5⟩
          have HF : Hid (Hq x o a c S' k y5) := HFin.out _ (by
            have := HQ.out y5 k5 hg5
            show Gq x o a c _ (flyF s.L) (lanF s.L (upM s.m 2 j 2)) k y5
            rw [HLA.out]
            exact this)
          clear HQ hg5 k5 hdel HFin
          go_wp2
          go_end0
          exact ⟨rfl, HF.out⟩
end
end Go.Proofs.YtfghfbmmaclcnaaGreat
namespace Go.Proofs.YtfghfbmmaclcnaaGreat
set_option maxRecDepth 20000
/-- What a write's landing does to a map told as a function. -/
def stepO (q : Fy → Bool) (val : Fy → Option Int) (h : Int → Option Int) (y : Fy) : Int → Option Int := if q y = true then (fun x => if x = y.t then val y else h x) else h
theorem fold_not {q : Fy → Bool} {val : Fy → Option Int} {x : Int} : ∀ (Y : List Fy) (h : Int → Option Int), (∀ y ∈ Y, y.t = x → q y = false) → Y.foldl (stepO q val) h x = h x
  | [], h, _ => rfl
  | y :: Y, h, hn => by
    rw [List.foldl_cons, fold_not Y _ (fun z hz => hn z (List.mem_cons_of_mem _ hz))]
    unfold stepO
    by_cases e : y.t = x
    · rw [hn y List.mem_cons_self e, if_neg (by decide)]
    · split
      · exact if_neg (fun e' : x = y.t => e e'.symm)
      · rfl
theorem fold_yes {q : Fy → Bool} {val : Fy → Option Int} : ∀ (Y : List Fy) (h : Int → Option Int), Y.Pairwise (fun x y => x.t < y.t) → ∀ y ∈ Y, q y = true → Y.foldl (stepO q val) h y.t = val y
  | [], h, _, y, hy, _ => by simp at hy
  | z :: Y, h, hp, y, hy, hq => by
    rw [List.pairwise_cons] at hp
    rw [List.foldl_cons]
    rcases List.mem_cons.1 hy with rfl | hy'
    · rw [fold_not Y _ (fun u hu e => by have := hp.1 u hu; omega)]
      unfold stepO
      rw [if_pos hq, if_pos rfl]
    · exact fold_yes Y _ hp.2 y hy' hq
theorem takeE_other {d : Dv} {t u : Int} (h : t ≠ u) : takeE (takeD d u) t = takeE d t := by
  unfold takeD
  split
  · rfl
  rename_i ho
  split
  · rfl
  rename_i j hj
  split
  · obtain ⟨h1, h2, -⟩ := jobAt_lt hj
    have e1 : ∀ x, x = t → jobAt (d.jobs.set (u - 1).toNat { j with st := 2 }) x = jobAt d.jobs x := fun x e => by
      rw [jobAt_set _ _ _ h1 h2, if_neg (by omega)]
    unfold takeE fl an
    simp only [e1 t rfl]
  · rfl
/-- Those that are under way. -/
def flyL (L : List Fy) : List Fy := L.filter fun y => !y.l
def dvK (d : Dv) (Y : List Fy) : Dv := Y.foldl (fun d y => takeD d y.t) d
theorem dvK_snoc (d : Dv) (Y : List Fy) (y : Fy) : dvK d (Y ++ [y]) = takeD (dvK d Y) y.t := by
  unfold dvK
  rw [List.foldl_append]; rfl
theorem dvK_takeE {t : Int} : ∀ (Y : List Fy) (d : Dv), (∀ y ∈ Y, y.t ≠ t) → takeE (dvK d Y) t = takeE d t
  | [], d, _ => rfl
  | y :: Y, d, h => by
    show takeE (dvK (takeD d y.t) Y) t = takeE d t
    rw [dvK_takeE Y _ (fun z hz => h z (List.mem_cons_of_mem _ hz)), takeE_other (fun e => h y List.mem_cons_self e.symm)]
theorem landD_is (d : Dv) (L : List Fy) : landD d L = dvK d (flyL L) := by
  unfold landD dvK flyL
  induction L generalizing d with
  | nil => rfl
  | cons y L ih =>
    rw [List.foldl_cons, ih, List.filter_cons]
    cases e : y.l <;> simp
theorem flyL_mem {L : List Fy} {y : Fy} : y ∈ flyL L ↔ y ∈ L ∧ y.l = false := by
  unfold flyL
  rw [List.mem_filter]
  simp
theorem landL_mem {d : Dv} {L : List Fy} {t p : Int} {l : Bool} : (∃ y ∈ landL d L, y.t = t ∧ y.l = l ∧ y.p = p) ↔ ∃ y ∈ L, y.t = t ∧ (y.l || tookB d y) = l ∧ y.p = p := by
  unfold landL
  constructor
  · rintro ⟨y, hy, h1, h2, h3⟩
    obtain ⟨z, hz, rfl⟩ := List.mem_map.1 hy
    unfold landY at h1 h2 h3
    cases e : tookB d z <;> rw [e] at h1 h2 h3 <;> simp at h1 h2 h3 <;> exact ⟨z, hz, h1, by simp [e, h2], h3⟩
  · rintro ⟨z, hz, h1, h2, h3⟩
    refine ⟨landY d z, List.mem_map.2 ⟨z, hz, rfl⟩, ?_⟩
    unfold landY
    cases e : tookB d z <;> rw [e] at h2 <;> simp at h2 ⊢ <;> exact ⟨h1, h2, h3⟩
theorem landL_tks {d : Dv} {L : List Fy} (h : L.Pairwise (fun x y => x.t < y.t)) : (landL d L).Pairwise (fun x y => x.t < y.t) := by
  unfold landL
  rw [List.pairwise_map]
  refine h.imp (fun {x y} e => ?_)
  unfold landY
  split <;> split <;> exact e
theorem flyF_land {d : Dv} {L : List Fy} (h : L.Pairwise (fun x y => x.t < y.t)) : (flyL L).foldl (stepO (tookB d) fun _ => none) (flyF L) = flyF (landL d L) := by
  funext t
  refine opt_ext (fun p => ?_)
  rw [flyF_some (landL_tks h), landL_mem]
  by_cases hq : ∃ y ∈ flyL L, y.t = t ∧ tookB d y = true
  · obtain ⟨y, hy, rfl, hq⟩ := hq
    rw [fold_yes (flyL L) _ (h.filter _) y hy hq]
    constructor
    · intro e; cases e
    · rintro ⟨z, hz, h1, h2, -⟩
      have e : z = y := by
        have hy' := (flyL_mem.1 hy).1
        rcases List.mem_iff_getElem.1 hz with ⟨i, hi, rfl⟩
        rcases List.mem_iff_getElem.1 hy' with ⟨j, hj, rfl⟩
        rw [List.pairwise_iff_getElem] at h
        rcases Nat.lt_trichotomy i j with e | e | e
        · have := h i j hi hj e; omega
        · subst e; rfl
        · have := h j i hj hi e; omega
      subst e
      rw [hq] at h2
      simp at h2
  · rw [fold_not (flyL L) _ (fun y hy e => by
      cases e2 : tookB d y with
      | false => rfl
      | true => exact absurd ⟨y, hy, e, e2⟩ hq)]
    rw [flyF_some h]
    constructor
    · rintro ⟨y, hy, h1, h2, h3⟩
      refine ⟨y, hy, h1, ?_, h3⟩
      cases e2 : tookB d y with
      | false => rw [h2]; rfl
      | true => exact absurd ⟨y, flyL_mem.2 ⟨hy, h2⟩, h1, e2⟩ hq
    · rintro ⟨y, hy, h1, h2, h3⟩
      rw [Bool.or_eq_false_iff] at h2
      exact ⟨y, hy, h1, h2.1, h3⟩
theorem lanF_land {d : Dv} {L : List Fy} {m : Nat} (h : L.Pairwise (fun x y => x.t < y.t)) (hm : ∀ y ∈ L, y.l = false → (m : Int) ≤ y.p) : (flyL L).foldl (stepO (tookB d) fun y => some y.p) (lanF L m) = lanF (landL d L) m := by
  funext t
  refine opt_ext (fun p => ?_)
  rw [lanF_some (landL_tks h)]
  have hl : (∃ y ∈ landL d L, y.t = t ∧ y.l = true ∧ (m : Int) ≤ p ∧ y.p = p) ↔ ((m : Int) ≤ p ∧ ∃ y ∈ landL d L, y.t = t ∧ y.l = true ∧ y.p = p) := by
    constructor
    · rintro ⟨y, hy, h1, h2, h3, h4⟩; exact ⟨h3, y, hy, h1, h2, h4⟩
    · rintro ⟨h3, y, hy, h1, h2, h4⟩; exact ⟨y, hy, h1, h2, h3, h4⟩
  rw [hl, landL_mem]
  by_cases hq : ∃ y ∈ flyL L, y.t = t ∧ tookB d y = true
  · obtain ⟨y, hy, rfl, hq⟩ := hq
    rw [fold_yes (flyL L) _ (h.filter _) y hy hq]
    obtain ⟨hy1, hy2⟩ := flyL_mem.1 hy
    constructor
    · intro e
      cases e
      exact ⟨hm y hy1 hy2, y, hy1, rfl, by rw [hq]; simp, rfl⟩
    · rintro ⟨-, z, hz, h1, h2, h3⟩
      have e : z = y := by
        rcases List.mem_iff_getElem.1 hz with ⟨i, hi, rfl⟩
        rcases List.mem_iff_getElem.1 hy1 with ⟨j, hj, rfl⟩
        rw [List.pairwise_iff_getElem] at h
        rcases Nat.lt_trichotomy i j with e | e | e
        · have := h i j hi hj e; omega
        · subst e; rfl
        · have := h j i hj hi e; omega
      subst e
      rw [h3]
  · rw [fold_not (flyL L) _ (fun y hy e => by
      cases e2 : tookB d y with
      | false => rfl
      | true => exact absurd ⟨y, hy, e, e2⟩ hq)]
    rw [lanF_some h]
    constructor
    · rintro ⟨y, hy, h1, h2, h3, h4⟩
      exact ⟨h3, y, hy, h1, by rw [h2]; simp, h4⟩
    · rintro ⟨h3, y, hy, h1, h2, h4⟩
      refine ⟨y, hy, h1, ?_, h3, h4⟩
      cases e2 : y.l with
      | true => rfl
      | false =>
        rw [e2, Bool.false_or] at h2
        exact absurd ⟨y, flyL_mem.2 ⟨hy, e2⟩, h1, h2⟩ hq
theorem landN_is (d : Dv) (L : List Fy) : landN d L = ((flyL L).filter (tookB d)).length := by
  unfold landN flyL
  rw [List.filter_filter]
  congr 1
  refine List.filter_congr (fun y _ => ?_)
  unfold tookB
  cases y.l <;> simp
end Go.Proofs.YtfghfbmmaclcnaaGreat
namespace Go.Proofs.YtfghfbmmaclcnaaGreat
set_option maxRecDepth 20000
open Go.RowKit Go.Maps Go.Shelf
section
variable {w : World} {o : Nat → Nat} {a : Ad} {c : Cf} {s : Hs} {k : Nat}
def getY (Y : List Fy) (i : Nat) : Fy := Y.getD i ⟨0, 0, false⟩
theorem getY_some {Y : List Fy} {i : Nat} (h : i < Y.length) : Y[i]? = some (getY Y i) := by simp [getY, List.getD_eq_getElem?_getD, h]
theorem getY_take {Y : List Fy} {i : Nat} (h : i < Y.length) : Y.take (i + 1) = Y.take i ++ [getY Y i] := by
  rw [List.take_add_one, getY_some h]; rfl
theorem getY_mem {Y : List Fy} {i : Nat} (h : i < Y.length) : getY Y i ∈ Y := List.mem_of_getElem? (getY_some h)
/-- The maps and the device when the first i have been asked for. -/
def fK (d : Dv) (L : List Fy) (i : Nat) : Int → Option Int := ((flyL L).take i).foldl (stepO (tookB d) fun _ => none) (flyF L)
def gK (d : Dv) (L : List Fy) (m i : Nat) : Int → Option Int := ((flyL L).take i).foldl (stepO (tookB d) fun y => some y.p) (lanF L m)
def dK (d : Dv) (L : List Fy) (i : Nat) : Dv := dvK d ((flyL L).take i)
def nK (d : Dv) (L : List Fy) (i : Nat) : Nat := (((flyL L).take i).filter (tookB d)).length
theorem fK_step (d : Dv) (L : List Fy) {i : Nat} (h : i < (flyL L).length) : fK d L (i + 1) = stepO (tookB d) (fun _ => none) (fK d L i) (getY (flyL L) i) := by
  unfold fK; rw [getY_take h, List.foldl_append]; rfl
theorem gK_step (d : Dv) (L : List Fy) (m : Nat) {i : Nat} (h : i < (flyL L).length) : gK d L m (i + 1) = stepO (tookB d) (fun y => some y.p) (gK d L m i) (getY (flyL L) i) := by
  unfold gK; rw [getY_take h, List.foldl_append]; rfl
theorem dK_step (d : Dv) (L : List Fy) {i : Nat} (h : i < (flyL L).length) : dK d L (i + 1) = takeD (dK d L i) (getY (flyL L) i).t := by
  unfold dK; rw [getY_take h, dvK_snoc]
theorem nK_step (d : Dv) (L : List Fy) {i : Nat} (h : i < (flyL L).length) : nK d L (i + 1) = nK d L i + (if tookB d (getY (flyL L) i) = true then 1 else 0) := by
  unfold nK
  rw [getY_take h, List.filter_append, List.length_append, List.filter_cons]
  split <;> simp
theorem take_ne {L : List Fy} (h : L.Pairwise (fun x y => x.t < y.t)) {i : Nat} (hi : i < (flyL L).length) : ∀ y ∈ (flyL L).take i, y.t ≠ (getY (flyL L) i).t := by
  intro y hy
  obtain ⟨j, hj, rfl⟩ := List.mem_iff_getElem.1 hy
  have hp := h.filter (fun y => !y.l)
  rw [List.pairwise_iff_getElem] at hp
  rw [List.length_take] at hj
  have := hp j i (by unfold flyL at hi; unfold flyL at hj; omega) hi (by omega)
  have e : getY (flyL L) i = (flyL L)[i] := by simp [getY, List.getD_eq_getElem?_getD, hi]
  rw [e, List.getElem_take]
  unfold flyL at *
  omega
theorem fK_at {d : Dv} {L : List Fy} (h : L.Pairwise (fun x y => x.t < y.t)) {i : Nat} (hi : i < (flyL L).length) : fK d L i (getY (flyL L) i).t = some (getY (flyL L) i).p := by
  unfold fK
  rw [fold_not _ _ (fun y hy e => absurd e (take_ne h hi y hy))]
  obtain ⟨h1, h2⟩ := flyL_mem.1 (getY_mem hi)
  exact (flyF_some h).2 ⟨_, h1, rfl, h2, rfl⟩
theorem dK_takeE {d : Dv} {L : List Fy} (h : L.Pairwise (fun x y => x.t < y.t)) {i : Nat} (hi : i < (flyL L).length) : takeE (dK d L i) (getY (flyL L) i).t = takeE d (getY (flyL L) i).t := dvK_takeE _ _ (take_ne h hi)
/-- A write that is flying is under way, or done. -/
theorem fly_take {d : Dv} {y : Fy} (ho : d.off = false) (h : ∃ j, jobAt d.jobs y.t = some j ∧ (j.st = 0 ∨ j.st = 1) ∧ j.no = false ∧ j.wr = true) : takeE d y.t = 10 ∨ takeE d y.t = 0 := by
  obtain ⟨j, h1, h2, h3, -⟩ := h
  unfold takeE
  rw [if_neg (by rw [ho]; decide)]
  rcases h2 with h2 | h2
  · left
    have : fl d.jobs y.t = some j.rq := by unfold fl; rw [h1]; simp [h2]
    rw [this]; rfl
  · right
    have e1 : fl d.jobs y.t = none := by unfold fl; rw [h1]; simp [h2]
    have e2 : an d.jobs y.t = some j.s := by unfold an; rw [h1]; simp [h2, h3]
    rw [e1, e2]; rfl
theorem takeD_busy {d : Dv} {t : Int} (h : takeE d t = 10) : takeD d t = d := by
  unfold takeE at h
  split at h
  · omega
  · split at h
    · rename_i h1
      obtain ⟨r, hr⟩ := Option.isSome_iff_exists.1 h1
      exact takeD_fly hr
    · split at h <;> omega
end
end Go.Proofs.YtfghfbmmaclcnaaGreat
namespace Go.Proofs.YtfghfbmmaclcnaaGreat
set_option maxRecDepth 20000
open Go.RowKit Go.Maps Go.Shelf
theorem Sl.kept {k : IntKind} {w w' : World} {ao : Option Addr} {n : Nat} {z : Nat → Int} {T : Nat → Prop} (h : Sl k w ao n z) (hk : Keeps T w w') (hT : ∀ g off, ao = some ⟨g, off, none⟩ → ¬ T g) : Sl k w' ao n z := fun j hj => by
  obtain ⟨b, off, h1, h2⟩ := h j hj
  exact ⟨b, off, h1, by rw [hk.cell (World.block_lt_of_cell? w _ h2) (hT b off h1)]; exact h2⟩
section
variable {w : World} {o : Nat → Nat} {a : Ad} {c : Cf} {s : Hs} {k : Nat}
set_option maxHeartbeats 4000000 in
theorem hl_land (h : Hp w o a c s k) (hw : Wf c s k) (hk : k ≤ 900) :
    Calls Tryz.prog 32 #[.pointer (some ⟨a.l, 0, none⟩)] w fun e w' => e = .returned (.int .i64 (landN s.dv s.L : Int)) ∧ Hq w o a c (landS s) k w' := by
  have c6 := h.c6
  have hP := h.hP
  obtain ⟨Y, hY⟩ : ∃ Y, Y = flyL s.L := ⟨_, rfl⟩
  have hokt := hw.okt (by omega : k ≤ 1000)
  have hfew := hw.few
  have hYlen : Y.length ≤ 900 := by
    have h1 : (s.L.map Fy.t).length ≤ ((List.range (s.dv.jobs.length + 1)).map fun (n : Nat) => (n : Int)).length - 1 := by
      have : (s.L.map Fy.t).length ≤ (((List.range s.dv.jobs.length)).map fun (n : Nat) => (n : Int) + 1).length := by
        refine nodup_len_le ?_ (fun x hx => ?_)
        · rw [List.nodup_iff_pairwise_ne, List.pairwise_map]
          exact hw.tks.imp (fun e => by omega)
        · obtain ⟨y, hy, rfl⟩ := List.mem_map.1 hx
          have := hw.tk y hy
          exact List.mem_map.2 ⟨y.t.toNat - 1, List.mem_range.2 (by omega), by omega⟩
      simpa using this
    rw [List.length_map, List.length_map, List.length_range] at h1
    have h2 : Y.length ≤ s.L.length := by rw [hY]; exact List.length_filter_le _ _
    omega
  have hUt : ∀ y ∈ Y, (y.t.toNat : Int) = y.t ∧ okI y.t := fun y hy => by
    rw [hY] at hy
    have := hw.tk y (flyL_mem.1 hy).1
    exact ⟨by omega, hokt y (flyL_mem.1 hy).1⟩
  have hYp : Y.Pairwise (fun x y => x.t < y.t) := by rw [hY]; exact hw.tks.filter _
  have hsort := hl_sorted h.fl (Y.map fun y => y.t.toNat) (by
    rw [List.pairwise_map]
    refine List.Pairwise.imp_of_mem (fun {x y} hx hy e => ?_) hYp
    have := (hUt x hx).1; have := (hUt y hy).1
    omega) (by rw [List.length_map]; omega) (fun x => by
    constructor
    · rintro ⟨-, hne⟩
      obtain ⟨p, hp⟩ := Option.ne_none_iff_exists'.1 hne
      obtain ⟨y, hy, h1, h2, h3⟩ := (flyF_some hw.tks).1 hp
      have hyY : y ∈ Y := by rw [hY]; exact flyL_mem.2 ⟨hy, h2⟩
      exact List.mem_map.2 ⟨y.t.toNat, List.mem_map.2 ⟨y, hyY, rfl⟩, by rw [(hUt y hyY).1, h1]⟩
    · intro hx
      obtain ⟨n, hn, rfl⟩ := List.mem_map.1 hx
      obtain ⟨y, hyY, rfl⟩ := List.mem_map.1 hn
      rw [(hUt y hyY).1]
      refine ⟨(hUt y hyY).2, ?_⟩
      have hyY' := hyY
      rw [hY] at hyY'
      obtain ⟨hy, h2⟩ := flyL_mem.1 hyY'
      rw [(flyF_some hw.tks).2 ⟨y, hy, rfl, h2, rfl⟩]
      exact fun e => by cases e)
  rw [List.length_map] at hsort
  have HU : Hid (∀ i, i < Y.length → (((Y.map fun y => y.t.toNat).getD i 0 : Nat) : Int) = (getY Y i).t) := fun i hi => by
    have e1 : (Y.map fun y => y.t.toNat).getD i 0 = (getY Y i).t.toNat := by simp [getY, List.getD_eq_getElem?_getD, hi]
    rw [e1, (hUt _ (getY_mem hi)).1]
  have HOK : Hid (∀ i, i < Y.length → okI (getY Y i).t) := fun i hi => (hUt _ (getY_mem hi)).2
  have HTE : Hid (∀ i, i < Y.length → takeE (dK s.dv s.L i) (getY Y i).t = 10 ∨ takeE (dK s.dv s.L i) (getY Y i).t = 0) := fun i hi => by
    rw [hY] at hi ⊢
    rw [dK_takeE hw.tks hi]
    obtain ⟨h1, h2⟩ := flyL_mem.1 (getY_mem hi)
    exact fly_take hw.off (hw.fly _ h1 h2)
  have HST : Hid (∀ i, i < Y.length → takeE (dK s.dv s.L i) (getY Y i).t = 0 → fK s.dv s.L (i + 1) = (fun x => if x = (getY Y i).t then none else fK s.dv s.L i x) ∧ gK s.dv s.L (s.m 2) (i + 1) = (fun x => if x = (getY Y i).t then some (getY Y i).p else gK s.dv s.L (s.m 2) i x) ∧ dK s.dv s.L (i + 1) = takeD (dK s.dv s.L i) (getY Y i).t ∧ nK s.dv s.L (i + 1) = nK s.dv s.L i + 1) := fun i hi e => by
    rw [hY] at hi e ⊢
    rw [dK_takeE hw.tks hi] at e
    obtain ⟨h1, h2⟩ := flyL_mem.1 (getY_mem hi)
    have ht : tookB s.dv (getY (flyL s.L) i) = true := by unfold tookB; rw [h2, e]; rfl
    refine ⟨?_, ?_, dK_step _ _ hi, ?_⟩
    · rw [fK_step _ _ hi]; unfold stepO; rw [if_pos ht]
    · rw [gK_step _ _ _ hi]; unfold stepO; rw [if_pos ht]
    · rw [nK_step _ _ hi, if_pos ht]
  have HSB : Hid (∀ i, i < Y.length → takeE (dK s.dv s.L i) (getY Y i).t = 10 → fK s.dv s.L (i + 1) = fK s.dv s.L i ∧ gK s.dv s.L (s.m 2) (i + 1) = gK s.dv s.L (s.m 2) i ∧ takeD (dK s.dv s.L i) (getY Y i).t = dK s.dv s.L (i + 1) ∧ nK s.dv s.L (i + 1) = nK s.dv s.L i) := fun i hi e => by
    rw [hY] at hi e ⊢
    have e' := e
    rw [dK_takeE hw.tks hi] at e
    have ht : tookB s.dv (getY (flyL s.L) i) = false := by unfold tookB; rw [e]; simp
    refine ⟨?_, ?_, (dK_step _ _ hi).symm, ?_⟩
    · rw [fK_step _ _ hi]; unfold stepO; rw [ht]; rfl
    · rw [gK_step _ _ _ hi]; unfold stepO; rw [ht]; rfl
    · rw [nK_step _ _ hi, ht]; rfl
  have HFA : Hid (∀ i, i < Y.length → fK s.dv s.L i (getY Y i).t = some (getY Y i).p) := fun i hi => by
    rw [hY] at hi ⊢
    exact fK_at hw.tks hi
  have HGK : Hid (∀ i x, okI x → gK s.dv s.L (s.m 2) i x ≠ none → x ∈ s.L.map Fy.t) := fun i x _ hx => by
    have key : ∀ (Z : List Fy) (h0 : Int → Option Int), (∀ z ∈ Z, z ∈ s.L) → (h0 x ≠ none → x ∈ s.L.map Fy.t) → Z.foldl (stepO (tookB s.dv) fun y => some y.p) h0 x ≠ none → x ∈ s.L.map Fy.t := by
      intro Z
      induction Z with
      | nil => intro h0 _ h1 h2; exact h1 h2
      | cons z Z ih =>
        intro h0 hz h1 h2
        refine ih _ (fun u hu => hz u (List.mem_cons_of_mem _ hu)) ?_ h2
        unfold stepO
        intro h3
        split at h3
        · by_cases e : x = z.t
          · rw [e]; exact List.mem_map.2 ⟨z, hz z List.mem_cons_self, rfl⟩
          · simp only [e, if_false] at h3; exact h1 h3
        · exact h1 h3
    refine key _ _ (fun z hz => (flyL_mem.1 (List.mem_of_mem_take hz)).1) (fun h3 => ?_) hx
    obtain ⟨p, hp⟩ := Option.ne_none_iff_exists'.1 h3
    obtain ⟨y, hy, rfl, -⟩ := (lanF_some hw.tks).1 hp
    exact List.mem_map.2 ⟨y, hy, rfl⟩
  have HLN : Hid ((s.L.map Fy.t).length ≤ 901) := by
    unfold Hid
    have : (s.L.map Fy.t).length ≤ (((List.range s.dv.jobs.length)).map fun (n : Nat) => (n : Int) + 1).length := by
      refine nodup_len_le ?_ (fun x hx => ?_)
      · rw [List.nodup_iff_pairwise_ne, List.pairwise_map]
        exact hw.tks.imp (fun e => by omega)
      · obtain ⟨y, hy, rfl⟩ := List.mem_map.1 hx
        have := hw.tk y hy
        exact List.mem_map.2 ⟨y.t.toNat - 1, List.mem_range.2 (by omega), by omega⟩
    rw [List.length_map (f := fun (n : Nat) => (n : Int) + 1), List.length_range] at this
    omega
  have HE : Hid (fK s.dv s.L Y.length = flyF (landL s.dv s.L) ∧ gK s.dv s.L (s.m 2) Y.length = lanF (landL s.dv s.L) (s.m 2) ∧ dK s.dv s.L Y.length = landD s.dv s.L ∧ nK s.dv s.L Y.length = landN s.dv s.L) := by
    unfold Hid fK gK dK nK
    rw [hY, List.take_length]
    exact ⟨flyF_land hw.tks, lanF_land hw.tks hw.fp, (landD_is _ _).symm, (landN_is _ _).symm⟩
  have H0 : Hid (fK s.dv s.L 0 = flyF s.L ∧ gK s.dv s.L (s.m 2) 0 = lanF s.L (s.m 2) ∧ dK s.dv s.L 0 = s.dv ∧ nK s.dv s.L 0 = 0) := ⟨rfl, rfl, rfl, rfl⟩
  have hord := hw.ord
  have htop := hw.top
  unfold OrdM at hord
  have HRF := hide (fun (x : World) (o1 : Nat → Nat) (q : Hp x o1 a c ({ s with dv := landD s.dv s.L, L := landL s.dv s.L } : Hs) k) => hl_raiseFlushed q (landL_tks hw.tks) (fun y hy => by
      obtain ⟨z, hz, e, -⟩ := landL_mem.1 ⟨y, hy, rfl, rfl, rfl⟩
      rw [← e]; exact hokt z hz) (fun y hy => by
      obtain ⟨z, hz, -, -, e⟩ := landL_mem.1 ⟨y, hy, rfl, rfl, rfl⟩
      rw [← e]; exact hw.pl z hz) (by simp only; omega) (by simp only; omega))
  have HLS : Hid (landS s = ({ s with dv := landD s.dv s.L, L := landL s.dv s.L, m := upM s.m 2 (upTo (landL s.dv s.L) (s.m 2) 64) } : Hs)) := rfl
  obtain ⟨N, hN⟩ : ∃ N, landN s.dv s.L = N := ⟨_, rfl⟩
  rw [hN] at HE ⊢
  obtain ⟨S', hS'⟩ : ∃ S', landS s = S' := ⟨_, rfl⟩
  rw [hS'] at HLS ⊢
  have H := hide h
  have hkeys := hl_keys a.fb w
  clear hS' hN hY hUt hYp h hokt hord htop hw hP hfew
  go_enter Tryz.func32, Tryz.ntmps32
  go_wp2_with fail
  refine hkeys.mono ?_
  rintro e x ⟨rfl, rfl⟩
  go_wp2_with fail
  refine hsort.mono ?_
  rintro e y ⟨ao, cap, rfl, hsl, hnew, hby⟩
  clear hkeys hsort
  go_wp2
  have hq0 : Gq w o a c ({ s with dv := dK s.dv s.L 0 } : Hs) (fK s.dv s.L 0) (gK s.dv s.L (s.m 2) 0) k y := by
    rw [H0.out.1, H0.out.2.1, H0.out.2.2.1]
    exact (H.out.here).below hby
  have HQ0 := hide hq0
  have hn0 : ((nK s.dv s.L 0 : Nat) : Int) = 0 := by rw [H0.out.2.2.2]; rfl
  have HN0 := hide hn0
  have HNW : Hid (∀ g off, ao = some ⟨g, off, none⟩ → w.heap.size ≤ g) := hnew
  have HSZ : Hid (∀ x, o x ≠ 0 → x < w.heap.size) := H.out.sz
  have HOF : Hid (o a.fb = 7 ∧ o a.lb = 8 ∧ ∀ x, InD a.vt x → o x = 6) := ⟨H.out.of, H.out.ob, H.out.ov⟩
  clear hq0 hnew H0 H hn0 hby c6
  go_loopw [3, 17] (fun nv i wr => ∃ j : Nat, j ≤ Y.length ∧ i = .int .i64 j ∧ nv = .int .i64 ((nK s.dv s.L j : Nat) : Int) ∧ Hid (Gq w o a c ({ s with dv := dK s.dv s.L j } : Hs) (fK s.dv s.L j) (gK s.dv s.L (s.m 2) j) k wr) ∧ Sl .i64 wr ao Y.length (fun j => (((Y.map fun y => y.t.toNat).getD j 0 : Nat) : Int))) (fun _ i _ => Y.length - (intOf i).toNat)
  case atStart => exact ⟨0, Nat.zero_le _, rfl, by rw [HN0.out], HQ0.out, hsl⟩
  case round =>
    clear HQ0 HN0 hsl
    obtain ⟨j, hj, rfl, rfl, hq, hsl⟩ := hrel
    by_cases hlt : j < Y.length
    · have hok := HOK.out j hlt
      have hut := HU.out j hlt
      obtain ⟨b, off, rfl, e0⟩ := hsl j hlt
      replace e0 : wr.cell? ⟨b, off + j, none⟩ = some (.int .i64 (((Y.map fun y => y.t.toNat).getD j 0 : Nat) : Int)) := e0
      rw [hut] at e0
      have hb := HNW.out b off rfl
      obtain ⟨o1, g0, X0, K0⟩ := hq.out
      have hfa := HFA.out j hlt
      have hsb := HSB.out j hlt
      have hst := HST.out j hlt
      have hte := HTE.out j hlt
      have hgk := HGK.out j
      have c5 := g0.c5
      have HX := hide X0
      have HK0 := hide K0
      have hN1 : nK s.dv s.L j ≤ 1000 := by
        unfold nK
        refine Nat.le_trans (List.length_filter_le _ _) ?_
        rw [List.length_take]
        omega
      generalize (getY Y j).t = T at *
      generalize (getY Y j).p = pp at *
      have htk := device_take g0.dv T hok
      have HSL := hide (fun y1 (k1 : Keeps (InD a.vt) wr y1) => hsl.kept k1 (fun g off e t => by cases e; have h1 := HOF.out.2.2 b t; have h2 := HSZ.out b (by omega); omega))
      rcases hte with e10 | e00
      · obtain ⟨f1, f2, f3, f4⟩ := hsb e10
        rw [e10, f3] at htk
        have HQ1 := hide (fun y1 (hd : DvIs y1 a.vt (dK s.dv s.L (j + 1))) (k1 : Keeps (InD a.vt) wr y1) => (by rw [f1, f2]; exact Gq.trans HX.out HK0.out (g0.setDv k1 hd) : Gq w o a c ({ s with dv := dK s.dv s.L (j + 1) } : Hs) (fK s.dv s.L (j + 1)) (gK s.dv s.L (s.m 2) (j + 1)) k y1))
        have HF4 := hide f4
        clear HU HOK HTE HST HSB HFA HGK HE HRF HLS HOF HNW g0 X0 K0 hsl hq hsb hst hfa hgk e10 f1 f2 f3 f4 hut HSZ hN1
        generalize takeS (dK s.dv s.L j) T = ts at *
        go_wp2_with fail
        refine htk.mono ?_
        rintro e y1 ⟨rfl, hd1, k1⟩
        have HA := hide (HQ1.out y1 hd1 k1)
        have HB := hide (HSL.out y1 k1)
        clear HQ1 HSL hd1 k1 htk c5 e0
        go_wp2
        go_roundw
        case rel => exact ⟨j + 1, by omega, by go_num, by rw [HF4.out], HA.out, HB.out⟩
        case measure => simp [intOf]; omega
      · obtain ⟨f1, f2, f3, f4⟩ := hst e00
        rw [e00, ← f3] at htk
        have HF4 := hide f4
        have wN : IntKind.i64.wrap (((nK s.dv s.L j : Nat) : Int) + 1) = ((nK s.dv s.L (j + 1) : Nat) : Int) := by rw [i64_small (by omega) (by omega), f4]; omega
        have HG0 := hide g0
        have HFE := hide f1
        have HGE := hide f2
        clear HU HOK HTE HST HSB HFA HGK HE HRF HLS g0 X0 K0 hsl hq hsb hst e00 f1 f2 f3 f4 hut hN1
        generalize takeS (dK s.dv s.L j) T = ts at *
        go_wp2_with fail
        refine htk.mono ?_
        rintro e y1 ⟨rfl, hd1, k1⟩
        have hsl1 := HSL.out y1 k1
        obtain ⟨o2, g2, X2, K2⟩ := HG0.out.setDv k1 hd1
        have c6 := g2.c6
        have c7 := g2.c7
        have hlook := (g2.fl.drew 1).at hok
        rw [hfa] at hlook
        obtain ⟨y2, hst2, hm2, ht2⟩ := (g2.la.drew 1).store (s.L.map Fy.t) hgk (Nat.lt_of_le_of_lt HLN.out (by decide)) hok pp
        simp only [MI, Option.getD_some] at hlook hst2
        replace hlook : (Instr.lookup 102 (.map (some a.fb)) (.int .i64 T) false).run Tryz.prog y1.drew = .ok (.int .i64 pp) y1.drew := hlook
        replace hst2 : (Instr.mapUpdate 102 (.map (some a.lb)) (.int .i64 T) (.int .i64 pp)).run Tryz.prog y1.drew = .ok () y2 := hst2
        have hk2 : Keeps (fun x => x = a.lb) y1 y2 := ((Keeps.refl (fun x => x = a.lb) y1).drewN 1).trans (Keeps.turned ht2) (fun _ _ e => e)
        obtain ⟨o3, g3, X3, K3⟩ := g2.setLa hk2 hm2
        have hb3 : b ≠ a.lb := fun e => by have h1 := HOF.out.2.1; have := HSZ.out a.lb (by omega); omega
        have hsl2 := hsl1.kept hk2 (fun g off e => by cases e; exact hb3)
        have c6' := g3.c6
        obtain ⟨y3, hdr, hm3, ht3⟩ := g3.fl.drop hok 0
        have hdr2 : ∀ ty, (Builtin.delete_ #[102, 3] ty #[.map (some a.fb), .int .i64 T]).run Tryz.prog y2 = .ok (.tuple #[]) y3 := fun _ => hdr
        obtain ⟨o4, g4, X4, K4⟩ := g3.setFl (Keeps.turned ht3) hm3
        have hb4 : b ≠ a.fb := fun e => by have h1 := HOF.out.1; have := HSZ.out a.fb (by omega); omega
        have HS3 := hide (hsl2.kept (Keeps.turned ht3) (fun g off e => by cases e; exact hb4))
        have HQ4 : Hid (Gq w o a c ({ s with dv := dK s.dv s.L (j + 1) } : Hs) (fK s.dv s.L (j + 1)) (gK s.dv s.L (s.m 2) (j + 1)) k y3) := by
          unfold Hid
          rw [HFE.out, HGE.out]
          exact Gq.trans HX.out HK0.out (Gq.trans X2 K2 (Gq.trans X3 K3 ⟨o4, g4, X4, K4⟩))
        clear HSL hd1 k1 htk c5 e0 HG0 X3 K3 X2 K2 X4 K4 g3 g4 hm2 ht2 hdr hm3 ht3 HX HK0 HFE HGE
        clear hk2
        clear hsl2 hsl1 g2
        go_wp2
        go_region_law (fail)
        all_goals
          go_wp2
          go_roundw
          case rel => exact ⟨j + 1, by omega, by go_num, rfl, HQ4.out, HS3.out⟩
          case measure => simp [intOf]; omega
    · have ej : j = Y.length := by omega
      subst ej
      obtain ⟨o1, g0, X0, K0⟩ := hq.out
      have hgg := (g0.lists (landL s.dv s.L))
      rw [HE.out.1, HE.out.2.1, HE.out.2.2.1] at hgg
      have hrf := HRF.out wr o1 hgg
      rw [← HLS.out] at hrf
      have HX := hide X0
      have HK0 := hide K0
      have hnn := HE.out.2.2.2
      clear HU HOK HTE HST HSB HFA HGK HE HRF HLS HSZ HOF HNW hgg g0 X0 K0 hsl hq
      rw [hnn]
      go_wp2_with fail
      refine hrf.mono ?_
      rintro e y2 ⟨rfl, hq2⟩
      have HF := hide (Gq.trans HX.out HK0.out hq2)
      clear hq2 hrf HX HK0
      go_wp2
      go_ret
      exact ⟨rfl, HF.out⟩
end
end Go.Proofs.YtfghfbmmaclcnaaGreat
