/- Parts of the proof: Ul Um. -/
import Derived.Test.YtfghfbmmaclcnaaGreatJ28
namespace Go.Proofs.YtfghfbmmaclcnaaGreat
set_option maxRecDepth 20000
open Go.RowKit
/-- The row of writes, the device and the count when the first i have been asked for. -/
def lR (d : Dv) (L : List Fy) (i : Nat) : List Fy := (L.take i).map (landY d) ++ L.drop i
def dR (d : Dv) (L : List Fy) (i : Nat) : Dv := landD d (L.take i)
def nR (d : Dv) (L : List Fy) (i : Nat) : Nat := landN d (L.take i)
theorem lR_len (d : Dv) (L : List Fy) (i : Nat) : (lR d L i).length = L.length := by
  unfold lR
  rw [List.length_append, List.length_map, List.length_take, List.length_drop]
  omega
theorem lR_at (d : Dv) (L : List Fy) {i : Nat} (hi : i < L.length) : getF (lR d L i) i = getF L i := by
  have h1 : (lR d L i)[i]? = L[i]? := by
    unfold lR
    rw [List.getElem?_append_right (by rw [List.length_map, List.length_take]; omega)]
    rw [List.length_map, List.length_take, List.getElem?_drop]
    congr 1
    omega
  simp only [getF, List.getD_eq_getElem?_getD, h1]
theorem lR_same {d : Dv} {L : List Fy} {i : Nat} (hi : i < L.length) (h : landY d (getF L i) = getF L i) : lR d L (i + 1) = lR d L i := by
  unfold lR
  rw [getF_take hi, List.map_append, List.map_singleton, h, List.append_assoc]
  congr 1
  have : L.drop i = getF L i :: L.drop (i + 1) := by
    rw [List.drop_eq_getElem_cons hi]
    congr 1
    simp [getF, List.getD_eq_getElem?_getD, hi]
  rw [this]; rfl
theorem lR_set {d : Dv} {L : List Fy} {i : Nat} (hi : i < L.length) (h : landY d (getF L i) = { getF L i with l := true }) : lR d L (i + 1) = (lR d L i).set i { getF L i with l := true } := by
  unfold lR
  rw [getF_take hi, List.map_append, List.map_singleton, h, List.append_assoc]
  have e : L.drop i = getF L i :: L.drop (i + 1) := by
    rw [List.drop_eq_getElem_cons hi]
    congr 1
    simp [getF, List.getD_eq_getElem?_getD, hi]
  rw [e, List.set_append_right _ _ (by rw [List.length_map, List.length_take]; omega)]
  congr 1
  rw [List.length_map, List.length_take, show i - min i L.length = 0 by omega]
  rfl
theorem dR_step (d : Dv) (L : List Fy) {i : Nat} (hi : i < L.length) : dR d L (i + 1) = if (getF L i).l = true then dR d L i else takeD (dR d L i) (getF L i).t := by
  unfold dR landD
  rw [getF_take hi, List.foldl_append]; rfl
theorem nR_step (d : Dv) (L : List Fy) {i : Nat} (hi : i < L.length) : nR d L (i + 1) = nR d L i + if tookB d (getF L i) = true then 1 else 0 := by
  unfold nR landN
  rw [getF_take hi, List.filter_append, List.length_append, List.filter_cons]
  split <;> simp
theorem dR_takeE {d : Dv} {L : List Fy} (h : L.Pairwise (fun x y => x.t < y.t)) {i : Nat} (hi : i < L.length) : takeE (dR d L i) (getF L i).t = takeE d (getF L i).t := by
  unfold dR
  rw [landD_is]
  refine dvK_takeE _ _ (fun y hy => ?_)
  have hy2 := (flyL_mem.1 hy).1
  obtain ⟨j, hj, rfl⟩ := List.mem_iff_getElem.1 hy2
  rw [List.length_take] at hj
  rw [List.pairwise_iff_getElem] at h
  have := h j i (by omega) hi (by omega)
  have e : getF L i = L[i] := by simp [getF, List.getD_eq_getElem?_getD, hi]
  rw [e, List.getElem_take]
  omega
theorem fysV_set (L : List Fy) {k : Nat} (hk : k < L.length) : fysV (L.set k { getF L k with l := true }) = (fysV L).set (k * 3 + 2) (.bool true) := flat_set fyV 3 fyV_len L k (getF L k) _ (getF_some hk) 2 (by omega) _ rfl
section
variable {w : World} {o : Nat → Nat} {a : Rd} {c : Cf} {s : Hs} {k : Nat}
/-- A write is marked as landed. -/
theorem Hr.setLanded (h : Hr w o a c s k) {g : Nat} {ao : Option Addr} {cap : Nat} (c6 : w.cell? ⟨a.l, 6, none⟩ = some (.slice ao s.L.length cap)) {i : Nat} (hi : i < s.L.length) (hg : ao = some ⟨g, 0, none⟩) :
    Rq19 w o a c { s with L := s.L.set i { getF s.L i with l := true } } k (w.setCell ⟨g, i * 3 + 2, none⟩ (.bool true)) := by
  obtain ⟨vf, h1, h2, h3⟩ := h.fl
  rw [c6] at h1
  cases h1
  subst hg
  have hog : o g = 17 := h3 g rfl
  have hne : g ≠ a.l := fun e => by rw [e, h.ol] at hog; omega
  have hl := h.lt
  have K : Keeps (fun x => x = g) w (w.setCell ⟨g, i * 3 + 2, none⟩ (.bool true)) := (Keeps.refl (fun x => x = g) w).setCell ⟨g, i * 3 + 2, none⟩ (fun _ => rfl) _
  have ho := own_set h2 (g := g) rfl (i * 3 + 2) (.bool true)
  refine ⟨o, h.upd (s' := { s with L := s.L.set i { getF s.L i with l := true } }) K 17 (fun x _ t => .inl (by rw [t]; exact hog)) (fun _ _ => rfl) (fun x e => Nat.lt_of_lt_of_le (h.sz x e) K.size) (Nat.le_refl _) (by omega) (.inr ⟨fun j hj => K.cell hl (fun e => hne e.symm), by rw [K.frozen hl (fun e => hne e.symm)]; exact h.f6⟩) (.inl ⟨rfl, rfl, by omega⟩) (.inl ⟨rfl, by omega⟩) (.inl ⟨rfl, by omega⟩) (.inl ⟨rfl, rfl, by omega⟩) (.inl ⟨rfl, by omega⟩) (.inl ⟨rfl, by omega⟩) (.inr ⟨_, ?_, ?_, h3⟩), ExtR.refl h.sz, K.wider (fun x _ t => by unfold Ow19; rw [t, hog]; omega)⟩
  · rw [K.cell hl (fun e => hne e.symm)]; exact c6
  · show World.ownsRow _ 0 _ 3 _ (s.L.set i { getF s.L i with l := true }).length (fysV (s.L.set i { getF s.L i with l := true }))
    rw [List.length_set, fysV_set s.L hi]
    exact ho
end
end Go.Proofs.YtfghfbmmaclcnaaGreat
namespace Go.Proofs.YtfghfbmmaclcnaaGreat
set_option maxRecDepth 20000
open Go.RowKit
theorem upM_id (v : Nat → Nat) (i : Nat) : upM v i (v i) = v := funext fun j => by
  unfold upM
  by_cases e : j = i
  · rw [if_pos e, e]
  · rw [if_neg e]
theorem upM_two (v : Nat → Nat) (i x y : Nat) : upM (upM v i x) i y = upM v i y := funext fun j => by
  unfold upM
  by_cases e : j = i
  · rw [if_pos e, if_pos e]
  · rw [if_neg e, if_neg e, if_neg e]
section
variable {w : World} {o : Nat → Nat} {a : Rd} {c : Cf} {s : Hs} {k : Nat}
theorem rl_isQ (h : Hr w o a c s k) (hlen : s.L.length ≤ 1000) (p : Int) (l : Bool) : Calls Tryz.prog 111 #[.pointer (some ⟨a.l, 0, none⟩), .int .i64 p, .bool l] w fun e w' => e = .returned (.bool (isL s.L p l)) ∧ ∃ q, w' = w.drewN q := by
  obtain ⟨ao, cap, c6, -, -, hcl⟩ := h.fly
  have HC := hide hcl
  obtain ⟨B, hB⟩ : ∃ B, isL s.L p l = B := ⟨_, rfl⟩
  rw [hB]
  have HY : Hid (∀ i, i < s.L.length → (getF s.L i).p = p → (getF s.L i).l = l → B = true) := fun i hi h1 h2 => by
    rw [← hB]; exact isL_iff.2 ⟨getF s.L i, List.mem_of_getElem? (getF_some hi), h1, h2⟩
  have HN : Hid ((∀ i, i < s.L.length → ¬ ((getF s.L i).p = p ∧ (getF s.L i).l = l)) → B = false) := fun hn => by
    rw [← hB]
    cases e : isL s.L p l with
    | false => rfl
    | true =>
      obtain ⟨y, hy, h1, h2⟩ := isL_iff.1 e
      obtain ⟨i, hi, e2⟩ := List.mem_iff_getElem.1 hy
      have e3 : getF s.L i = y := by rw [← e2]; simp [getF, List.getD_eq_getElem?_getD, hi]
      exact absurd ⟨by rw [e3]; exact h1, by rw [e3]; exact h2⟩ (hn i hi)
  clear hcl hB h
  generalize hNN : s.L.length = N at *
  go_enter Tryz.func111, Tryz.ntmps111
  go_wp2
  go_loopw [7] (fun v wr => ∃ j : Nat, j ≤ N ∧ v = .int .i64 j ∧ Hid (∀ i, i < j → ¬ ((getF s.L i).p = p ∧ (getF s.L i).l = l)) ∧ ∃ q, wr = w.drewN q) (fun v _ => N - (intOf v).toNat)
  case atStart => exact ⟨0, Nat.zero_le _, rfl, fun i hi => by omega, 0, rfl⟩
  case round =>
    obtain ⟨j, hj, rfl, hno, q, rfl⟩ := hrel
    by_cases hlt : j < N
    · obtain ⟨g, rfl, -, e0, e1, e2, -⟩ := HC.out j hlt
      have hY := HY.out j hlt
      have HK : Hid (¬ ((getF s.L j).p = p ∧ (getF s.L j).l = l) → ∀ i, i < j + 1 → ¬ ((getF s.L i).p = p ∧ (getF s.L i).l = l)) := fun h1 i hi => by
        by_cases e : i = j
        · subst e; exact h1
        · exact hno.out i (by omega)
      generalize getF s.L j = y at *
      obtain ⟨yt, yp, yl⟩ := y
      simp only at e0 e1 e2 hY HK
      clear HC HN HY hno
      by_cases h1 : yp = p
      · subst h1
        by_cases h2 : yl = l
        · subst h2
          have hb := hY rfl rfl
          subst hb
          clear HK hY
          go_wp2
          go_ret
          exact ⟨rfl, _, rfl⟩
        · have h2' : (yl == l) = false := by simpa using h2
          have HKK := hide (HK.out (fun e => h2 e.2))
          clear HK hY h2
          go_wp2
          go_roundw
          case rel => exact ⟨j + 1, by omega, by go_num, HKK.out, _, rfl⟩
          case measure => simp [intOf]; omega
      · have h1' : (yp == p) = false := by simpa using h1
        have HKK := hide (HK.out (fun e => h1 e.1))
        clear HK hY h1
        go_wp2
        go_roundw
        case rel => exact ⟨j + 1, by omega, by go_num, HKK.out, _, rfl⟩
        case measure => simp [intOf]; omega
    · have ej : j = N := by omega
      subst ej
      have hb := HN.out (fun i hi => hno.out i (by omega))
      subst hb
      clear HC HN HY hno
      go_wp2
      go_ret
      exact ⟨rfl, _, rfl⟩
set_option maxHeartbeats 4000000 in
theorem rl_land (h : Hr w o a c s k) (hw : Wf c s k) (hk : k ≤ 800) (hsp : c.sp ≤ 64) :
    Calls Tryz.prog 46 #[.pointer (some ⟨a.l, 0, none⟩)] w fun e w' => e = .returned (.int .i64 (landN s.dv s.L : Int)) ∧ Rq19 w o a c (landS s) k w' := by
  have hll := hw.llen (by omega)
  have hokt := hw.okt (by omega)
  have HY : Hid (∀ i, i < s.L.length → okI (getF s.L i).t ∧ ((getF s.L i).l = false → takeE (dR s.dv s.L i) (getF s.L i).t = 10 ∨ takeE (dR s.dv s.L i) (getF s.L i).t = 0)) := fun i hi => by
    have hm : getF s.L i ∈ s.L := List.mem_of_getElem? (getF_some hi)
    refine ⟨hokt _ hm, fun hl => ?_⟩
    rw [dR_takeE hw.tks hi]
    exact fly_take hw.off (hw.fly _ hm hl)
  have HST : Hid (∀ i, i < s.L.length → ((getF s.L i).l = true → lR s.dv s.L (i + 1) = lR s.dv s.L i ∧ dR s.dv s.L (i + 1) = dR s.dv s.L i ∧ nR s.dv s.L (i + 1) = nR s.dv s.L i) ∧ ((getF s.L i).l = false → dR s.dv s.L (i + 1) = takeD (dR s.dv s.L i) (getF s.L i).t ∧
      (takeE (dR s.dv s.L i) (getF s.L i).t = 10 → lR s.dv s.L (i + 1) = lR s.dv s.L i ∧ nR s.dv s.L (i + 1) = nR s.dv s.L i) ∧ (takeE (dR s.dv s.L i) (getF s.L i).t = 0 → lR s.dv s.L (i + 1) = (lR s.dv s.L i).set i { getF (lR s.dv s.L i) i with l := true } ∧ nR s.dv s.L (i + 1) = nR s.dv s.L i + 1))) := fun i hi => by
    rw [dR_takeE hw.tks hi, lR_at _ _ hi]
    refine ⟨fun hl => ?_, fun hl => ⟨?_, fun he => ?_, fun he => ?_⟩⟩
    · have ht : tookB s.dv (getF s.L i) = false := by unfold tookB; rw [hl]; rfl
      refine ⟨lR_same hi (by unfold landY; rw [ht]; rfl), ?_, ?_⟩
      · rw [dR_step _ _ hi, if_pos hl]
      · rw [nR_step _ _ hi, ht]; rfl
    · rw [dR_step _ _ hi, if_neg (by rw [hl]; decide)]
    · have ht : tookB s.dv (getF s.L i) = false := by unfold tookB; rw [he]; simp
      exact ⟨lR_same hi (by unfold landY; rw [ht]; rfl), by rw [nR_step _ _ hi, ht]; rfl⟩
    · have ht : tookB s.dv (getF s.L i) = true := by unfold tookB; rw [hl, he]; rfl
      exact ⟨lR_set hi (by unfold landY; rw [if_pos ht]), by rw [nR_step _ _ hi, if_pos ht]⟩
  have HN1 : Hid (∀ i, nR s.dv s.L i ≤ 1000) := fun i => by
    unfold nR landN
    refine Nat.le_trans (List.length_filter_le _ _) ?_
    rw [List.length_take]; omega
  have HE : Hid (lR s.dv s.L s.L.length = landL s.dv s.L ∧ dR s.dv s.L s.L.length = landD s.dv s.L ∧ nR s.dv s.L s.L.length = landN s.dv s.L) := by
    unfold Hid lR dR nR
    rw [List.take_length, List.drop_length, List.append_nil]
    exact ⟨rfl, rfl, rfl⟩
  have H0 : Hid (lR s.dv s.L 0 = s.L ∧ dR s.dv s.L 0 = s.dv ∧ nR s.dv s.L 0 = 0) := ⟨rfl, rfl, rfl⟩
  have hord := hw.ord
  have htop := hw.top
  have hp := hw.hp
  unfold OrdM at hord
  have HLE : Hid (∀ p : Nat, isL (landL s.dv s.L) (p : Int) true = true → p < s.m 1) := fun p e => by
    obtain ⟨y, hy, h1, -⟩ := isL_iff.1 e
    obtain ⟨z, hz, -, h2, -⟩ := landL_from hy
    have := hw.pl z hz
    omega
  have HUP := hide (fun j h1 h2 h3 h4 => upTo_at (landL s.dv s.L) j h1 64 (s.m 2) h2 h3 h4)
  have HLS := hide (fun j (e : upTo (landL s.dv s.L) (s.m 2) 64 = j) => (by unfold landS; rw [e] : landS s = ({ s with L := landL s.dv s.L, dv := landD s.dv s.L, m := upM s.m 2 j } : Hs)))
  have hm1 : s.m 1 ≤ 64 := by omega
  have hm21 : s.m 2 ≤ s.m 1 := by omega
  obtain ⟨N, hN⟩ : ∃ N, landN s.dv s.L = N := ⟨_, rfl⟩
  rw [hN] at HE ⊢
  obtain ⟨S', hS'⟩ : ∃ S', landS s = S' := ⟨_, rfl⟩
  rw [hS'] at HLS ⊢
  have hq0 : Rq19 w o a c ({ s with dv := dR s.dv s.L 0, L := lR s.dv s.L 0 } : Hs) k w := by rw [H0.out.1, H0.out.2.1]; exact h.here
  have HQ0 := hide hq0
  have hn0 : ((nR s.dv s.L 0 : Nat) : Int) = 0 := by rw [H0.out.2.2]; rfl
  have HN0 := hide hn0
  have hlen0 := hide (lR_len s.dv s.L)
  obtain ⟨ao0, cap0, c6, -⟩ := h.fly
  clear hS' hN hokt hord htop hp hq0 hn0 H0 h hw hsp
  go_enter Tryz.func46, Tryz.ntmps46
  go_wp2
  clear c6
  go_loopw [3, 4] (fun nv i wr => ∃ j : Nat, j ≤ s.L.length ∧ i = .int .i64 j ∧ nv = .int .i64 ((nR s.dv s.L j : Nat) : Int) ∧ Hid (Rq19 w o a c ({ s with dv := dR s.dv s.L j, L := lR s.dv s.L j } : Hs) k wr)) (fun _ i _ => s.L.length - (intOf i).toNat)
  case atStart => exact ⟨0, Nat.zero_le _, rfl, by rw [HN0.out], HQ0.out⟩
  case round =>
    clear HQ0 HN0
    obtain ⟨j, hj, rfl, rfl, hq⟩ := hrel
    obtain ⟨o1, g1, X1, K1⟩ := hq.out
    obtain ⟨ao, cap, c6, -, -, hcell⟩ := g1.fly
    have c6k := hide c6
    have hln : (lR s.dv s.L j).length = s.L.length := hlen0.out j
    simp only [hln] at c6 hcell
    by_cases hlt : j < s.L.length
    · obtain ⟨g, rfl, hog, e0, e1, e2, ef⟩ := hcell j hlt
      simp only [lR_at _ _ hlt] at e0 e1 e2
      obtain ⟨hok, hte⟩ := HY.out j hlt
      obtain ⟨hst1, hst2⟩ := HST.out j hlt
      have hNj := HN1.out j
      have hNj1 := HN1.out (j + 1)
      have HX := hide (fun s' k' w'' (q : Rq19 wr o1 a c s' k' w'') => Rq19.trans X1 K1 q)
      have H1 := hide g1
      have c5 := g1.c5
      clear hcell X1 K1 g1 hq
      cases hyl : (getF s.L j).l with
      | true =>
        obtain ⟨f1, f2, f3⟩ := hst1 hyl
        rw [hyl] at e2
        have HF : Hid (Rq19 w o a c ({ s with dv := dR s.dv s.L (j + 1), L := lR s.dv s.L (j + 1) } : Hs) k wr) := by unfold Hid; rw [f1, f2]; exact HX.out _ _ _ H1.out.here
        have HF3 := hide f3
        clear hst1 hst2 hte f1 f2 f3 HX H1 HY HST HN1 HE HLE HUP HLS hok hyl c6k
        generalize getF s.L j = yy at *
        go_wp2
        go_roundw
        case rel => exact ⟨j + 1, by omega, by go_num, by rw [HF3.out], HF.out⟩
        case measure => simp [intOf]; omega
      | false =>
        obtain ⟨f1, f2, f3⟩ := hst2 hyl
        have hte' := hte hyl
        rw [hyl] at e2
        obtain ⟨vi, vj, hrd, hvi, hvj⟩ := (H1.out.drew 1).dv
        have hll2 := H1.out.lt
        have hgl : g < wr.heap.size := World.block_lt_of_cell? wr _ e0
        have hng : ¬ RS a.v vj g := fun e => by
          rcases e with e | e
          · have := H1.out.ov; rw [e] at hog; omega
          · have := hvj g e; omega
        have hnl : ¬ RS a.v vj a.l := fun e => by
          have hl := H1.out.ol
          rcases e with e | e
          · have := H1.out.ov; rw [← e] at this; omega
          · have := hvj _ e; omega
        simp only at hrd
        have htk := ref_take' hrd (getF s.L j).t hok
        rcases hte' with e10 | e00
        · obtain ⟨q1, q2⟩ := f2 e10
          rw [e10, ← f1] at htk
          have HQ2 := hide (fun y2 (hd : RefD y2 a.v (dR s.dv s.L (j + 1)) vi vj) (k2 : Keeps (RS a.v vj) (wr.drewN 1) y2) => (by rw [q1]; exact HX.out _ _ _ (Rq19.after H1.out (below_drewN (Below.refl _ _) 1) ((H1.out.drew 1).setDv hvi hvj k2 hd (fun q e => .inl e) (fun q e => .inl e))) : Rq19 w o a c ({ s with dv := dR s.dv s.L (j + 1), L := lR s.dv s.L (j + 1) } : Hs) k y2))
          have HF3 := hide q2
          clear hst1 hst2 hte f1 f2 f3 q1 q2 HX H1 HY HST HN1 HE HLE HUP HLS hok hyl c6k hrd hvi hvj e10
          generalize getF s.L j = yy at *
          generalize takeS (dR s.dv s.L j) yy.t = ts at *
          go_wp2
          go_region_held3 (fun W => W.cell? ⟨a.l, 5, none⟩ = some (.pointer (some ⟨a.v, 0, none⟩)) ∧ W.cell? ⟨a.l, 6, none⟩ = some (.slice (some ⟨g, 0, none⟩) s.L.length cap) ∧ W.cell? ⟨g, j * 3, none⟩ = some (.int .i64 yy.t)) (first | assumption | go_keep) (first | (go_at_call 118; refine htk.mono ?_; rintro e y2 ⟨rfl, hd2, k2⟩; have d5 : y2.cell? ⟨a.l, 5, none⟩ = some (.pointer (some ⟨a.v, 0, none⟩)) := (k2.cell (p := ⟨a.l, 5, none⟩) hll2 hnl).trans c5; have d6 : y2.cell? ⟨a.l, 6, none⟩ = some (.slice (some ⟨g, 0, none⟩) s.L.length cap) := (k2.cell (p := ⟨a.l, 6, none⟩) hll2 hnl).trans c6; have x0 : y2.cell? ⟨g, j * 3, none⟩ = some (.int .i64 yy.t) := (k2.cell (p := ⟨g, j * 3, none⟩) hgl hng).trans e0))
          all_goals
           have HF := hide (HQ2.out y2 hd2 k2)
           clear hd2 k2 HQ2 htk
           go_wp2
           go_roundw
           case rel => exact ⟨j + 1, by omega, by go_num, by rw [HF3.out], HF.out⟩
           case measure => simp [intOf]; omega
        · obtain ⟨q1, q2⟩ := f3 e00
          rw [e00, ← f1] at htk
          have HSD := hide (fun y2 (hd : RefD y2 a.v (dR s.dv s.L (j + 1)) vi vj) (k2 : Keeps (RS a.v vj) (wr.drewN 1) y2) => (H1.out.drew 1).setDv hvi hvj k2 hd (fun q e => .inl e) (fun q e => .inl e))
          have wN : IntKind.i64.wrap (((nR s.dv s.L j : Nat) : Int) + 1) = ((nR s.dv s.L (j + 1) : Nat) : Int) := by rw [i64_small (by omega) (by omega), q2]; omega
          have HF1 := hide q1
          have HF3 := hide q2
          have H1k := hide H1.out
          clear hst1 hst2 hte f1 f2 f3 q1 q2 H1 HY HST HN1 HE HLE HUP HLS hok hyl hrd hvi hvj e00
          have HLE2 : Hid (getF (lR s.dv s.L j) j = getF s.L j) := lR_at _ _ hlt
          generalize hts : takeS (dR s.dv s.L j) (getF s.L j).t = ts at *
          clear hts
          go_wp2
          go_region_held3 (fun W => W.cell? ⟨a.l, 5, none⟩ = some (.pointer (some ⟨a.v, 0, none⟩)) ∧ W.cell? ⟨a.l, 6, none⟩ = some (.slice (some ⟨g, 0, none⟩) s.L.length cap) ∧ W.cell? ⟨g, j * 3, none⟩ = some (.int .i64 (getF s.L j).t)) (first | assumption | go_keep) (first | (go_at_call 118; refine htk.mono ?_; rintro e y2 ⟨rfl, hd2, k2⟩; have d5 : y2.cell? ⟨a.l, 5, none⟩ = some (.pointer (some ⟨a.v, 0, none⟩)) := (k2.cell (p := ⟨a.l, 5, none⟩) hll2 hnl).trans c5; have d6 : y2.cell? ⟨a.l, 6, none⟩ = some (.slice (some ⟨g, 0, none⟩) s.L.length cap) := (k2.cell (p := ⟨a.l, 6, none⟩) hll2 hnl).trans c6; have x0 : y2.cell? ⟨g, j * 3, none⟩ = some (.int .i64 (getF s.L j).t) := (k2.cell (p := ⟨g, j * 3, none⟩) hgl hng).trans e0))
          all_goals
           obtain ⟨o2, g2, X2, K2⟩ := HSD.out y2 hd2 k2
           have d6k : y2.cell? ⟨a.l, 6, none⟩ = some (.slice (some ⟨g, 0, none⟩) (lR s.dv s.L j).length cap) := by rw [hln]; exact d6
           have x2 : y2.cell? ⟨g, j * 3 + 2, none⟩ = some (.bool false) := (k2.cell (p := ⟨g, j * 3 + 2, none⟩) hgl hng).trans e2
           have xf : y2.frozen? ⟨g, j * 3 + 2, none⟩ = false := (k2.frozen (p := ⟨g, j * 3 + 2, none⟩) hgl hng).trans ef
           have hsl := g2.setLanded (i := j) (g := g) d6k (show j < (lR s.dv s.L j).length by rw [hln]; exact hlt) rfl
           have HF : Hid (Rq19 w o a c ({ s with dv := dR s.dv s.L (j + 1), L := lR s.dv s.L (j + 1) } : Hs) k (y2.setCell ⟨g, j * 3 + 2, none⟩ (.bool true))) := by
             unfold Hid
             rw [HF1.out]
             exact HX.out _ _ _ (Rq19.after H1k.out (below_drewN (Below.refl _ _) 1) (Rq19.trans X2 K2 hsl))
           clear hd2 k2 HSD htk g2 X2 K2 hsl HX d6k c6k H1k
           go_wp2
           go_roundw
           case rel => exact ⟨j + 1, by omega, by go_num, by rw [HF3.out], HF.out⟩
           case measure => simp [intOf]; omega
    · have ej : j = s.L.length := by omega
      subst ej
      obtain ⟨d1, d2, d3⟩ := HE.out
      have hz2 : Rq19 w o a c ({ s with dv := landD s.dv s.L, L := landL s.dv s.L } : Hs) k wr := by have z := hq.out; rw [d1, d2] at z; exact z
      have hmu : upM s.m 2 (s.m 2) = s.m := upM_id _ _
      have hz3 : Rq19 w o a c ({ s with dv := landD s.dv s.L, L := landL s.dv s.L, m := upM s.m 2 (s.m 2) } : Hs) k wr := by rw [hmu]; exact hz2
      have hl1 : (landL s.dv s.L).length ≤ 1000 := by rw [← d1, hlen0.out]; exact hll
      have HLL := hide hl1
      have HQ := hide hz3
      rw [d3]
      clear hcell X1 K1 g1 hq c6k HY HST HN1 HE d1 d2 d3 hz2 hz3 hmu hl1 hlen0
      generalize landL s.dv s.L = LL at *
      generalize landD s.dv s.L = DD at *
      go_wp2
      go_loopw [] (fun wx => ∃ q : Nat, s.m 2 ≤ q ∧ q ≤ s.m 1 ∧ Hid (∀ i, s.m 2 ≤ i → i < q → isL LL (i : Int) true = true) ∧ Hid (Rq19 w o a c ({ s with dv := DD, L := LL, m := upM s.m 2 q } : Hs) k wx)) (fun wx => s.m 1 - (intOf ((wx.cell? ⟨a.m, 2, none⟩).getD (.int .i64 0))).toNat)
      case atStart => exact ⟨s.m 2, Nat.le_refl _, hm21, fun i h1 h2 => by omega, HQ.out⟩
      case round =>
        clear HQ c6
        obtain ⟨q, hq1, hq2, hall, hq⟩ := hrel
        obtain ⟨o1, g1, X1, K1⟩ := hq.out
        have c2 := g1.c2
        have m2c := g1.mm.c 2 (by omega)
        have m1c := g1.mm.c 1 (by omega)
        simp only [upM_same] at m2c
        simp only [upM_other _ _ _ _ (show (1 : Nat) ≠ 2 by decide)] at m1c
        have his := rl_is (g1.drew 1) HLL.out (q : Int) true
        have HX := hide (fun s' k' w'' (z : Rq19 wr o1 a c s' k' w'') => Rq19.trans X1 K1 z)
        have H1 := hide g1
        clear X1 K1 g1
        cases hb : isL LL (q : Int) true with
        | true =>
          have hlt := HLE.out q hb
          have HALL : Hid (∀ i, s.m 2 ≤ i → i < q + 1 → isL LL (i : Int) true = true) := fun i g1 g2 => by
            by_cases e : i = q
            · subst e; exact hb
            · exact hall.out i g1 (by omega)
          have hb' : isL ({ s with dv := DD, L := LL, m := upM s.m 2 q } : Hs).L (q : Int) true = true := hb
          rw [hb'] at his
          have hup := upM_two s.m 2 q (q + 1)
          have HUPQ := hide hup
          clear HLE HUP HLS hb hb' hall hup hq
          have hdec : decide (q < s.m 1) = true := decide_eq_true hlt
          go_wp2
          go_region_held3 (fun W => W.cell? ⟨a.l, 2, none⟩ = some (.pointer (some ⟨a.m, 0, none⟩)) ∧ W.cell? ⟨a.m, 2, none⟩ = some (.int .i64 (q : Int)) ∧ W.cell? ⟨a.m, 1, none⟩ = some (.int .i64 (s.m 1 : Int))) (first | assumption | go_keep) (first | (go_at_call 111; refine his.mono ?_; rintro e y ⟨rfl, b⟩; have g2 := (H1.out.drew 1).below b; have c2y := g2.c2; have m2y := g2.mm.c 2 (by omega); have m1y := g2.mm.c 1 (by omega); simp only [upM_same] at m2y; simp only [upM_other _ _ _ _ (show (1 : Nat) ≠ 2 by decide)] at m1y; have hg2 := hide g2; clear g2))
          all_goals
           have fy := hg2.out.mm.f 2 (by omega)
           have hwr : IntKind.i64.wrap ((q : Int) + 1) = ((q + 1 : Nat) : Int) := by rw [i64_small (by omega) (by omega)]; omega
           have HWR := hide hwr
           have HF : Hid (Rq19 w o a c ({ s with dv := DD, L := LL, m := upM s.m 2 (q + 1) } : Hs) k (y.setCell ⟨a.m, 2, none⟩ (.int .i64 (IntKind.i64.wrap ((q : Int) + 1))))) := by
             unfold Hid
             rw [← HUPQ.out, hwr]
             exact HX.out _ _ _ (Rq19.after H1.out ((below_drewN (Below.refl _ _) 1).trans b) (hg2.out.setMk keep_m (hg2.out.mm.word 2 (q + 1) (by omega))))
           clear his b hg2 HX H1 HUPQ hdec hwr
           go_wp2
           go_region_law (fail)
           all_goals
            go_wp2
            go_roundw
            case rel => exact ⟨q + 1, by omega, by omega, HALL.out, by first | exact HF.out | exact HF.out.below (below_drewN (Below.refl _ _) 1) | exact HF.out.below (below_drewN (Below.refl _ _) 2)⟩
            case measure =>
              show s.m 1 - (intOf (((y.setCell ⟨a.m, 2, none⟩ (.int .i64 (IntKind.i64.wrap ((q : Int) + 1)))).cell? ⟨a.m, 2, none⟩).getD (.int .i64 0))).toNat < _
              rw [World.cell?_setCell_same _ _ _ m2y, m2c, HWR.out]
              simp [intOf]; omega
        | false =>
          have hb' : isL ({ s with dv := DD, L := LL, m := upM s.m 2 q } : Hs).L (q : Int) true = false := hb
          rw [hb'] at his
          have hs := HLS.out q (HUP.out q hb hq1 (by omega) hall.out)
          subst hs
          have HB := hide (fun (y : World) (bb : Below wr.heap.size wr y) => HX.out _ _ _ (H1.out.here.below bb))
          have hisq : ∀ kk, Calls Tryz.prog 111 #[.pointer (some ⟨a.l, 0, none⟩), .int .i64 q, .bool true] (wr.drewN kk) fun e w' => e = .returned (.bool false) ∧ ∃ m, w' = (wr.drewN kk).drewN m := fun kk => by
            have z := rl_isQ (H1.out.drew kk) HLL.out (q : Int) true
            rw [hb'] at z; exact z
          clear HLE HUP hb hb' hall hq HX H1 his
          go_wp2
          go_quiet ((go_at_call 111; exact Calls.quiet_of (hisq _)))
          go_wp2
          go_ret
          exact ⟨rfl, HB.out _ (below_drewN (Below.refl _ _) _)⟩
end
end Go.Proofs.YtfghfbmmaclcnaaGreat
