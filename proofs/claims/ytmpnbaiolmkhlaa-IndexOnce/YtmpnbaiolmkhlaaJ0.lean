/- slices.DeleteFunc with isFresh. -/
import Derived.Test.YtmpnbaiolmkhlaaIz
namespace Go.Proofs.Ytmpnbaiolmkhlaa
set_option maxRecDepth 20000
open Go.RowKit
/-- What is kept between the rounds. -/
structure DlIs (w wr : World) (base p : Nat) (l : List Nat) (i j : Nat) : Prop where
  lt : i < j ∧ j ≤ l.length
  len : ((l.take j).filter (fun x => !ixFresh x)).length = i
  row : ∃ z, RwC wr p l.length z ∧ (∀ t, t < i → z t = ((l.take j).filter (fun x => !ixFresh x)).getD t 0) ∧ (∀ t, j ≤ t → t < l.length → z t = l.getD t 0)
  bel : Below base w wr
theorem DlIs.skip {w wr w' : World} {base p : Nat} {l : List Nat} {i j : Nat} (h : DlIs w wr base p l i j) (hb : Below wr.heap.size wr w') (hbase : base ≤ wr.heap.size) (hj : j < l.length) (hf : ixFresh (l.getD j 0) = true) : DlIs w w' base p l i (j + 1) := by
  have e := take_filter hj (fun x => !ixFresh x)
  rw [hf] at e
  simp only [Bool.not_true, Bool.false_eq_true, if_false, List.append_nil] at e
  obtain ⟨z, h1, h2, h3⟩ := h.row
  exact ⟨by have := h.lt; omega, by rw [e]; exact h.len, ⟨z, h1.below hb, by rw [e]; exact h2, fun t a b => h3 t (by omega) b⟩, h.bel.trans (hb.mono hbase)⟩
theorem DlIs.put {w wr w' : World} {base p : Nat} {l : List Nat} {i j : Nat} (h : DlIs w wr base p l i j) (hb : Below wr.heap.size wr w') (hbase : base ≤ wr.heap.size) (hp : base ≤ p) (hj : j < l.length) (hf : ixFresh (l.getD j 0) = false) : DlIs w (w'.setCell ⟨p, i, none⟩ (.int .u64 (l.getD j 0 : Int))) base p l (i + 1) (j + 1) := by
  have e := take_filter hj (fun x => !ixFresh x)
  rw [hf] at e
  simp only [Bool.not_false, if_true] at e
  obtain ⟨z, h1, h2, h3⟩ := h.row
  have hlt := h.lt
  have hlen := h.len
  refine ⟨by omega, by rw [e, List.length_append, hlen]; rfl, ⟨ixUpd z i (l.getD j 0), (h1.below hb).put i _ (by omega), fun t ht => ?_, fun t a b => ?_⟩, (h.bel.trans (hb.mono hbase)).setCell (p := ⟨p, i, none⟩) hp _⟩
  · rw [e, getD_snoc, hlen]
    by_cases et : t = i
    · subst et; rw [ixUpd_same, if_pos rfl]
    · rw [ixUpd_ne et, if_neg et]; exact h2 t (by omega)
  · rw [ixUpd_ne (by omega)]; exact h3 t (by omega) b
set_option maxHeartbeats 4000000 in
theorem sDelete {w : World} {base : Nat} {ao : Option Addr} {cap : Nat} {l : List Nat} (h : OwN w base (.slice ao l.length cap) l) (hbase : base ≤ w.heap.size) (hl : l.length ≤ 20000) (hy : ∀ y ∈ l, IxEn y) :
    Calls Try.prog 31 #[.slice ao l.length cap, .func (.func 32) #[] #[]] w fun e w' => ∃ ao' cap', e = .returned (.slice ao' (l.filter (fun x => !ixFresh x)).length cap') ∧ (l.filter (fun x => !ixFresh x)).length ≤ cap' ∧ Sl .u64 w' ao' (l.filter (fun x => !ixFresh x)).length (fun t => ((l.filter (fun x => !ixFresh x)).getD t 0 : Int)) ∧ (∀ q off, ao' = some ⟨q, off, none⟩ → off = 0 ∧ base ≤ q ∧ q < w'.heap.size) ∧ Below base w w' := by
  have hsl : Sl .u64 w ao l.length (fun t => (l.getD t 0 : Int)) := by
    obtain ⟨ao2, cap2, e, hs⟩ := own_slU h rfl
    cases e
    intro j hj
    obtain ⟨b, off, h1, h2⟩ := hs j hj
    exact ⟨b, off, h1, by simp only [List.getD_eq_getElem?_getD]; exact h2⟩
  have hab : ∀ q off, ao = some ⟨q, off, none⟩ → off = 0 ∧ base ≤ q ∧ q < w.heap.size ∧ l.length ≤ cap := fun q off e => by
    subst e
    rcases h.2 with ⟨e, _⟩ | ⟨g, cap', cur, e, hb, hg, hc, _⟩
    · cases e
    · cases e
      refine ⟨rfl, hb, ?_, hc⟩
      rcases Nat.lt_or_ge q w.heap.size with hlt | hge
      · exact hlt
      · rw [Array.getElem?_eq_none hge] at hg; cases hg
  have hcp : l.length ≤ cap := by
    rcases h.2 with ⟨e, h0⟩ | ⟨g, cap', cur, e, hb, hg, hc, _⟩
    · omega
    · cases e; exact hc
  have HIF := hide (sIndexFunc (cap := cap) hsl hl hy)
  have HW := fun hn => h.rwc hn
  have HAB := hide hab
  have HSL := hide hsl
  have HY := hide hy
  obtain ⟨K, HK⟩ : ∃ K, Hid (l.filter (fun x => !ixFresh x) = K) := ⟨_, rfl⟩
  rw [HK.out]
  have HWW := hide HW
  clear h hsl hab hy HW
  go_enter Try.func31, Try.ntmps31
  go_wp2_with fail
  refine HIF.out.mono ?_
  rintro e y (⟨i0, hi0, rfl, hf0, hk0, b1⟩ | ⟨rfl, hk, b1⟩)
  · obtain ⟨p, hao, hbp, hcap, hrw⟩ := HWW.out (by omega)
    have hne : ((i0 : Int) == -1) = false := by rw [beq_eq_false_iff_ne]; omega
    have hD : DlIs w y base p l i0 (i0 + 1) := by
      have e := take_filter hi0 (fun x => !ixFresh x)
      rw [hf0, hk0] at e
      simp only [Bool.not_true, Bool.false_eq_true, if_false, List.append_nil] at e
      refine ⟨by omega, by rw [e, List.length_take]; omega, ⟨_, hrw.below b1, fun t ht => ?_, fun t a b => rfl⟩, b1.mono hbase⟩
      rw [e, List.getD_eq_getElem?_getD, List.getD_eq_getElem?_getD, List.getElem?_take, if_pos ht]
    subst hao
    clear hrw hf0 hk0 HSL HIF HWW
    go_wp2
    go_loopw [5, 6] (fun vi vj wr => ∃ i j : Nat, vi = .int .i64 (i : Int) ∧ vj = .int .i64 (j : Int) ∧ DlIs w wr base p l i j) (fun _ vj _ => l.length - (intOf vj).toNat)
    case atStart => exact ⟨i0, i0 + 1, rfl, by go_num, hD⟩
    case round =>
      clear hD
      obtain ⟨i, j, rfl, rfl, hd⟩ := hrel
      obtain ⟨hij, hjl⟩ := hd.lt
      have hbs : base ≤ wr.heap.size := Nat.le_trans hbase hd.bel.size
      by_cases hlt : j < l.length
      · obtain ⟨z, hz, z1, z2⟩ := hd.row
        have cj := hz.cs j hlt
        have ci := hz.cs i (by omega)
        have fi := hz.fs i (by omega)
        rw [z2 j (Nat.le_refl _) hlt] at cj
        have HC := hide (is_fresh (l.getD j 0) (HY.out _ (getD_mem hlt)) wr)
        have hpl := hz.lt
        have HD := hide hd
        have HSK : Hid (∀ w', Below wr.heap.size wr w' → ixFresh (l.getD j 0) = true → DlIs w w' base p l i (j + 1)) := fun w' hb hf => HD.out.skip hb hbs hlt hf
        have HPU : Hid (∀ w', Below wr.heap.size wr w' → ixFresh (l.getD j 0) = false → DlIs w (w'.setCell ⟨p, i, none⟩ (.int .u64 (l.getD j 0 : Int))) base p l (i + 1) (j + 1)) := fun w' hb hf => HD.out.put hb hbs hbp hlt hf
        clear hz z1 z2 hd
        generalize l.getD j 0 = yv at *
        have hil : (i : Int) < (l.length : Int) := by omega
        cases hq : ixFresh yv with
        | true =>
          rw [hq] at HC
          go_wp2_with fail
          refine HC.out.mono ?_
          rintro e z ⟨rfl, bz⟩
          go_wp2
          go_roundw
          case rel => exact ⟨i, j + 1, rfl, by go_num, HSK.out _ bz hq⟩
          case measure => simp [intOf]; omega
        | false =>
          rw [hq] at HC
          go_wp2_with fail
          refine HC.out.mono ?_
          rintro e z ⟨rfl, bz⟩
          have ci' := (bz.cell (p := ⟨p, i, none⟩) hpl).trans ci
          have fi' := (bz.frozen (p := ⟨p, i, none⟩) hpl).trans fi
          have HP2 := hide (HPU.out z bz hq)
          clear ci fi cj HC
          go_wp2
          go_roundw
          case rel => exact ⟨i + 1, j + 1, by go_num, by go_num, HP2.out⟩
          case measure => simp [intOf]; omega
      · have e : j = l.length := by omega
        subst e
        obtain ⟨z, hz, z1, z2⟩ := hd.row
        have hlen := hd.len
        rw [List.take_length, HK.out] at hlen z1
        have hcl : (Builtin.clear_ #[37] 0 #[.slice (some ⟨p, i, none⟩) (l.length - i) (cap - i)]).run Try.prog wr = .ok (.tuple #[]) (wr.setCells p i (List.replicate (l.length - i) (.int .u64 0))) :=
          Go.Lib.run_clear_slice wr 37 32 0 (.int .u64 0) Try.underlying37 Try.zeroValue32 rfl rfl p i (l.length - i) (cap - i) (by omega) (fun j hj => by rw [hz.cs (i + j) (by omega)]; rfl) (fun j hj => hz.fs (i + j) (by omega))
        have KS := keeps_setCells (S := fun k => base ≤ k) p hbp (List.replicate (l.length - i) (.int .u64 0)) i wr
        have hsl' : ∀ t, t < i → (wr.setCells p i (List.replicate (l.length - i) (.int .u64 0))).cell? ⟨p, 0 + t, none⟩ = some (.int .u64 (K.getD t 0 : Int)) := fun t ht => by
          rw [Nat.zero_add, World.cell?_setCells_out p _ i wr ⟨p, t, none⟩ (fun _ _ => .inl ht), hz.cs t (by omega), z1 t ht]
        have hpl := hz.lt
        have BL := hd.bel
        clear hz z1 z2 hd
        have hci : ¬ cap = i := by omega
        have hc0 : ¬ cap = 0 := by omega
        have HLN := hide hlen
        go_wp2
        go_ret
        refine ⟨some ⟨p, 0, none⟩, cap, by rw [HLN.out]; rfl, by omega, ?_, fun q off e => ?_, BL.trans (KS.below hbs (fun _ h => h))⟩
        · intro t ht
          exact ⟨p, 0, rfl, hsl' t (by omega)⟩
        · cases e
          exact ⟨rfl, hbp, Nat.lt_of_lt_of_le hpl KS.size⟩
  · rw [HK.out] at hk
    subst hk
    go_wp2
    go_ret
    exact ⟨ao, cap, rfl, hcp, HSL.out.below b1, fun q off e => ⟨(HAB.out q off e).1, (HAB.out q off e).2.1, Nat.lt_of_lt_of_le (HAB.out q off e).2.2.1 b1.size⟩, b1.mono hbase⟩
end Go.Proofs.Ytmpnbaiolmkhlaa
