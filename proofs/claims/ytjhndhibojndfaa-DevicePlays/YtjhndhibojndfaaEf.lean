/- The reference: Ask. -/
import Derived.Test.YtjhndhibojndfaaEe
namespace Go.Proofs.Ytjhndhibojndfaa
open Go.RowKit
theorem RefD.pushJob {x y : World} {m : Nat} {d : Dv} {vi vj : Value} (h : RefD x m d vi vj) {o : Obj} {g cap' : Nat} {j : Job} (hown : y.ownsRow (m + 1) 70 6 (.slice (some ⟨g, 0, none⟩) (d.jobs.length + 1) cap') (d.jobs.length + 1) (jobsV d.jobs ++ [.int .i64 j.b.1, .int .i64 j.b.2, .bool j.wr, .string j.s, .bool j.no, .int .i64 (j.st : Nat)]))
    (hg : (x.alloc o).grownBy y vj.ownBlock) (hat : vj.ownBlock = some g ∨ x.heap.size ≤ g) (gd : Good { d with jobs := d.jobs ++ [j] }) :
    (y.cell? ⟨m, 2, none⟩ = some vj ∧ y.frozen? ⟨m, 2, none⟩ = false) ∧ RefD (y.setCell ⟨m, 2, none⟩ (.slice (some ⟨g, 0, none⟩) (d.jobs.length + 1) cap')) m { d with jobs := d.jobs ++ [j] } vi (.slice (some ⟨g, 0, none⟩) (d.jobs.length + 1) cap') ∧ Below m x (y.setCell ⟨m, 2, none⟩ (.slice (some ⟨g, 0, none⟩) (d.jobs.length + 1) cap')) := by
  have hl := h.lt
  have K1 : Keeps (fun k => vj.ownBlock = some k) x y := ((Keeps.refl (fun k => vj.ownBlock = some k) x).alloc o).grown hg (fun k hk _ => hk)
  have nm : ¬ vj.ownBlock = some m := fun e => by have := (h.gj e).1; omega
  have a0 : y.cell? ⟨m, 0, none⟩ = some (.bool d.off) := by rw [K1.cell hl nm]; exact h.c0
  have a1 : y.cell? ⟨m, 1, none⟩ = some vi := by rw [K1.cell hl nm]; exact h.c1
  have a2 : y.cell? ⟨m, 2, none⟩ = some vj := by rw [K1.cell hl nm]; exact h.c2
  have b0 : y.frozen? ⟨m, 0, none⟩ = false := by rw [K1.frozen hl nm]; exact h.f0
  have b1 : y.frozen? ⟨m, 1, none⟩ = false := by rw [K1.frozen hl nm]; exact h.f1
  have b2 : y.frozen? ⟨m, 2, none⟩ = false := by rw [K1.frozen hl nm]; exact h.f2
  have hgm : m + 1 ≤ g := by
    rcases hat with e | e
    · exact (h.gj e).1
    · omega
  have K2 : Keeps (fun k => k = m) y (y.setCell ⟨m, 2, none⟩ (.slice (some ⟨g, 0, none⟩) (d.jobs.length + 1) cap')) := (Keeps.refl (fun k => k = m) y).setCell ⟨m, 2, none⟩ (fun _ => rfl) _
  refine ⟨⟨a2, b2⟩, ⟨?_, ?_, World.cell?_setCell_same _ _ _ a2, ?_, ?_, ?_, ?_, ?_, fun q e e' => ?_, gd⟩, ?_⟩
  · rw [World.cell?_setCell_other _ _ _ _ (by simp)]; exact a0
  · rw [World.cell?_setCell_other _ _ _ _ (by simp)]; exact a1
  · rw [World.frozen?_setCell]; exact b0
  · rw [World.frozen?_setCell]; exact b1
  · rw [World.frozen?_setCell]; exact b2
  · exact own_keep (own_keep h.oi K1 (fun q e => h.ne q e)) K2 (fun q e e' => by have := (h.gi e).1; omega)
  · have ho := own_keep hown K2 (fun q e e' => by simp [Value.ownBlock] at e; omega)
    simp only
    rw [jobsV_snoc, List.length_append]
    exact ho
  · simp [Value.ownBlock] at e'
    subst e'
    rcases hat with e2 | e2
    · exact h.ne g e e2
    · have := (h.gi e).2; omega
  · exact ((K1.wider (T := fun k => m ≤ k) (fun k _ e => Nat.le_trans (Nat.le_succ _) (h.gj e).1)).trans K2 (fun k _ e => by omega)).below (Nat.le_of_lt hl) (fun k e => e)
/-- Is there a write of the block under way? -/
def hits (wr : Bool) (b : Bk) (j : Job) : Prop := wr = true ∧ j.st = 0 ∧ j.wr = true ∧ j.b = b
theorem askE_hit {d : Dv} {b : Bk} {wr : Bool} {s : ByteArray} (ho : d.off = false) (hb : okB b = true) (hs : ¬ 131072 < s.size) {k : Nat} (hk : k < d.jobs.length) (h : hits wr b (getJ d.jobs k)) : askE d b wr s = 10 := by
  obtain ⟨h1, h2, h3, h4⟩ := h
  have hm : k + 1 ∈ tk (fun j => j.wr && decide (j.b = b)) d.jobs := tk_mem.2 ⟨getJ d.jobs k, by rw [jobAt_getJ (by omega) (by omega)]; congr 2; omega, h2, by simp [h3, h4]⟩
  have hp := List.length_pos_of_mem hm
  unfold askE
  rw [if_neg (by rw [ho]; simp), if_neg (by rw [hb]; simp), if_neg hs, if_pos ⟨h1, by omega⟩]
theorem askE_miss {d : Dv} {b : Bk} {wr : Bool} {s : ByteArray} (ho : d.off = false) (hb : okB b = true) (hs : ¬ 131072 < s.size) (h : ∀ k, k < d.jobs.length → ¬ hits wr b (getJ d.jobs k)) : askE d b wr s = if 32 ≤ (tk (fun _ => true) d.jobs).length then 9 else 0 := by
  unfold askE
  rw [if_neg (by rw [ho]; simp), if_neg (by rw [hb]; simp), if_neg hs, if_neg]
  rintro ⟨h1, h2⟩
  obtain ⟨n, hn⟩ := List.exists_mem_of_length_pos (Nat.pos_of_ne_zero h2)
  obtain ⟨j, k1, k2, k3⟩ := tk_mem.1 hn
  have hl := jobAt_lt k1
  rw [jobAt_getJ hl.1 hl.2.1] at k1
  cases k1
  simp only [Bool.and_eq_true, decide_eq_true_eq] at k3
  exact h _ (by omega) ⟨h1, k2, k3.1, k3.2⟩
theorem cell_6 (w : World) (a b c d e f : Value) (t : TypeId) : ∀ j u, [a, b, c, d, e, f][j]? = some u → (w.alloc (.cells #[a, b, c, d, e, f] t)).cell? ((⟨w.heap.size, 0, none⟩ : Addr).add j) = some u := by
  intro j u hj
  match j, hj with
  | 0, hj => simp at hj; subst hj; simp [Addr.add]
  | 1, hj => simp at hj; subst hj; simp [Addr.add]
  | 2, hj => simp at hj; subst hj; simp [Addr.add]
  | 3, hj => simp at hj; subst hj; simp [Addr.add]
  | 4, hj => simp at hj; subst hj; simp [Addr.add]
  | 5, hj => simp at hj; subst hj; simp [Addr.add]
set_option maxHeartbeats 4000000 in
set_option maxRecDepth 10000 in
theorem ref_ask {w : World} {m : Nat} {d : Dv} {vi vj : Value} (h : RefD w m d vi vj) (b : Bk) (wr : Bool) (s : ByteArray) (hj : d.jobs.length < 1000) :
    Calls Try.prog 23 #[.pointer (some ⟨m, 0, none⟩), bkV b, .bool wr, .string s] w fun e w' => e = .returned (.tuple #[.int .i64 (askT d b wr s), .int .i64 (askE d b wr s)]) ∧ (∃ vj', RefD w' m (askD d b wr s) vi vj') ∧ Below m w w' := by
  obtain ⟨i0, hi, hz0, hz1, hz2⟩ := info_parts Try.infoJb
  have hT : askT d b wr s = if askE d b wr s = 0 then (d.jobs.length : Int) + 1 else 0 := rfl
  have hD : askD d b wr s = if askE d b wr s = 0 then { d with jobs := d.jobs ++ [⟨b, wr, s, false, 0⟩] } else d := rfl
  have hgd := h.good.ask b wr s hj
  have hm := h.lt
  have h1 := h.alloc (.cells #[.int .i64 b.1, .int .i64 b.2] 32)
  have b1 := (Below.refl w.heap.size w).alloc (Nat.le_refl _) (.cells #[.int .i64 b.1, .int .i64 b.2] 32)
  have hmay := ref_may (w.alloc (.cells #[.int .i64 b.1, .int .i64 b.2] 32)) b
  have c0 := h1.c0
  cases ho : d.off with
  | true =>
    have e : askE d b wr s = 6 := by simp [askE, ho]
    rw [hT, hD, e]
    rw [ho] at c0
    obtain ⟨a, n⟩ := b
    simp only [bkV] at *
    have H1 := hide h1
    have HB := hide b1
    clear h h1 b1 hT hD e hgd hmay ho
    go_enter Try.func23, Try.ntmps23
    go_wp2
    go_ret2
    exact ⟨rfl, ⟨_, H1.out⟩, HB.out.mono (Nat.le_of_lt hm)⟩
  | false =>
  rw [ho] at c0
  cases hok : okB b with
  | false =>
    have e : askE d b wr s = 1 := by simp [askE, ho, hok]
    rw [hT, hD, e]
    rw [hok] at hmay
    obtain ⟨a, n⟩ := b
    simp only [bkV] at *
    have H1 := hide h1
    have HB := hide b1
    clear h h1 b1 hT hD e hgd hok ho
    go_enter Try.func23, Try.ntmps23
    go_wp2_with fail
    refine hmay.mono ?_
    rintro e x ⟨rfl, b2⟩
    go_wp2
    go_ret2
    exact ⟨rfl, ⟨_, H1.out.below b2⟩, (HB.out.trans (b2.mono HB.out.size)).mono (Nat.le_of_lt hm)⟩
  | true =>
  rw [hok] at hmay
  by_cases hs : 131072 < s.size
  · have e : askE d b wr s = 5 := by simp [askE, ho, hok, hs]
    rw [hT, hD, e]
    obtain ⟨a, n⟩ := b
    simp only [bkV] at *
    have H1 := hide h1
    have HB := hide b1
    clear h h1 b1 hT hD e hgd hok ho
    go_enter Try.func23, Try.ntmps23
    go_wp2_with fail
    refine hmay.mono ?_
    rintro e x ⟨rfl, b2⟩
    go_wp2
    go_ret2
    exact ⟨rfl, ⟨_, H1.out.below b2⟩, (HB.out.trans (b2.mono HB.out.size)).mono (Nat.le_of_lt hm)⟩
  have HIT := hide (fun k hk hh => askE_hit (d := d) (b := b) (wr := wr) (s := s) ho hok hs (k := k) hk hh)
  have MISS := hide (fun hh => askE_miss (d := d) (b := b) (wr := wr) (s := s) ho hok hs hh)
  have HGD := hide hgd
  have HT := hide hT
  have HD := hide hD
  obtain ⟨a, n⟩ := b
  simp only [bkV] at *
  have H1 := hide h1
  have HB := hide b1
  clear h h1 b1 hT hD hgd hok ho
  generalize askT d (a, n) wr s = AT at *
  generalize askD d (a, n) wr s = AD at *
  generalize askE d (a, n) wr s = AE at *
  go_enter Try.func23, Try.ntmps23
  go_wp2_with fail
  refine hmay.mono ?_
  rintro e x ⟨rfl, b2⟩
  have p0 : x.cell? ⟨w.heap.size, 0, none⟩ = some (.int .i64 a) := by rw [b2.cell (by simp)]; simp
  have p1 : x.cell? ⟨w.heap.size, 1, none⟩ = some (.int .i64 n) := by rw [b2.cell (by simp)]; simp
  have HX := hide (H1.out.below b2)
  have HBX := hide ((HB.out.trans (b2.mono HB.out.size)).mono (Nat.le_of_lt hm))
  clear H1 HB b2 hmay c0
  obtain ⟨ao, cap, hv, hc1, hc2, hjb⟩ := HX.out.job
  have c2 := HX.out.c2
  rw [hv] at c2
  have HJ := hide hjb
  clear hjb
  generalize hLL : d.jobs.length = J at *
  go_wp2
  generalize hbb : w.heap.size = B at *
  go_loopw [10] (fun v y => ∃ k : Nat, k ≤ J ∧ v = .int .i64 k ∧ Hid (∀ j, j < k → ¬ hits wr (a, n) (getJ d.jobs j)) ∧ ∃ q, y = x.drewN q) (fun v _ => J - (intOf v).toNat)
  case atStart => exact ⟨0, Nat.zero_le _, rfl, fun j hj => by omega, 0, rfl⟩
  case round =>
    obtain ⟨k, hk, rfl, hno, q, rfl⟩ := hrel
    by_cases hlt : k < J
    · obtain ⟨g, rfl, -, e0, e1, e2, -, -, e5, -⟩ := HJ.out k hlt
      have HE := hide (fun hh => HIT.out k hlt hh)
      have HK : Hid (¬ hits wr (a, n) (getJ d.jobs k) → ∀ j, j < k + 1 → ¬ hits wr (a, n) (getJ d.jobs j)) := fun hne j hj => by
        by_cases e : j = k
        · subst e; exact hne
        · exact hno.out j (by omega)
      generalize getJ d.jobs k = jj at *
      obtain ⟨⟨ja, jn⟩, jw, js, jno, jst⟩ := jj
      simp only at e0 e1 e2 e5 HE HK
      clear HJ HIT MISS hno HGD
      cases wr with
      | false =>
        have HM := hide (HK.out (fun hh => by have := hh.1; cases this))
        clear HK HE
        go_wp2
        go_quiet ((fail))
        go_wp2
        go_roundw
        case rel => exact ⟨k + 1, by omega, by go_num, HM.out, _, rfl⟩
        case measure => simp [intOf]; omega
      | true =>
        by_cases h0 : jst = 0
        · subst h0
          have e5' : x.cell? ⟨g, k * 6 + 5, none⟩ = some (.int .i64 0) := e5
          clear e5
          cases jw with
          | false =>
            have HM := hide (HK.out (fun hh => by have := hh.2.2.1; cases this))
            clear HK HE
            go_wp2
            go_quiet ((fail))
            go_wp2
            go_roundw
            case rel => exact ⟨k + 1, by omega, by go_num, HM.out, _, rfl⟩
            case measure => simp [intOf]; omega
          | true =>
            by_cases e1' : ja = a
            · by_cases e2' : jn = n
              · subst e1' e2'
                have hae := HE.out ⟨rfl, rfl, rfl, rfl⟩
                subst hae
                have hat := HT.out
                have had := HD.out
                simp only [Int.reduceEq, if_false] at hat had
                have had := had.symm
                subst hat had
                clear HK HE HT HD
                go_wp2
                go_quiet ((fail))
                go_wp2
                go_ret2
                exact ⟨rfl, ⟨_, (HX.out.drew _).drew _⟩, below_drewN (below_drewN HBX.out _) _⟩
              · subst e1'
                have HM := hide (HK.out (fun hh => e2' (congrArg Prod.snd hh.2.2.2)))
                clear HK HE
                go_wp2
                go_quiet ((fail))
                go_wp2
                go_roundw
                case rel => exact ⟨k + 1, by omega, by go_num, HM.out, _, rfl⟩
                case measure => simp [intOf]; omega
            · skip
              have HM := hide (HK.out (fun hh => e1' (congrArg Prod.fst hh.2.2.2)))
              clear HK HE
              go_wp2
              go_quiet ((fail))
              go_wp2
              go_roundw
              case rel => exact ⟨k + 1, by omega, by go_num, HM.out, _, rfl⟩
              case measure => simp [intOf]; omega
        · have h0' : ((jst : Int) == 0) = false := by simp; omega
          have HM := hide (HK.out (fun hh => h0 hh.2.1))
          clear HK HE
          go_wp2
          go_quiet ((fail))
          go_wp2
          go_roundw
          case rel => exact ⟨k + 1, by omega, by go_num, HM.out, _, rfl⟩
          case measure => simp [intOf]; omega
    · have ek : J = k := by omega
      subst ek
      have hae := MISS.out (fun j hj => hno.out j (by omega))
      have hfl := ref_flight (HX.out.drew q) (tk (fun _ => true) d.jobs) rfl
      clear HJ HIT MISS hno
      have p0' : (x.drewN q).cell? ⟨B, 0, none⟩ = some (.int .i64 a) := p0
      by_cases hf : 32 ≤ (tk (fun _ => true) d.jobs).length
      · rw [if_pos hf] at hae
        subst hae
        have hat := HT.out
        have had := HD.out
        simp only [Int.reduceEq, if_false] at hat had
        have had := had.symm
        subst hat had
        clear HT HD
        generalize (tk (fun _ => true) d.jobs).length = F at *
        go_wp2_with fail
        refine hfl.mono ?_
        rintro e y ⟨fo, fc, rfl, -, b3⟩
        have HY := hide ((HX.out.drew q).below b3)
        have HBY := hide ((below_drewN HBX.out q).trans (b3.mono (by have := HX.out.lt; simp; omega)))
        clear b3 hfl
        go_wp2
        go_ret2
        exact ⟨rfl, ⟨_, HY.out⟩, HBY.out⟩
      · rw [if_neg hf] at hae
        subst hae
        have hat := HT.out
        have had := HD.out
        simp only [if_true] at hat had
        subst hat had
        have hgd := HGD.out
        clear HT HD HGD
        generalize (tk (fun _ => true) d.jobs).length = F at *
        go_wp2_with fail
        refine hfl.mono ?_
        rintro e y ⟨fo, fc, rfl, -, b3⟩
        have hy := (HX.out.drew q).below b3
        have HBY := hide ((below_drewN HBX.out q).trans (b3.mono (by have := HX.out.lt; simp; omega)))
        have r0 : y.cell? ⟨B, 0, none⟩ = some (.int .i64 a) := by rw [b3.cell (World.block_lt_of_cell? x _ p0)]; exact p0
        have r1 : y.cell? ⟨B, 1, none⟩ = some (.int .i64 n) := by rw [b3.cell (World.block_lt_of_cell? x _ p1)]; exact p1
        have c2y := hy.c2
        have f2y := hy.f2
        rw [hv] at c2y
        have hyl := hy.lt
        have hown2 : ((y.drewN 1).alloc (.cells #[.int .i64 a, .int .i64 n, .bool wr, .string s, .bool false, .int .i64 0] 70)).ownsRow (m + 1) 70 6 (.slice ao J cap) J (jobsV d.jobs) := by
          have := hy.oj
          rw [hv, hLL] at this
          exact own_below this ((below_drewN (Below.refl _ _) 1).alloc (by simp) _)
        have hnews : ∀ j u, [Value.int .i64 a, .int .i64 n, .bool wr, .string s, .bool false, .int .i64 0][j]? = some u → ((y.drewN 1).alloc (.cells #[.int .i64 a, .int .i64 n, .bool wr, .string s, .bool false, .int .i64 0] 70)).cell? ((⟨y.heap.size, 0, none⟩ : Addr).add j) = some u := cell_6 (y.drewN 1) _ _ _ _ _ _ _
        have HP := hide (fun (y1 : World) (g cap' : Nat) (hown' : y1.ownsRow (m + 1) 70 6 (.slice (some ⟨g, 0, none⟩) (J + 1) cap') (J + 1) (jobsV d.jobs ++ [.int .i64 a, .int .i64 n, .bool wr, .string s, .bool false, .int .i64 0])) (hg : ((y.drewN 1).alloc (.cells #[.int .i64 a, .int .i64 n, .bool wr, .string s, .bool false, .int .i64 0] 70)).grownBy y1 (Value.slice ao J cap).ownBlock) (hat : (Value.slice ao J cap).ownBlock = some g ∨ y.heap.size ≤ g) =>
          RefD.pushJob (j := ⟨(a, n), wr, s, false, 0⟩) (hy.drew 1) (by rw [hLL]; exact hown') (by rw [hv]; exact hg) (by rw [hv]; exact hat) hgd)
        clear hfl b3 hgd hy HX hv
        go_wp2
        go_region_law
          ((refine step_append_lies _ (by rfl) _ _ 28 (by rfl) (m + 1) 70 i0 (.agg #[.int .i64 0, .int .i64 0, .bool false, .string ⟨#[]⟩, .bool false, .int .i64 0]) 6 56 Try.underlying28 hi hz0 hz1 hz2 rfl (by decide) _ _ _ (by rfl) hown2 ⟨y.heap.size, 0, none⟩ 1 1 [.int .i64 a, .int .i64 n, .bool wr, .string s, .bool false, .int .i64 0] (by rfl) rfl hnews six_cells (by decide) (by unfold maxLen; omega) (by omega) (by simp; omega) (y.heap.size + 1) (by simp) ?_; intro g cap' y1 hown' hgrow hat hlt'; obtain ⟨⟨u1, u2⟩, u3, u4⟩ := HP.out y1 g cap' hown' hgrow (hat.imp id (fun e => by omega))))
        all_goals
          rw [hLL] at u3 u4
          have c2z := u3.c2
          have HU := hide (⟨u3, u4⟩ : _ ∧ _)
          clear u1 u2 u3 u4 hown' hgrow hat hlt' hown2 hnews HP hi
          generalize y1.setCell ⟨m, 2, none⟩ (.slice (some ⟨g, 0, none⟩) (J + 1) cap') = y2 at *
          go_wp2
          go_ret2
          exact ⟨by simp, ⟨_, HU.out.1⟩, HBY.out.trans ((below_drewN (Below.refl m y) 1).trans HU.out.2)⟩
end Go.Proofs.Ytjhndhibojndfaa
