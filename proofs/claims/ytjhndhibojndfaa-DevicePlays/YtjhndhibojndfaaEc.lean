/- The reference: Lay, Flight. -/
import Derived.Test.YtjhndhibojndfaaEb
namespace Go.Proofs.Ytjhndhibojndfaa
open Go.RowKit
theorem Try.infoIt : (Try.prog.info? 64).map (fun i => (i.zero, i.size, i.bytes)) = some (some (.agg #[.int .i64 0, .int .i64 0, .string ⟨#[]⟩]), 3, 32) := by kernel_rfl
theorem Try.infoJb : (Try.prog.info? 70).map (fun i => (i.zero, i.size, i.bytes)) = some (some (.agg #[.int .i64 0, .int .i64 0, .bool false, .string ⟨#[]⟩, .bool false, .int .i64 0]), 6, 56) := by kernel_rfl
theorem three_cells {a b : Int} {s : ByteArray} : ∀ u ∈ [Value.int .i64 a, Value.int .i64 b, Value.string s], u.oneCell' = true := by
  intro u hu; simp at hu; rcases hu with rfl | rfl | rfl <;> rfl
theorem six_cells {a b st : Int} {wr no : Bool} {s : ByteArray} : ∀ u ∈ [Value.int .i64 a, Value.int .i64 b, .bool wr, .string s, .bool no, .int .i64 st], u.oneCell' = true := by
  intro u hu; simp at hu; rcases hu with rfl | rfl | rfl | rfl | rfl | rfl <;> rfl
theorem cell_3 (w : World) (a b c : Value) (t : TypeId) : ∀ j u, [a, b, c][j]? = some u → (w.alloc (.cells #[a, b, c] t)).cell? ((⟨w.heap.size, 0, none⟩ : Addr).add j) = some u := by
  intro j u hj
  match j, hj with
  | 0, hj => simp at hj; subst hj; simp [Addr.add]
  | 1, hj => simp at hj; subst hj; simp [Addr.add]
  | 2, hj => simp at hj; subst hj; simp [Addr.add]
theorem layA_len (b : Bk) (s : ByteArray) (l : List (Bk × ByteArray)) : (layA b s l).1.length ≤ l.length + 1 := by
  rcases layA_is b s l with ⟨-, h, -⟩ | ⟨-, l1, l2, h, h2, -⟩
  · rw [h]; omega
  · rw [h]
    have : (l1 ++ l2).length ≤ l.length := by rw [h2]; exact List.length_filter_le _ _
    simp at this ⊢; omega
theorem getI_take (l : List (Bk × ByteArray)) (k : Nat) (h : k < l.length) : l.take (k + 1) = l.take k ++ [getI l k] := by
  rw [List.take_succ_eq_append_getElem h]; simp [getI, List.getD_eq_getElem?_getD, h]
theorem layA_take (b : Bk) (s : ByteArray) (l : List (Bk × ByteArray)) (k : Nat) (h : k < l.length) : layA b s (l.take (k + 1)) = layS b s (layA b s (l.take k)) (getI l k) := by rw [getI_take l k h, layA_snoc]
theorem layS_none {b : Bk} {s : ByteArray} {l : List (Bk × ByteArray)} {p : Bool} {x : Bk × ByteArray} (h : ¬ (p = false ∧ leB b x.1 = true)) (hx : x.1 = b) : layS b s (l, p) x = (l, p) := by unfold layS; simp only [if_neg h, if_pos hx]
theorem layS_x {b : Bk} {s : ByteArray} {l : List (Bk × ByteArray)} {p : Bool} {x : Bk × ByteArray} (h : ¬ (p = false ∧ leB b x.1 = true)) (hx : ¬ x.1 = b) : layS b s (l, p) x = (l ++ [x], p) := by unfold layS; simp only [if_neg h, if_neg hx]
theorem layS_b {b : Bk} {s : ByteArray} {l : List (Bk × ByteArray)} {x : Bk × ByteArray} (h : leB b x.1 = true) (hx : x.1 = b) : layS b s (l, false) x = (l ++ [(b, s)], true) := by unfold layS; simp only [h, and_self, if_true, if_pos hx]
theorem layS_bx {b : Bk} {s : ByteArray} {l : List (Bk × ByteArray)} {x : Bk × ByteArray} (h : leB b x.1 = true) (hx : ¬ x.1 = b) : layS b s (l, false) x = (l ++ [(b, s)] ++ [x], true) := by unfold layS; simp only [h, and_self, if_true, if_neg hx]
/-- What the loop of Lay has: a row of its own. -/
def OutR (w : World) (B : Nat) (v : Value) (l : List (Bk × ByteArray)) : Prop := w.ownsRow B 64 3 v l.length (itemsV l)
/-- What an append of an item does. -/
theorem OutR.step {w1 x y : World} {B : Nat} {v v' : Value} {l : List (Bk × ByteArray)} {p : Bk × ByteArray} {o : Obj} (hb : Below B w1 x) (hB : B ≤ x.heap.size) (h0 : OutR x B v l)
    (h : y.ownsRow B 64 3 v' (l.length + 1) (itemsV l ++ [.int .i64 p.1.1, .int .i64 p.1.2, .string p.2])) (hg : (x.alloc o).grownBy y v.ownBlock) :
    OutR y B v' (l ++ [p]) ∧ Below B w1 y ∧ x.heap.size ≤ y.heap.size ∧ (∀ q u, x.cell? q = some u → v.ownBlock ≠ some q.block → y.cell? q = some u) := by
  refine ⟨by unfold OutR; rw [itemsV_snoc, List.length_append]; exact h, ((hb.alloc hB o).grown hg (by simp; omega) (fun k hk => (h0.lt k hk).1)), by have := hg.size; simp at this; omega, fun q u hq hne => ?_⟩
  have hl := World.block_lt_of_cell? x _ hq
  rw [hg.cell_far q (by simp; omega) (fun e => hne e.symm)]
  exact cell_alloc hq o
theorem RefD.setItems {w y : World} {m : Nat} {d : Dv} {vi vj v : Value} {l : List (Bk × ByteArray)} {B : Nat} (h : RefD w m d vi vj) (hb : Below w.heap.size w y) (hB : w.heap.size ≤ B) (ho : OutR y B v l) (g : Good { d with items := l }) :
    RefD (y.setCell ⟨m, 1, none⟩ v) m { d with items := l } v vj ∧ Keeps (fun k => k = m) w (y.setCell ⟨m, 1, none⟩ v) ∧ (∀ q, v.ownBlock = some q → w.heap.size ≤ q) := by
  have hy := h.below hb
  have hl := h.lt
  have K : Keeps (fun k => k = m) y (y.setCell ⟨m, 1, none⟩ v) := (Keeps.refl (fun k => k = m) y).setCell ⟨m, 1, none⟩ (fun _ => rfl) _
  have ho' : (y.setCell ⟨m, 1, none⟩ v).ownsRow B 64 3 v l.length (itemsV l) := own_keep ho K (fun k e e' => by have := (ho.lt k e).1; omega)
  refine ⟨⟨?_, World.cell?_setCell_same _ _ _ hy.c1, ?_, ?_, ?_, ?_, ?_, own_keep hy.oj K (fun k e e' => by have := hy.gj e; omega), fun k e e' => ?_, g⟩, (Below.keeps (S := fun k => k = m) hb).trans K (fun _ _ e => e), fun q e => Nat.le_trans hB (ho.lt q e).1⟩
  · rw [World.cell?_setCell_other _ _ _ _ (by simp)]; exact hy.c0
  · rw [World.cell?_setCell_other _ _ _ _ (by simp)]; exact hy.c2
  · rw [World.frozen?_setCell]; exact hy.f0
  · rw [World.frozen?_setCell]; exact hy.f1
  · rw [World.frozen?_setCell]; exact hy.f2
  · refine ⟨ho'.1, ?_⟩
    rcases ho'.2 with h1 | ⟨g', cap, cur, h1, h2, h3⟩
    · exact .inl h1
    · exact .inr ⟨g', cap, cur, h1, by omega, h3⟩
  · have h1 := (ho.lt k e).1
    have h2 := (h.gj e').2
    omega
set_option maxHeartbeats 4000000 in
set_option maxRecDepth 10000 in
theorem ref_lay {w : World} {m : Nat} {d : Dv} {vi vj : Value} (h : RefD w m d vi vj) (b : Bk) (s : ByteArray) (hb : okB b = true) (hs : s.size ≤ 131072) :
    Calls Try.prog 40 #[.pointer (some ⟨m, 0, none⟩), bkV b, .string s] w fun e w' => e = .returned (.tuple #[]) ∧ (∃ vi', RefD w' m { d with items := lay b s d.items } vi' vj ∧ ∀ q, vi'.ownBlock = some q → w.heap.size ≤ q) ∧ Keeps (fun k => k = m) w w' := by
  obtain ⟨i0, hi, hz0, hz1, hz2⟩ := info_parts Try.infoIt
  have hgood : Good { d with items := lay b s d.items } := ⟨lay_rising h.good.rise, lay_good hb hs h.good.it, h.good.jb, h.good.fly, h.good.few, h.good.nn⟩
  obtain ⟨a, n⟩ := b
  simp only [bkV]
  have hfew := items_few h.good.rise (fun p hp => (h.good.it p hp).1)
  have hLY : Hid (lay (a, n) s d.items = if (layA (a, n) s d.items).2 then (layA (a, n) s d.items).1 else (layA (a, n) s d.items).1 ++ [((a, n), s)]) := rfl
  have hALL : Hid (d.items.take d.items.length = d.items) := List.take_length
  have HEND := hide (fun (y : World) (v : Value) (B : Nat) (hb : Below w.heap.size w y) (hB : w.heap.size ≤ B) (ho : OutR y B v (lay (a, n) s d.items)) => h.setItems hb hB ho hgood)
  have HT := hide (fun k (hk : k < d.items.length) => layA_take (a, n) s d.items k hk)
  have HLN := hide (fun k => layA_len (a, n) s (d.items.take k))
  have h1 := h.alloc (.cells #[.int .i64 a, .int .i64 n] 32)
  have H1 := hide h1
  have hBw := hide ((Below.refl w.heap.size w).alloc (Nat.le_refl _) (.cells #[.int .i64 a, .int .i64 n] 32))
  have hm := h.lt
  clear h h1 hgood hb hs
  go_enter Try.func40, Try.ntmps40
  go_wp2
  have p0 : (w.alloc (.cells #[.int .i64 a, .int .i64 n] 32)).cell? ⟨w.heap.size, 0, none⟩ = some (.int .i64 a) := by simp
  have p1 : (w.alloc (.cells #[.int .i64 a, .int .i64 n] 32)).cell? ⟨w.heap.size, 1, none⟩ = some (.int .i64 n) := by simp
  have hO0 := World.ownsRow_made (base := w.heap.size + 1) (e := 64) (size := 3) (w.alloc (.cells #[.int .i64 a, .int .i64 n] 32)) #[] 0 (by simp) (by decide) (by simp)
  have hb0 := (Below.refl (w.heap.size + 1) (w.alloc (.cells #[.int .i64 a, .int .i64 n] 32))).alloc (by simp) (.cells #[] 64)
  have hs0 : w.heap.size + 1 ≤ ((w.alloc (.cells #[.int .i64 a, .int .i64 n] 32)).alloc (.cells #[] 64)).heap.size := by simp
  have hsz1 : (w.alloc (.cells #[.int .i64 a, .int .i64 n] 32)).heap.size = w.heap.size + 1 := by simp
  rw [hsz1] at hO0
  generalize (w.alloc (.cells #[.int .i64 a, .int .i64 n] 32)).alloc (.cells #[] 64) = w2 at *
  generalize w.alloc (.cells #[.int .i64 a, .int .i64 n] 32) = w1 at *
  have HZ1 := hide hsz1
  have HBB : Hid (w.heap.size = w.heap.size) := rfl
  clear hsz1
  obtain ⟨B0, hB0⟩ : ∃ B0, Hid (w.heap.size = B0) := ⟨_, rfl⟩
  obtain ⟨B, hB⟩ : ∃ B, Hid (B0 + 1 = B) := ⟨_, rfl⟩
  rw [hB0.out] at p0 p1 hO0 hb0 hs0 HZ1 hm ⊢
  rw [hB.out] at hO0 hb0 hs0 HZ1 ⊢
  have hBlt : B0 < B := by have := hB.out; omega
  generalize hLL : d.items.length = L at *
  go_loopw [6, 7, 8] (fun vo vp vi' wr => ∃ k : Nat, k ≤ L ∧ vi' = .int .i64 k ∧ vp = .bool (layA (a, n) s (d.items.take k)).2 ∧ OutR wr B vo (layA (a, n) s (d.items.take k)).1 ∧ Below B w1 wr ∧ B ≤ wr.heap.size) (fun _ _ vi' _ => L - (intOf vi').toNat)
  case atStart => exact ⟨0, Nat.zero_le _, rfl, rfl, hO0, hb0, hs0⟩
  case round =>
    clear hO0 hb0 hs0
    obtain ⟨k, hk, rfl, rfl, hown0, hbel, hz⟩ := hrel
    have hRw := H1.out.below (HZ1.out ▸ hbel)
    obtain ⟨ao, cap, hv, hc1, hc2, hit⟩ := hRw.item
    have c1 := hRw.c1
    rw [hv, hLL] at c1
    have HLk := HLN.out k
    rw [List.length_take] at HLk
    have b0 : wr.cell? ⟨B0, 0, none⟩ = some (.int .i64 a) := by rw [hbel.cell hBlt]; exact p0
    have b1 : wr.cell? ⟨B0, 1, none⟩ = some (.int .i64 n) := by rw [hbel.cell hBlt]; exact p1
    by_cases hlt : k < L
    · obtain ⟨g, rfl, -, e0, e1, e2⟩ := hit k (by omega)
      have HT2 := hide (HT.out k (by omega))
      generalize getI d.items k = it at *
      obtain ⟨⟨ia, inn⟩, is⟩ := it
      simp only at e0 e1 e2
      generalize layA (a, n) s (d.items.take k) = st at *
      obtain ⟨lk, pk⟩ := st
      simp only at HLk hown0
      have hlk : lk.length ≤ 194 := by omega
      have O1 : OutR (wr.alloc (.cells #[.int .i64 ia, .int .i64 inn, .string is] 64)) B u6 lk := World.ownsRow.alloc hown0 _
      have Bl1 : Below B w1 (wr.alloc (.cells #[.int .i64 ia, .int .i64 inn, .string is] 64)) := hbel.alloc hz _
      have zl1 : B ≤ (wr.alloc (.cells #[.int .i64 ia, .int .i64 inn, .string is] 64)).heap.size := by simp; omega
      have q0 : (wr.alloc (.cells #[.int .i64 ia, .int .i64 inn, .string is] 64)).cell? ⟨wr.heap.size, 0, none⟩ = some (.int .i64 ia) := by simp
      have q1 : (wr.alloc (.cells #[.int .i64 ia, .int .i64 inn, .string is] 64)).cell? ⟨wr.heap.size, 1, none⟩ = some (.int .i64 inn) := by simp
      have q2 : (wr.alloc (.cells #[.int .i64 ia, .int .i64 inn, .string is] 64)).cell? ⟨wr.heap.size, 2, none⟩ = some (.string is) := by simp
      have p0 : (wr.alloc (.cells #[.int .i64 ia, .int .i64 inn, .string is] 64)).cell? ⟨B0, 0, none⟩ = some (.int .i64 a) := cell_alloc b0 _
      have p1 : (wr.alloc (.cells #[.int .i64 ia, .int .i64 inn, .string is] 64)).cell? ⟨B0, 1, none⟩ = some (.int .i64 n) := cell_alloc b1 _
      have hcases : True := trivial
      clear hRw hit hv HT HEND HLN
      cases pk with
      | true =>
        by_cases ha : a = ia
        · subst ha
          have hle : ¬ (true = false ∧ leB (a, n) (a, inn) = true) := by simp
          by_cases hn : n = inn
          · subst hn
            have hxx : (a, n) = (a, n) := rfl
            have HT1 : Hid (layA (a, n) s (d.items.take (k + 1)) = (lk, true)) := HT2.out.trans (layS_none hle hxx)
            clear hcases HT2
            go_wp2
            go_roundw
            case rel => exact ⟨k + 1, by omega, by go_num, by rw [HT1.out], by rw [HT1.out]; exact O1, Bl1, zl1⟩
            case measure => simp [intOf]; omega
          · have hxx : ¬ (a, inn) = (a, n) := fun e => hn (congrArg Prod.snd e).symm
            have hn' : ¬ inn = n := fun e => hn e.symm
            have HT1 : Hid (layA (a, n) s (d.items.take (k + 1)) = (lk ++ [((a, inn), is)], true)) := HT2.out.trans (layS_x hle hxx)
            clear hcases HT2
            have howny2 := World.ownsRow.alloc O1 (.cells #[.int .i64 a, .int .i64 inn, .string is] 64)
            have hnewsy2 : ∀ j u, [Value.int .i64 a, .int .i64 inn, .string is][j]? = some u → ((wr.alloc (.cells #[.int .i64 a, .int .i64 inn, .string is] 64)).alloc (.cells #[.int .i64 a, .int .i64 inn, .string is] 64)).cell? ((⟨wr.heap.size + 1, 0, none⟩ : Addr).add j) = some u := by
              have := cell_3 (wr.alloc (.cells #[.int .i64 a, .int .i64 inn, .string is] 64)) (.int .i64 a) (.int .i64 inn) (.string is) 64
              simpa using this
            go_wp2_with (at_builtin; refine wpList_append_lies _ rfl _ _ 27 rfl B 64 i0 (.agg #[.int .i64 0, .int .i64 0, .string ⟨#[]⟩]) 3 32 Try.underlying27 hi hz0 hz1 hz2 rfl (by decide) _ _ _ rfl howny2 ⟨wr.heap.size + 1, 0, none⟩ 1 1 [.int .i64 a, .int .i64 inn, .string is] rfl rfl hnewsy2 three_cells (by decide) ?c3 ?c4 ?c5 (wr.heap.size + 2) (by simp) ?_)
            case c3 => unfold maxLen; omega
            case c4 => omega
            case c5 => first | omega | (simp; omega)
            intro gy2 capy2 y2 hown' hgrow hat hlt'
            have hsty2 := OutR.step (p := ((a, inn), is)) (v' := .slice (some ⟨gy2, 0, none⟩) (lk.length + 1) capy2) Bl1 zl1 O1 (by first | exact hown' | (rw [List.length_append]; exact hown')) hgrow
            have Oy2 := hsty2.1
            have Bly2 := hsty2.2.1
            have zly2 : B ≤ y2.heap.size := Nat.le_trans zl1 hsty2.2.2.1
            have hcly2 := hsty2.2.2.2
            clear howny2 hnewsy2 hown' hgrow hat hlt' hsty2
            clear hcly2
            go_wp2
            go_roundw
            case rel => exact ⟨k + 1, by omega, by go_num, by rw [HT1.out], by rw [HT1.out]; exact Oy2, Bly2, zly2⟩
            case measure => simp [intOf]; omega
        · have hle : ¬ (true = false ∧ leB (a, n) (ia, inn) = true) := by simp
          have hxx : ¬ (ia, inn) = (a, n) := fun e => ha (congrArg Prod.fst e).symm
          have ha' : ¬ ia = a := fun e => ha e.symm
          have HT1 : Hid (layA (a, n) s (d.items.take (k + 1)) = (lk ++ [((ia, inn), is)], true)) := HT2.out.trans (layS_x hle hxx)
          clear hcases HT2
          have howny2 := World.ownsRow.alloc O1 (.cells #[.int .i64 ia, .int .i64 inn, .string is] 64)
          have hnewsy2 : ∀ j u, [Value.int .i64 ia, .int .i64 inn, .string is][j]? = some u → ((wr.alloc (.cells #[.int .i64 ia, .int .i64 inn, .string is] 64)).alloc (.cells #[.int .i64 ia, .int .i64 inn, .string is] 64)).cell? ((⟨wr.heap.size + 1, 0, none⟩ : Addr).add j) = some u := by
            have := cell_3 (wr.alloc (.cells #[.int .i64 ia, .int .i64 inn, .string is] 64)) (.int .i64 ia) (.int .i64 inn) (.string is) 64
            simpa using this
          go_wp2_with (at_builtin; refine wpList_append_lies _ rfl _ _ 27 rfl B 64 i0 (.agg #[.int .i64 0, .int .i64 0, .string ⟨#[]⟩]) 3 32 Try.underlying27 hi hz0 hz1 hz2 rfl (by decide) _ _ _ rfl howny2 ⟨wr.heap.size + 1, 0, none⟩ 1 1 [.int .i64 ia, .int .i64 inn, .string is] rfl rfl hnewsy2 three_cells (by decide) ?c3 ?c4 ?c5 (wr.heap.size + 2) (by simp) ?_)
          case c3 => unfold maxLen; omega
          case c4 => omega
          case c5 => first | omega | (simp; omega)
          intro gy2 capy2 y2 hown' hgrow hat hlt'
          have hsty2 := OutR.step (p := ((ia, inn), is)) (v' := .slice (some ⟨gy2, 0, none⟩) (lk.length + 1) capy2) Bl1 zl1 O1 (by first | exact hown' | (rw [List.length_append]; exact hown')) hgrow
          have Oy2 := hsty2.1
          have Bly2 := hsty2.2.1
          have zly2 : B ≤ y2.heap.size := Nat.le_trans zl1 hsty2.2.2.1
          have hcly2 := hsty2.2.2.2
          clear howny2 hnewsy2 hown' hgrow hat hlt' hsty2
          clear hcly2
          go_wp2
          go_roundw
          case rel => exact ⟨k + 1, by omega, by go_num, by rw [HT1.out], by rw [HT1.out]; exact Oy2, Bly2, zly2⟩
          case measure => simp [intOf]; omega
      | false =>
        by_cases ha : a < ia
        · have hle : leB (a, n) (ia, inn) = true := by simp [leB]; omega
          have hxx : ¬ (ia, inn) = (a, n) := fun e => by have := congrArg Prod.fst e; simp at this; omega
          have ha2 : ¬ ia = a := by omega
          have HT1 : Hid (layA (a, n) s (d.items.take (k + 1)) = (lk ++ [((a, n), s)] ++ [((ia, inn), is)], true)) := HT2.out.trans (layS_bx hle hxx)
          clear hcases HT2
          have howny2 := World.ownsRow.alloc O1 (.cells #[.int .i64 a, .int .i64 n, .string s] 64)
          have hnewsy2 : ∀ j u, [Value.int .i64 a, .int .i64 n, .string s][j]? = some u → ((wr.alloc (.cells #[.int .i64 ia, .int .i64 inn, .string is] 64)).alloc (.cells #[.int .i64 a, .int .i64 n, .string s] 64)).cell? ((⟨wr.heap.size + 1, 0, none⟩ : Addr).add j) = some u := by
            have := cell_3 (wr.alloc (.cells #[.int .i64 ia, .int .i64 inn, .string is] 64)) (.int .i64 a) (.int .i64 n) (.string s) 64
            simpa using this
          go_wp2_with (at_builtin; refine wpList_append_lies _ rfl _ _ 27 rfl B 64 i0 (.agg #[.int .i64 0, .int .i64 0, .string ⟨#[]⟩]) 3 32 Try.underlying27 hi hz0 hz1 hz2 rfl (by decide) _ _ _ rfl howny2 ⟨wr.heap.size + 1, 0, none⟩ 1 1 [.int .i64 a, .int .i64 n, .string s] rfl rfl hnewsy2 three_cells (by decide) ?c3 ?c4 ?c5 (wr.heap.size + 2) (by simp) ?_)
          case c3 => unfold maxLen; omega
          case c4 => omega
          case c5 => first | omega | (simp; omega)
          intro gy2 capy2 y2 hown' hgrow hat hlt'
          have hsty2 := OutR.step (p := ((a, n), s)) (v' := .slice (some ⟨gy2, 0, none⟩) (lk.length + 1) capy2) Bl1 zl1 O1 (by first | exact hown' | (rw [List.length_append]; exact hown')) hgrow
          have Oy2 := hsty2.1
          have Bly2 := hsty2.2.1
          have zly2 : B ≤ y2.heap.size := Nat.le_trans zl1 hsty2.2.2.1
          have hcly2 := hsty2.2.2.2
          clear howny2 hnewsy2 hown' hgrow hat hlt' hsty2
          have ne1 : (u6).ownBlock ≠ some wr.heap.size := fun e => by have := (hown0.lt _ e).2; omega
          have ne2 : (u6).ownBlock ≠ some B0 := fun e => by have := (hown0.lt _ e).1; omega
          have z0 := hcly2 ⟨wr.heap.size, 0, none⟩ _ q0 ne1
          have z1 := hcly2 ⟨wr.heap.size, 1, none⟩ _ q1 ne1
          have z2 := hcly2 ⟨wr.heap.size, 2, none⟩ _ q2 ne1
          have y0' := hcly2 ⟨B0, 0, none⟩ _ p0 ne2
          have y1' := hcly2 ⟨B0, 1, none⟩ _ p1 ne2
          clear hcly2
          have hl2 : (lk ++ [((a, n), s)]).length ≤ 195 := by simp; omega
          have howny4 := World.ownsRow.alloc Oy2 (.cells #[.int .i64 ia, .int .i64 inn, .string is] 64)
          have hnewsy4 : ∀ j u, [Value.int .i64 ia, .int .i64 inn, .string is][j]? = some u → (y2.alloc (.cells #[.int .i64 ia, .int .i64 inn, .string is] 64)).cell? ((⟨y2.heap.size, 0, none⟩ : Addr).add j) = some u := by
            have := cell_3 y2 (.int .i64 ia) (.int .i64 inn) (.string is) 64
            simpa using this
          go_wp2_with (at_builtin; refine wpList_append_lies _ rfl _ _ 27 rfl B 64 i0 (.agg #[.int .i64 0, .int .i64 0, .string ⟨#[]⟩]) 3 32 Try.underlying27 hi hz0 hz1 hz2 rfl (by decide) _ _ _ rfl howny4 ⟨y2.heap.size, 0, none⟩ 1 1 [.int .i64 ia, .int .i64 inn, .string is] rfl rfl hnewsy4 three_cells (by decide) ?c3 ?c4 ?c5 (y2.heap.size + 1) (by simp) ?_)
          case c3 => unfold maxLen; omega
          case c4 => omega
          case c5 => first | omega | (simp; omega)
          intro gy4 capy4 y4 hown' hgrow hat hlt'
          have hsty4 := OutR.step (p := ((ia, inn), is)) (v' := .slice (some ⟨gy4, 0, none⟩) (lk.length + 1 + 1) capy4) Bly2 zly2 Oy2 (by first | exact hown' | (rw [List.length_append]; exact hown')) hgrow
          have Oy4 := hsty4.1
          have Bly4 := hsty4.2.1
          have zly4 : B ≤ y4.heap.size := Nat.le_trans zly2 hsty4.2.2.1
          have hcly4 := hsty4.2.2.2
          clear howny4 hnewsy4 hown' hgrow hat hlt' hsty4
          clear hcly4
          go_wp2
          go_roundw
          case rel => exact ⟨k + 1, by omega, by go_num, by rw [HT1.out], by rw [HT1.out]; exact Oy4, Bly4, zly4⟩
          case measure => simp [intOf]; omega
        · by_cases ha2 : a = ia
          · subst ha2
            by_cases hn : n ≤ inn
            · have hle : leB (a, n) (a, inn) = true := by simp [leB]; omega
              by_cases hn2 : n = inn
              · subst hn2
                have hxx : (a, n) = (a, n) := rfl
                have HT1 : Hid (layA (a, n) s (d.items.take (k + 1)) = (lk ++ [((a, n), s)], true)) := HT2.out.trans (layS_b hle hxx)
                clear hcases HT2
                have howny2 := World.ownsRow.alloc O1 (.cells #[.int .i64 a, .int .i64 n, .string s] 64)
                have hnewsy2 : ∀ j u, [Value.int .i64 a, .int .i64 n, .string s][j]? = some u → ((wr.alloc (.cells #[.int .i64 a, .int .i64 n, .string is] 64)).alloc (.cells #[.int .i64 a, .int .i64 n, .string s] 64)).cell? ((⟨wr.heap.size + 1, 0, none⟩ : Addr).add j) = some u := by
                  have := cell_3 (wr.alloc (.cells #[.int .i64 a, .int .i64 n, .string is] 64)) (.int .i64 a) (.int .i64 n) (.string s) 64
                  simpa using this
                go_wp2_with (at_builtin; refine wpList_append_lies _ rfl _ _ 27 rfl B 64 i0 (.agg #[.int .i64 0, .int .i64 0, .string ⟨#[]⟩]) 3 32 Try.underlying27 hi hz0 hz1 hz2 rfl (by decide) _ _ _ rfl howny2 ⟨wr.heap.size + 1, 0, none⟩ 1 1 [.int .i64 a, .int .i64 n, .string s] rfl rfl hnewsy2 three_cells (by decide) ?c3 ?c4 ?c5 (wr.heap.size + 2) (by simp) ?_)
                case c3 => unfold maxLen; omega
                case c4 => omega
                case c5 => first | omega | (simp; omega)
                intro gy2 capy2 y2 hown' hgrow hat hlt'
                have hsty2 := OutR.step (p := ((a, n), s)) (v' := .slice (some ⟨gy2, 0, none⟩) (lk.length + 1) capy2) Bl1 zl1 O1 (by first | exact hown' | (rw [List.length_append]; exact hown')) hgrow
                have Oy2 := hsty2.1
                have Bly2 := hsty2.2.1
                have zly2 : B ≤ y2.heap.size := Nat.le_trans zl1 hsty2.2.2.1
                have hcly2 := hsty2.2.2.2
                clear howny2 hnewsy2 hown' hgrow hat hlt' hsty2
                have ne1 : (u6).ownBlock ≠ some wr.heap.size := fun e => by have := (hown0.lt _ e).2; omega
                have ne2 : (u6).ownBlock ≠ some B0 := fun e => by have := (hown0.lt _ e).1; omega
                have z0 := hcly2 ⟨wr.heap.size, 0, none⟩ _ q0 ne1
                have z1 := hcly2 ⟨wr.heap.size, 1, none⟩ _ q1 ne1
                have z2 := hcly2 ⟨wr.heap.size, 2, none⟩ _ q2 ne1
                have y0' := hcly2 ⟨B0, 0, none⟩ _ p0 ne2
                have y1' := hcly2 ⟨B0, 1, none⟩ _ p1 ne2
                clear hcly2
                go_wp2
                go_roundw
                case rel => exact ⟨k + 1, by omega, by go_num, by rw [HT1.out], by rw [HT1.out]; exact Oy2, Bly2, zly2⟩
                case measure => simp [intOf]; omega
              · have hxx : ¬ (a, inn) = (a, n) := fun e => hn2 (congrArg Prod.snd e).symm
                have hn' : ¬ inn = n := fun e => hn2 e.symm
                have HT1 : Hid (layA (a, n) s (d.items.take (k + 1)) = (lk ++ [((a, n), s)] ++ [((a, inn), is)], true)) := HT2.out.trans (layS_bx hle hxx)
                clear hcases HT2
                have howny2 := World.ownsRow.alloc O1 (.cells #[.int .i64 a, .int .i64 n, .string s] 64)
                have hnewsy2 : ∀ j u, [Value.int .i64 a, .int .i64 n, .string s][j]? = some u → ((wr.alloc (.cells #[.int .i64 a, .int .i64 inn, .string is] 64)).alloc (.cells #[.int .i64 a, .int .i64 n, .string s] 64)).cell? ((⟨wr.heap.size + 1, 0, none⟩ : Addr).add j) = some u := by
                  have := cell_3 (wr.alloc (.cells #[.int .i64 a, .int .i64 inn, .string is] 64)) (.int .i64 a) (.int .i64 n) (.string s) 64
                  simpa using this
                go_wp2_with (at_builtin; refine wpList_append_lies _ rfl _ _ 27 rfl B 64 i0 (.agg #[.int .i64 0, .int .i64 0, .string ⟨#[]⟩]) 3 32 Try.underlying27 hi hz0 hz1 hz2 rfl (by decide) _ _ _ rfl howny2 ⟨wr.heap.size + 1, 0, none⟩ 1 1 [.int .i64 a, .int .i64 n, .string s] rfl rfl hnewsy2 three_cells (by decide) ?c3 ?c4 ?c5 (wr.heap.size + 2) (by simp) ?_)
                case c3 => unfold maxLen; omega
                case c4 => omega
                case c5 => first | omega | (simp; omega)
                intro gy2 capy2 y2 hown' hgrow hat hlt'
                have hsty2 := OutR.step (p := ((a, n), s)) (v' := .slice (some ⟨gy2, 0, none⟩) (lk.length + 1) capy2) Bl1 zl1 O1 (by first | exact hown' | (rw [List.length_append]; exact hown')) hgrow
                have Oy2 := hsty2.1
                have Bly2 := hsty2.2.1
                have zly2 : B ≤ y2.heap.size := Nat.le_trans zl1 hsty2.2.2.1
                have hcly2 := hsty2.2.2.2
                clear howny2 hnewsy2 hown' hgrow hat hlt' hsty2
                have ne1 : (u6).ownBlock ≠ some wr.heap.size := fun e => by have := (hown0.lt _ e).2; omega
                have ne2 : (u6).ownBlock ≠ some B0 := fun e => by have := (hown0.lt _ e).1; omega
                have z0 := hcly2 ⟨wr.heap.size, 0, none⟩ _ q0 ne1
                have z1 := hcly2 ⟨wr.heap.size, 1, none⟩ _ q1 ne1
                have z2 := hcly2 ⟨wr.heap.size, 2, none⟩ _ q2 ne1
                have y0' := hcly2 ⟨B0, 0, none⟩ _ p0 ne2
                have y1' := hcly2 ⟨B0, 1, none⟩ _ p1 ne2
                clear hcly2
                have hl2 : (lk ++ [((a, n), s)]).length ≤ 195 := by simp; omega
                have howny4 := World.ownsRow.alloc Oy2 (.cells #[.int .i64 a, .int .i64 inn, .string is] 64)
                have hnewsy4 : ∀ j u, [Value.int .i64 a, .int .i64 inn, .string is][j]? = some u → (y2.alloc (.cells #[.int .i64 a, .int .i64 inn, .string is] 64)).cell? ((⟨y2.heap.size, 0, none⟩ : Addr).add j) = some u := by
                  have := cell_3 y2 (.int .i64 a) (.int .i64 inn) (.string is) 64
                  simpa using this
                go_wp2_with (at_builtin; refine wpList_append_lies _ rfl _ _ 27 rfl B 64 i0 (.agg #[.int .i64 0, .int .i64 0, .string ⟨#[]⟩]) 3 32 Try.underlying27 hi hz0 hz1 hz2 rfl (by decide) _ _ _ rfl howny4 ⟨y2.heap.size, 0, none⟩ 1 1 [.int .i64 a, .int .i64 inn, .string is] rfl rfl hnewsy4 three_cells (by decide) ?c3 ?c4 ?c5 (y2.heap.size + 1) (by simp) ?_)
                case c3 => unfold maxLen; omega
                case c4 => omega
                case c5 => first | omega | (simp; omega)
                intro gy4 capy4 y4 hown' hgrow hat hlt'
                have hsty4 := OutR.step (p := ((a, inn), is)) (v' := .slice (some ⟨gy4, 0, none⟩) (lk.length + 1 + 1) capy4) Bly2 zly2 Oy2 (by first | exact hown' | (rw [List.length_append]; exact hown')) hgrow
                have Oy4 := hsty4.1
                have Bly4 := hsty4.2.1
                have zly4 : B ≤ y4.heap.size := Nat.le_trans zly2 hsty4.2.2.1
                have hcly4 := hsty4.2.2.2
                clear howny4 hnewsy4 hown' hgrow hat hlt' hsty4
                clear hcly4
                go_wp2
                go_roundw
                case rel => exact ⟨k + 1, by omega, by go_num, by rw [HT1.out], by rw [HT1.out]; exact Oy4, Bly4, zly4⟩
                case measure => simp [intOf]; omega
            · have hle : ¬ (false = false ∧ leB (a, n) (a, inn) = true) := by simp [leB]; omega
              have hn2 : ¬ inn = n := by omega
              have hxx : ¬ (a, inn) = (a, n) := fun e => hn2 (congrArg Prod.snd e)
              have HT1 : Hid (layA (a, n) s (d.items.take (k + 1)) = (lk ++ [((a, inn), is)], false)) := HT2.out.trans (layS_x hle hxx)
              clear hcases HT2
              have howny2 := World.ownsRow.alloc O1 (.cells #[.int .i64 a, .int .i64 inn, .string is] 64)
              have hnewsy2 : ∀ j u, [Value.int .i64 a, .int .i64 inn, .string is][j]? = some u → ((wr.alloc (.cells #[.int .i64 a, .int .i64 inn, .string is] 64)).alloc (.cells #[.int .i64 a, .int .i64 inn, .string is] 64)).cell? ((⟨wr.heap.size + 1, 0, none⟩ : Addr).add j) = some u := by
                have := cell_3 (wr.alloc (.cells #[.int .i64 a, .int .i64 inn, .string is] 64)) (.int .i64 a) (.int .i64 inn) (.string is) 64
                simpa using this
              go_wp2_with (at_builtin; refine wpList_append_lies _ rfl _ _ 27 rfl B 64 i0 (.agg #[.int .i64 0, .int .i64 0, .string ⟨#[]⟩]) 3 32 Try.underlying27 hi hz0 hz1 hz2 rfl (by decide) _ _ _ rfl howny2 ⟨wr.heap.size + 1, 0, none⟩ 1 1 [.int .i64 a, .int .i64 inn, .string is] rfl rfl hnewsy2 three_cells (by decide) ?c3 ?c4 ?c5 (wr.heap.size + 2) (by simp) ?_)
              case c3 => unfold maxLen; omega
              case c4 => omega
              case c5 => first | omega | (simp; omega)
              intro gy2 capy2 y2 hown' hgrow hat hlt'
              have hsty2 := OutR.step (p := ((a, inn), is)) (v' := .slice (some ⟨gy2, 0, none⟩) (lk.length + 1) capy2) Bl1 zl1 O1 (by first | exact hown' | (rw [List.length_append]; exact hown')) hgrow
              have Oy2 := hsty2.1
              have Bly2 := hsty2.2.1
              have zly2 : B ≤ y2.heap.size := Nat.le_trans zl1 hsty2.2.2.1
              have hcly2 := hsty2.2.2.2
              clear howny2 hnewsy2 hown' hgrow hat hlt' hsty2
              clear hcly2
              go_wp2
              go_roundw
              case rel => exact ⟨k + 1, by omega, by go_num, by rw [HT1.out], by rw [HT1.out]; exact Oy2, Bly2, zly2⟩
              case measure => simp [intOf]; omega
          · have hle : ¬ (false = false ∧ leB (a, n) (ia, inn) = true) := by simp [leB]; omega
            have ha3 : ¬ ia = a := fun e => ha2 e.symm
            have ha4 : (a == ia) = false := by simpa using ha2
            have hxx : ¬ (ia, inn) = (a, n) := fun e => ha3 (congrArg Prod.fst e)
            have HT1 : Hid (layA (a, n) s (d.items.take (k + 1)) = (lk ++ [((ia, inn), is)], false)) := HT2.out.trans (layS_x hle hxx)
            clear hcases HT2
            have howny2 := World.ownsRow.alloc O1 (.cells #[.int .i64 ia, .int .i64 inn, .string is] 64)
            have hnewsy2 : ∀ j u, [Value.int .i64 ia, .int .i64 inn, .string is][j]? = some u → ((wr.alloc (.cells #[.int .i64 ia, .int .i64 inn, .string is] 64)).alloc (.cells #[.int .i64 ia, .int .i64 inn, .string is] 64)).cell? ((⟨wr.heap.size + 1, 0, none⟩ : Addr).add j) = some u := by
              have := cell_3 (wr.alloc (.cells #[.int .i64 ia, .int .i64 inn, .string is] 64)) (.int .i64 ia) (.int .i64 inn) (.string is) 64
              simpa using this
            go_wp2_with (at_builtin; refine wpList_append_lies _ rfl _ _ 27 rfl B 64 i0 (.agg #[.int .i64 0, .int .i64 0, .string ⟨#[]⟩]) 3 32 Try.underlying27 hi hz0 hz1 hz2 rfl (by decide) _ _ _ rfl howny2 ⟨wr.heap.size + 1, 0, none⟩ 1 1 [.int .i64 ia, .int .i64 inn, .string is] rfl rfl hnewsy2 three_cells (by decide) ?c3 ?c4 ?c5 (wr.heap.size + 2) (by simp) ?_)
            case c3 => unfold maxLen; omega
            case c4 => omega
            case c5 => first | omega | (simp; omega)
            intro gy2 capy2 y2 hown' hgrow hat hlt'
            have hsty2 := OutR.step (p := ((ia, inn), is)) (v' := .slice (some ⟨gy2, 0, none⟩) (lk.length + 1) capy2) Bl1 zl1 O1 (by first | exact hown' | (rw [List.length_append]; exact hown')) hgrow
            have Oy2 := hsty2.1
            have Bly2 := hsty2.2.1
            have zly2 : B ≤ y2.heap.size := Nat.le_trans zl1 hsty2.2.2.1
            have hcly2 := hsty2.2.2.2
            clear howny2 hnewsy2 hown' hgrow hat hlt' hsty2
            clear hcly2
            go_wp2
            go_roundw
            case rel => exact ⟨k + 1, by omega, by go_num, by rw [HT1.out], by rw [HT1.out]; exact Oy2, Bly2, zly2⟩
            case measure => simp [intOf]; omega
    · have ek : k = L := by omega
      subst ek
      rw [hALL.out] at hown0 HLk ⊢
      have f1 := hRw.f1
      have c1' := hRw.c1
      have HBW := hide (hBw.out.trans (hbel.mono (by have := hB0.out; omega)))
      have HQ := hide (fun (y : World) (hy : Below B w1 y) => H1.out.below (HZ1.out ▸ hy))
      have HW := hide (fun (y : World) (hy : Below B w1 y) => hBw.out.trans (hy.mono (by have := hB0.out; omega)))
      have HB0 := hide (show w.heap.size ≤ B by have := hB0.out; omega)
      clear hRw hit HT HLN hv
      generalize layA (a, n) s d.items = st at *
      obtain ⟨lk, pk⟩ := st
      simp only at hown0 HLk
      have hlk : lk.length ≤ 194 := by omega
      cases pk with
      | true =>
        have hE := HEND.out wr u6 B HBW.out HB0.out (by rw [hLY.out]; exact hown0)
        obtain ⟨ao', cap', hv', -, -, -⟩ := own_slice hown0
        subst hv'
        have HX := hide hE
        clear hE HEND hLY
        go_wp2
        go_end0
        exact ⟨rfl, ⟨_, HX.out.1, HX.out.2.2⟩, HX.out.2.1⟩
      | false =>
        have O1 := hown0
        have Bl1 := hbel
        have zl1 := hz
        have p0' := b0
        have howny2 := World.ownsRow.alloc O1 (.cells #[.int .i64 a, .int .i64 n, .string s] 64)
        have hnewsy2 : ∀ j u, [Value.int .i64 a, .int .i64 n, .string s][j]? = some u → (wr.alloc (.cells #[.int .i64 a, .int .i64 n, .string s] 64)).cell? ((⟨wr.heap.size, 0, none⟩ : Addr).add j) = some u := by
          have := cell_3 wr (.int .i64 a) (.int .i64 n) (.string s) 64
          simpa using this
        go_wp2_with (at_builtin; refine wpList_append_lies _ rfl _ _ 27 rfl B 64 i0 (.agg #[.int .i64 0, .int .i64 0, .string ⟨#[]⟩]) 3 32 Try.underlying27 hi hz0 hz1 hz2 rfl (by decide) _ _ _ rfl howny2 ⟨wr.heap.size, 0, none⟩ 1 1 [.int .i64 a, .int .i64 n, .string s] rfl rfl hnewsy2 three_cells (by decide) ?c3 ?c4 ?c5 (wr.heap.size + 1) (by simp) ?_)
        case c3 => unfold maxLen; omega
        case c4 => omega
        case c5 => first | omega | (simp; omega)
        intro gy2 capy2 y2 hown' hgrow hat hlt'
        have hsty2 := OutR.step (p := ((a, n), s)) (v' := .slice (some ⟨gy2, 0, none⟩) (lk.length + 1) capy2) Bl1 zl1 O1 (by first | exact hown' | (rw [List.length_append]; exact hown')) hgrow
        have Oy2 := hsty2.1
        have Bly2 := hsty2.2.1
        have zly2 : B ≤ y2.heap.size := Nat.le_trans zl1 hsty2.2.2.1
        have hcly2 := hsty2.2.2.2
        clear howny2 hnewsy2 hown' hgrow hat hlt' hsty2
        clear hcly2
        have hE := HEND.out y2 _ B (HW.out y2 Bly2) HB0.out (by rw [hLY.out]; exact Oy2)
        have hy := HQ.out y2 Bly2
        have f1' := hy.f1
        have c1'' := hy.c1
        have HX := hide hE
        clear hE HEND hLY HQ HW hy O1 Oy2
        go_wp2
        go_end0
        exact ⟨rfl, ⟨_, HX.out.1, HX.out.2.2⟩, HX.out.2.1⟩
end Go.Proofs.Ytjhndhibojndfaa
