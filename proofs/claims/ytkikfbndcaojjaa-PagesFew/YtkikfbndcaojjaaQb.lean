/- The reference: the row is another one; Close. -/
import Derived.Test.YtkikfbndcaojjaaQa
namespace Go.Proofs.Ytkikfbndcaojjaa
open Go.RowKit
theorem Try.infoOne : (Try.prog.info? 44).map (fun i => (i.zero, i.size, i.bytes)) = some (some (.agg #[.int .i64 0, .slice none 0 0]), 2, 32) := by kernel_rfl
theorem ones_one (s : Nat) (l : List (Nat × Nat)) : ∀ u ∈ onesV s l, u.oneCell' = true := by
  intro u hu
  simp only [onesV, List.mem_flatMap] at hu
  obtain ⟨x, -, hx⟩ := hu
  simp [oneV] at hx
  rcases hx with rfl | rfl <;> rfl
theorem onesV_take (s : Nat) (l : List (Nat × Nat)) (i : Nat) : onesV s (l.take i) = (onesV s l).take (i * 2) := by
  induction l generalizing i with
  | nil => simp [onesV]
  | cons a l ih =>
    match i with
    | 0 => simp [onesV]
    | i + 1 =>
      have e : onesV s (a :: l) = .int .i64 (a.1 : Int) :: .slice (some ⟨a.2, 0, none⟩) s s :: onesV s l := rfl
      have e2 : onesV s (a :: l.take i) = .int .i64 (a.1 : Int) :: .slice (some ⟨a.2, 0, none⟩) s s :: onesV s (l.take i) := rfl
      rw [List.take_succ_cons, e, e2, ih, show (i + 1) * 2 = i * 2 + 1 + 1 by omega]
      rfl
theorem onesV_drop (s : Nat) (l : List (Nat × Nat)) (i : Nat) : onesV s (l.drop i) = (onesV s l).drop (i * 2) := by
  induction l generalizing i with
  | nil => simp [onesV]
  | cons a l ih =>
    match i with
    | 0 => simp [onesV]
    | i + 1 =>
      have e : onesV s (a :: l) = .int .i64 (a.1 : Int) :: .slice (some ⟨a.2, 0, none⟩) s s :: onesV s l := rfl
      rw [List.drop_succ_cons, e, ih, show (i + 1) * 2 = i * 2 + 1 + 1 by omega]
      rfl
section
variable {w y : World} {M : Nat → Prop} {m n : Nat} {bits : Int} {K K' : List (Nat × Nat)} {V V' : Nat → Nat → Int} {vl v : Value}
theorem RbIs.setL (h : RbIs w M m n bits K V vl) (hb : Below w.heap.size w y) (ho : y.ownsRow w.heap.size 44 2 v K'.length (onesV (sizeN bits) K'))
    (hK : ∀ x ∈ K', (x ∈ K ∧ ∀ j, V' x.2 j = V x.2 j) ∨ (w.heap.size ≤ x.2 ∧ x.1 ≤ 9223372036854775807 ∧ v.ownBlock ≠ some x.2 ∧ ∀ j, j < sizeN bits → y.cell? ⟨x.2, j, none⟩ = some (.int .u64 (V' x.2 j)) ∧ y.frozen? ⟨x.2, j, none⟩ = false)) (hnd : (K'.map Prod.snd).Nodup) :
    RbIs (y.setCell ⟨m, 2, none⟩ v) (More M w (y.setCell ⟨m, 2, none⟩ v)) m n bits K' V' v ∧ Keeps M w (y.setCell ⟨m, 2, none⟩ v) := by
  have hy := h.below hb
  have hl := h.lt
  have hsz : (y.setCell ⟨m, 2, none⟩ v).heap.size = y.heap.size := by simp [World.setCell]
  have K1 : Keeps (fun k => k = m) y (y.setCell ⟨m, 2, none⟩ v) := (Keeps.refl (fun k => k = m) y).setCell ⟨m, 2, none⟩ (fun _ => rfl) _
  have hov : ∀ k, v.ownBlock = some k → w.heap.size ≤ k ∧ k < y.heap.size := fun k e => ho.lt k e
  have hp := sizeN_pos h.hb
  have hx1 : ∀ x ∈ K', x.2 < y.heap.size ∧ x.2 ≠ m := fun x hx => by
    rcases hK x hx with ⟨h1, -⟩ | ⟨h1, -, -, h2⟩
    · exact ⟨World.block_lt_of_cell? y _ (hy.ws x h1 0 (by omega)).1, (h.wd x h1).2.1⟩
    · exact ⟨World.block_lt_of_cell? y _ (h2 0 (by omega)).1, by omega⟩
  refine ⟨⟨?_, ?_, World.cell?_setCell_same _ _ _ hy.c2, ?_, h.hn, h.hb, ?_, .inl h.sm, fun k e => ⟨.inr ⟨(hov k e).1, by rw [hsz]; exact (hov k e).2⟩, by have := (hov k e).1; omega⟩, fun x hx => ?_, fun x hx j hj => ?_, hnd⟩, (Below.keeps (S := M) hb).setCell _ (fun _ => h.sm) _⟩
  · rw [World.cell?_setCell_other _ _ _ _ (by simp)]; exact hy.c0
  · rw [World.cell?_setCell_other _ _ _ _ (by simp)]; exact hy.c1
  · rw [World.frozen?_setCell]; exact hy.f2
  · have ho' := own_keep ho K1 (fun k e e' => by have := (hov k e).1; omega)
    refine ⟨ho'.1, ?_⟩
    rcases ho'.2 with h1 | ⟨g', cap, cur, h1, h2, h3⟩
    · exact .inl h1
    · exact .inr ⟨g', cap, cur, h1, Nat.zero_le _, h3⟩
  · rcases hK x hx with ⟨h1, -⟩ | ⟨h1, h2, h3, -⟩
    · have hlx : x.2 < w.heap.size := World.block_lt_of_cell? w _ (h.ws x h1 0 (by omega)).1
      exact ⟨.inl (h.wd x h1).1, (h.wd x h1).2.1, fun e => by have := (hov _ e).1; omega, (h.wd x h1).2.2.2⟩
    · exact ⟨.inr ⟨h1, by rw [hsz]; exact (hx1 x hx).1⟩, (hx1 x hx).2, h3, h2⟩
  · rw [K1.cell (hx1 x hx).1 (hx1 x hx).2, K1.frozen (hx1 x hx).1 (hx1 x hx).2]
    rcases hK x hx with ⟨h1, h2⟩ | ⟨-, -, -, h2⟩
    · rw [h2 j]; exact hy.ws x h1 j hj
    · exact h2 j hj
end
section
variable {w : World} {M : Nat → Prop} {m n : Nat} {bits : Int} {K : List (Nat × Nat)} {V : Nat → Nat → Int} {vl : Value}
set_option maxHeartbeats 400000 in
theorem rb_close_no (h : RbIs w M m n bits K V vl) (page : Int) (hno : ∀ j, j < K.length → ((getK K j).1 : Int) ≠ page) :
    Calls Try.prog 28 #[.pointer (some ⟨m, 0, none⟩), .int .i64 page] w fun e w' => e = .returned (.int .i64 7) ∧ w' = w := by
  have hat := rb_at_no h page hno
  clear h hno
  go_enter Try.func28, Try.ntmps28
  go_wp2_with fail
  refine hat.mono ?_
  rintro e x ⟨rfl, rfl⟩
  go_wp2
  go_ret
  exact ⟨rfl, rfl⟩
set_option maxHeartbeats 2000000 in
set_option maxRecDepth 10000 in
theorem rb_close_yes (h : RbIs w M m n bits K V vl) (hfew : K.length ≤ 1000) (i : Nat) (hi : i < K.length) (P : Nat) (hP : (getK K i).1 = P) (hfirst : ∀ j, j < i → (getK K j).1 ≠ P) :
    Calls Try.prog 28 #[.pointer (some ⟨m, 0, none⟩), .int .i64 (P : Int)] w fun e w' => e = .returned (.int .i64 0) ∧ (∃ vl', RbIs w' (More M w w') m n bits (K.eraseIdx i) V vl') ∧ Keeps M w w' := by
  obtain ⟨i0, hi0, hz0, hz1, hz2⟩ := info_parts Try.infoOne
  have hat := rb_at_yes h i hi P hP hfirst
  have HEND : Hid (∀ (y : World) (v : Value) (len : Nat) (xs : List Value), Below w.heap.size w y → len = i + (K.length - (i + 1)) → xs = (onesV (sizeN bits) K).take (i * 2) ++ (onesV (sizeN bits) K).drop ((i + 1) * 2) → y.ownsRow w.heap.size 44 2 v len xs → RbIs (y.setCell ⟨m, 2, none⟩ v) (More M w (y.setCell ⟨m, 2, none⟩ v)) m n bits (K.eraseIdx i) V v ∧ Keeps M w (y.setCell ⟨m, 2, none⟩ v)) := by
    intro y v len xs hb h1 h2 ho
    subst h1 h2
    have e1 : K.eraseIdx i = K.take i ++ K.drop (i + 1) := List.eraseIdx_eq_take_drop_succ K i
    refine h.setL hb ?_ (fun x hx => .inl ⟨List.mem_of_mem_eraseIdx hx, fun _ => rfl⟩) ?_
    · rw [e1, onesV_append, onesV_take, onesV_drop, List.length_append, List.length_take, List.length_drop, Nat.min_eq_left (by omega)]
      exact ho
    · have := h.nd
      exact (List.Sublist.map Prod.snd (List.eraseIdx_sublist K i)).nodup this
  have hl := h.lt
  have hf2 := h.f2
  obtain ⟨ao, cap, hv, hc1, hc2, hcells⟩ := h.form
  have c2 := h.c2
  rw [hv] at c2
  obtain ⟨g, rfl, hog, -, -⟩ := hcells i hi
  have hgl : g < w.heap.size := (h.own.lt g hog).2
  have HN : Hid (∀ j u, (onesV (sizeN bits) K)[j]? = some u → w.cell? ⟨g, j, none⟩ = some u) := fun j u hu => by
    have c := h.own.cells hog j u hu
    have hadd : (⟨g, 0, none⟩ : Addr).add j = ⟨g, j, none⟩ := by unfold Addr.add; split <;> simp_all
    rw [hadd] at c; exact c
  have HO : Hid ((onesV (sizeN bits) K).length = K.length * 2) := onesV_len _ _
  have H1 : Hid (∀ u ∈ onesV (sizeN bits) K, u.oneCell' = true) := ones_one _ _
  have hgm : g ≠ m := (h.sv g hog).2
  clear h hcells hv hog hP hfirst
  generalize onesV (sizeN bits) K = os at *
  generalize K.length = L at *
  go_enter Try.func28, Try.ntmps28
  go_wp2_with fail
  refine hat.mono ?_
  rintro e x ⟨rfl, rfl⟩
  have hO0 := World.ownsRow_made (base := x.heap.size) (e := 44) (size := 2) x #[] 0 (by simp) (by decide) (by simp)
  have b0 := (Below.refl x.heap.size x).alloc (Nat.le_refl _) (.cells #[] 44)
  have hO1 : (x.alloc (.cells #[] 44)).ownsRow x.heap.size 44 2 (.slice (some ⟨x.heap.size, 0, none⟩) 0 0) 0 [] := by simpa using hO0
  have c2' : (x.alloc (.cells #[] 44)).cell? ⟨m, 2, none⟩ = some (.slice (some ⟨g, 0, none⟩) L cap) := by rw [b0.cell hl]; exact c2
  have N1 : Hid (∀ j u, os[j]? = some u → (x.alloc (.cells #[] 44)).cell? ⟨g, j, none⟩ = some u) := fun j u hu => by rw [b0.cell hgl]; exact HN.out j u hu
  have hs0 : x.heap.size ≤ (x.alloc (.cells #[] 44)).heap.size := b0.size
  clear hO0 hat
  obtain ⟨B, hB⟩ : ∃ B, Hid (x.heap.size = B) := ⟨_, rfl⟩
  have HX := hide b0
  rw [hB.out] at hO1 hgl hl hs0
  clear b0
  go_wp2_with (at_builtin; refine wpList_append_own _ rfl _ _ 38 rfl B 44 i0 (.agg #[.int .i64 0, .slice none 0 0]) 2 32 Try.underlying38 hi0 hz0 hz1 hz2 rfl (by decide) _ _ _ rfl (by first | exact hO1 | (rw [hB.out]; exact hO1)) ⟨g, 0, none⟩ i cap (os.take (i * 2)) rfl ?a1 ?a2 ?a3 ?a4 ?a5 ?a6 ?_)
  case a1 => rw [List.length_take, HO.out, Nat.min_eq_left (by omega)]
  case a2 =>
    intro j u hj
    rw [Go.WideShapes.add_plain, Nat.zero_add]
    exact N1.out j u (by rw [List.getElem?_take] at hj; split at hj; exact hj; cases hj)
  case a3 => exact fun u hu => H1.out u (List.mem_of_mem_take hu)
  case a4 => unfold maxLen; omega
  case a5 => omega
  case a6 => first | exact hs0 | (rw [← hB.out]; exact HX.out.size)
  intro v1 w1 hown1 hgrow1 _
  have hk0 : ∀ k, (Value.slice (some ⟨x.heap.size, 0, none⟩) 0 0).ownBlock = some k → B ≤ k := fun k hk => by
    have h1 : x.heap.size = k := by simpa [Value.ownBlock] using hk
    have := hB.out
    omega
  have b1 : Below B x w1 := (hB.out ▸ HX.out).grown hgrow1 (by rw [← hB.out]; exact HX.out.size) hk0
  have d2 : w1.cell? ⟨m, 2, none⟩ = some (.slice (some ⟨g, 0, none⟩) L cap) := by rw [b1.cell hl]; exact c2
  have N2 : Hid (∀ j u, os[j]? = some u → w1.cell? ⟨g, j, none⟩ = some u) := fun j u hu => by rw [b1.cell hgl]; exact HN.out j u hu
  have hs1 : B ≤ w1.heap.size := by have := b1.size; have := hB.out; omega
  have HB1 := hide b1
  clear hO1 hgrow1 c2' N1 HX b1 c2 HN
  by_cases hcap : cap = i + 1
  · go_wp2_with (at_builtin; refine wpList_append_own _ rfl _ _ 38 rfl B 44 i0 (.agg #[.int .i64 0, .slice none 0 0]) 2 32 Try.underlying38 hi0 hz0 hz1 hz2 rfl (by decide) _ _ _ rfl hown1 ⟨g, 0, none⟩ (L - (i + 1)) 0 (os.drop ((i + 1) * 2)) rfl ?a1 ?a2 ?a3 ?a4 ?a5 ?a6 ?_)
    case a1 => rw [List.length_drop, HO.out]; omega
    case a2 =>
      intro j u hj
      rw [Go.WideShapes.add_plain]
      have hlt := (List.getElem?_eq_some_iff.1 hj).1
      rw [List.length_drop, HO.out] at hlt
      rw [List.getElem?_drop] at hj
      first | exact N2.out _ u hj | (exfalso; omega)
    case a3 => exact fun u hu => H1.out u (List.mem_of_mem_drop hu)
    case a4 => unfold maxLen; omega
    case a5 => omega
    case a6 => exact hs1
    intro v2 w2 hown2 hgrow2 _
    obtain ⟨ao2, n2, cap2, rfl⟩ : ∃ ao n cap, v2 = .slice ao n cap := by
      rcases hown2.2 with ⟨h1, -⟩ | ⟨_, _, _, h1, -⟩
      · exact ⟨_, _, _, h1⟩
      · exact ⟨_, _, _, h1⟩
    have b2 : Below B x w2 := HB1.out.grown hgrow2 hs1 (fun k hk => (hown1.lt k hk).1)
    have d3 : w2.cell? ⟨m, 2, none⟩ = some (.slice (some ⟨g, 0, none⟩) L cap) := by rw [b2.cell hl]; rw [← HB1.out.cell hl]; exact d2
    have f3 : w2.frozen? ⟨m, 2, none⟩ = false := by rw [b2.frozen hl]; exact hf2
    have HE := hide (HEND.out w2 _ _ _ (by rw [hB.out]; exact b2) rfl rfl (by rw [hB.out]; exact hown2))
    clear HEND hown1 hown2 hgrow2 d2 N2 b2 HB1
    go_wp2
    go_ret
    exact ⟨rfl, ⟨_, HE.out.1⟩, HE.out.2⟩
  · have hcap' : i + 1 < cap := by omega
    go_wp2_with (at_builtin; refine wpList_append_own _ rfl _ _ 38 rfl B 44 i0 (.agg #[.int .i64 0, .slice none 0 0]) 2 32 Try.underlying38 hi0 hz0 hz1 hz2 rfl (by decide) _ _ _ rfl hown1 ⟨g, (i + 1) * 2, none⟩ (L - (i + 1)) (cap - (i + 1)) (os.drop ((i + 1) * 2)) rfl ?a1 ?a2 ?a3 ?a4 ?a5 ?a6 ?_)
    case a1 => rw [List.length_drop, HO.out]; omega
    case a2 =>
      intro j u hj
      rw [Go.WideShapes.add_plain]
      have hlt := (List.getElem?_eq_some_iff.1 hj).1
      rw [List.length_drop, HO.out] at hlt
      rw [List.getElem?_drop] at hj
      first | exact N2.out _ u hj | (exfalso; omega)
    case a3 => exact fun u hu => H1.out u (List.mem_of_mem_drop hu)
    case a4 => unfold maxLen; omega
    case a5 => omega
    case a6 => exact hs1
    intro v2 w2 hown2 hgrow2 _
    obtain ⟨ao2, n2, cap2, rfl⟩ : ∃ ao n cap, v2 = .slice ao n cap := by
      rcases hown2.2 with ⟨h1, -⟩ | ⟨_, _, _, h1, -⟩
      · exact ⟨_, _, _, h1⟩
      · exact ⟨_, _, _, h1⟩
    have b2 : Below B x w2 := HB1.out.grown hgrow2 hs1 (fun k hk => (hown1.lt k hk).1)
    have d3 : w2.cell? ⟨m, 2, none⟩ = some (.slice (some ⟨g, 0, none⟩) L cap) := by rw [b2.cell hl]; rw [← HB1.out.cell hl]; exact d2
    have f3 : w2.frozen? ⟨m, 2, none⟩ = false := by rw [b2.frozen hl]; exact hf2
    have HE := hide (HEND.out w2 _ _ _ (by rw [hB.out]; exact b2) rfl rfl (by rw [hB.out]; exact hown2))
    clear HEND hown1 hown2 hgrow2 d2 N2 b2 HB1
    go_wp2
    go_ret
    exact ⟨rfl, ⟨_, HE.out.1⟩, HE.out.2⟩
end
end Go.Proofs.Ytkikfbndcaojjaa
