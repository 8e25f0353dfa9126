/- The walks of record.Words, and of the reference's; awake. -/
import Derived.Test.YtmjolhmlhdhkfaaRb
import Derived.Test.YtmjolhmlhdhkfaaWi
import Derived.Test.YtmjolhmlhdhkfaaHc
import Derived.Laws.AppendOwnNone
namespace Go.Proofs.Ytmjolhmlhdhkfaa
open Go.RowKit
/-- A slice of words as the source of an append: nil, or cells that are read. -/
def SrcU (w : World) (x : Value) (zs : List Nat) : Prop :=
  x = .slice none 0 0 ∧ zs = [] ∨ ∃ (ad : Addr) (c : Nat), x = .slice (some ad) zs.length c ∧ ∀ j, j < zs.length → w.cell? (ad.add j) = some (.int .u64 (zs[j]?.getD 0 : Nat))
theorem SrcU.below {w w' : World} {x : Value} {zs : List Nat} (h : SrcU w x zs) (hb : Below w.heap.size w w') : SrcU w' x zs := by
  rcases h with h | ⟨ad, c, h1, h2⟩
  · exact .inl h
  · exact .inr ⟨ad, c, h1, fun j hj => (hb.cell (World.block_lt_of_cell? w _ (h2 j hj))).trans (h2 j hj)⟩
theorem own_srcU {w : World} {base n : Nat} {e : TypeId} {v : Value} {zs : List Nat} (h : w.ownsRow base e 1 v n (uintsN zs)) (hl : zs.length = n) : SrcU w v zs := by
  rcases h.2 with ⟨h1, h2⟩ | ⟨g, cap, cur, h1, _⟩
  · exact .inl ⟨h1, List.eq_nil_of_length_eq_zero (by omega)⟩
  · subst h1
    exact .inr ⟨⟨g, 0, none⟩, cap, by rw [hl], fun j hj => by rw [Go.WideShapes.add_plain, Nat.zero_add]; exact own_cellsU h hl j (by omega)⟩
theorem uints_one {zs : List Nat} : ∀ u ∈ uintsN zs, u.oneCell' = true := by
  intro u hu
  simp only [uintsN, List.mem_map] at hu
  obtain ⟨a, _, rfl⟩ := hu
  rfl
theorem uintsN_append (a b : List Nat) : uintsN (a ++ b) = uintsN a ++ uintsN b := by simp [uintsN]
/-- Words appended to a row of the call's own. -/
theorem append_src {w : World} {ops : Array Oper} {rest : List Oper} {o : Oper} {a : Act} {Q : Exit → Act → World → Prop} (hgd : o.guard = none) (s x : Operand)
    (ho : o.op = .call { callee := .builtin .append, args := #[s, x], argTypes := #[27, 27] })
    (base : Nat) (v : Value) (ys : List Nat) (hs : a.eval s = v) (hown : w.ownsRow base 22 1 v ys.length (uintsN ys))
    (u : Value) (zs : List Nat) (hx : a.eval x = u) (hsrc : SrcU w u zs) (h63 : ys.length + zs.length ≤ 1000000) (hbase : base ≤ w.heap.size)
    (h : ∀ v' w' l, Hid (l = ys ++ zs) → w'.ownsRow base 22 1 v' l.length (uintsN l) → w.grownBy w' v.ownBlock → wpList Try.prog ops Q rest (a.put o.dst v') w') : wpList Try.prog ops Q (o :: rest) a w := by
  obtain ⟨i0, hi, hz0, hz1, hz2⟩ := info_parts Try.infoU64
  rcases hsrc with ⟨h1, rfl⟩ | ⟨ad, c, h1, hc⟩
  · refine wpList_append_own_none hgd s x 27 ho base 22 i0 1 Try.underlying27 hi v _ _ hs hown (by rw [hx, h1]) (h v w ys (by simp [Hid]) hown ⟨rfl, rfl, rfl, Nat.le_refl _, fun _ _ _ => rfl⟩)
  · refine wpList_append_own _ hgd s x 27 ho base 22 i0 (.int .u64 0) 1 8 Try.underlying27 hi hz0 hz1 hz2 rfl (by decide) v _ _ hs hown ad zs.length c (uintsN zs) (by rw [hx, h1]) (by rw [uintsN_length, Nat.mul_one]) ?_ uints_one (by unfold maxLen; omega) (by omega) hbase ?_
    · intro j y hj
      have hjl : j < zs.length := by
        have := (List.getElem?_eq_some_iff.1 hj).1
        rwa [uintsN_length] at this
      rw [uintsN_get _ _ hjl] at hj
      cases hj
      exact hc j hjl
    · intro v' w' h2 h3 _
      exact h v' w' _ rfl (by rw [List.length_append, uintsN_append]; exact h2) h3
/-- A record's words. -/
def recL (p : Nat) (t i : Bool) (k v : ByteArray) : List Nat := [packN p t i, 0, lenN k.size v.size] ++ wordsL k.data.toList (wordsFor k.size) ++ wordsL v.data.toList (wordsFor v.size)
theorem recL_length (p : Nat) (t i : Bool) (k v : ByteArray) : (recL p t i k v).length = sizeN k.size v.size := by
  simp only [recL, List.length_append, wordsL_length, sizeN]; rfl
theorem own_lit3 (w : World) (a c : Nat) : (w.alloc (.cells #[.int .u64 (a : Int), .int .u64 0, .int .u64 (c : Int)] 22)).ownsRow w.heap.size 22 1 (.slice (some ⟨w.heap.size, 0, none⟩) 3 3) [a, 0, c].length (uintsN [a, 0, c]) :=
  World.ownsRow_lit w _ 3 (Nat.le_refl _) (by decide) rfl
theorem own_base {w : World} {base base' : Nat} {e : TypeId} {size : Nat} {v : Value} {n : Nat} {xs : List Value} (h : w.ownsRow base e size v n xs) (hb : base' ≤ base) : w.ownsRow base' e size v n xs := by
  obtain ⟨h1, h2⟩ := h
  refine ⟨h1, ?_⟩
  rcases h2 with h2 | ⟨g, cap, cur, hv, hg, r⟩
  · exact .inl h2
  · exact .inr ⟨g, cap, cur, hv, Nat.le_trans hb hg, r⟩
/-- What one round of appending does to the rest, the source's block made before. -/
theorem grow_src {W w w1 : World} {B : Nat} {e : TypeId} {v : Value} {n : Nat} {xs : List Value} (hown : w.ownsRow B e 1 v n xs) (hB : W.heap.size ≤ B) (hw : B ≤ w.heap.size)
    (hb : Below W.heap.size W w) (hg : w.grownBy w1 v.ownBlock) : Below W.heap.size W w1 :=
  hb.grown hg (by omega) (fun k hk => Nat.le_trans hB (hown.lt k hk).1)
theorem right_parts {p : Nat} {t : Bool} {k v : Nat} (h : rightE p t k v = 0) : p < 281474976710656 ∧ 0 < k ∧ k ≤ 64 ∧ v ≤ 128 ∧ (t = true → v = 0) := by
  unfold rightE at h
  split at h
  · exact absurd h (by decide)
  · rename_i h1
    split at h
    · exact absurd h (by decide)
    · refine ⟨?_, ?_, ?_, ?_, fun ht => Nat.eq_zero_of_not_pos fun hv => h1 (.inr (.inr ⟨ht, hv⟩))⟩ <;> omega
set_option maxHeartbeats 1000000 in
theorem words_yes (p : Nat) (t i : Bool) (k v : ByteArray) (w : World) (h : rightE p t k.size v.size = 0) :
    Calls Try.prog 9 #[recV p t i k v] w fun e w' => ∃ u, e = .returned (.tuple #[u, .int .i64 0]) ∧ w'.ownsRow w.heap.size 22 1 u (recL p t i k v).length (uintsN (recL p t i k v)) ∧ Below w.heap.size w w' := by
  obtain ⟨hp, h0, hs, hs', _⟩ := right_parts h
  have HL : Hid (recL p t i k v = [packN p t i, 0, lenN k.size v.size] ++ wordsL k.data.toList (wordsFor k.size) ++ wordsL v.data.toList (wordsFor v.size)) := rfl
  generalize recL p t i k v = R at *
  have l1 : wordsFor k.size ≤ 8 := by unfold wordsFor; omega
  have l2 : wordsFor v.size ≤ 16 := by unfold wordsFor; omega
  unfold recV
  go_enter Try.func9, Try.ntmps9
  go_wp2_with fail
  refine (rec_right p t i k v _ (by omega) (by omega)).mono ?_
  rintro e x ⟨rfl, b1⟩
  rw [h]
  obtain ⟨d0, d1, d2, d3, d4⟩ := cell_arg5 b1
  have hb : Below w.heap.size w x := ((Below.refl _ w).alloc (Nat.le_refl _) _).trans (b1.mono (by simp))
  clear b1
  go_wp2_with fail
  refine (pack_yes p t i _ hp).mono ?_
  rintro e x2 ⟨rfl, b2⟩
  have hsz : w.heap.size < x.heap.size := World.block_lt_of_cell? x _ d0
  replace d3 := (b2.cell (p := ⟨w.heap.size, 3, none⟩) hsz).trans d3
  replace d4 := (b2.cell (p := ⟨w.heap.size, 4, none⟩) hsz).trans d4
  replace hsz := Nat.lt_of_lt_of_le hsz b2.size
  replace hb := hb.trans (b2.mono hb.size)
  clear b2 d0 d1 d2
  go_wp2_with fail
  refine (len_yes _ _ _ hs hs').mono ?_
  rintro e x3 ⟨rfl, b2⟩
  replace d3 := (b2.cell (p := ⟨w.heap.size, 3, none⟩) hsz).trans d3
  replace d4 := (b2.cell (p := ⟨w.heap.size, 4, none⟩) hsz).trans d4
  replace hsz := Nat.lt_of_lt_of_le hsz b2.size
  replace hb := hb.trans (b2.mono hb.size)
  clear b2 h h0
  generalize packN p t i = P at *
  generalize lenN k.size v.size = L at *
  have ho := own_lit3 x3 P L
  replace hb := hb.alloc hb.size (.cells #[.int .u64 (P : Int), .int .u64 0, .int .u64 (L : Int)] 22)
  replace d3 := cell_alloc d3 (.cells #[.int .u64 (P : Int), .int .u64 0, .int .u64 (L : Int)] 22)
  replace d4 := cell_alloc d4 (.cells #[.int .u64 (P : Int), .int .u64 0, .int .u64 (L : Int)] 22)
  have hB : x3.heap.size ≤ (x3.alloc (.cells #[.int .u64 (P : Int), .int .u64 0, .int .u64 (L : Int)] 22)).heap.size := by simp
  have hW : w.heap.size ≤ x3.heap.size := by omega
  go_wp2_with fail
  refine (words_any k _ (by omega)).mono ?_
  rintro e x4 ⟨g, rfl, o4, b4⟩
  replace ho := own_below ho b4
  have hsx : w.heap.size < (x3.alloc (.cells #[.int .u64 (P : Int), .int .u64 0, .int .u64 (L : Int)] 22)).heap.size := by simp; omega
  replace d4 := (b4.cell (p := ⟨w.heap.size, 4, none⟩) hsx).trans d4
  replace hsx := Nat.lt_of_lt_of_le hsx b4.size
  replace hB := Nat.le_trans hB b4.size
  replace hb := hb.trans (b4.mono hb.size)
  have s4 := own_srcU o4 (wordsL_length _ _)
  clear o4 b4 d3
  have HKl : Hid ((wordsL k.data.toList (wordsFor k.size)).length = wordsFor k.size) := wordsL_length _ _
  have HVl : Hid ((wordsL v.data.toList (wordsFor v.size)).length = wordsFor v.size) := wordsL_length _ _
  generalize hA : [P, 0, L] = A at *
  have hAl : A.length = 3 := by rw [← hA]; rfl
  clear hA
  generalize wordsL k.data.toList (wordsFor k.size) = KL at *
  go_wp2_with (at_builtin; refine append_src rfl _ _ rfl x3.heap.size _ _ rfl ho _ _ rfl s4 ?c1 hB ?_)
  case c1 => rw [HKl.out]; omega
  intro v5 w5 AK HAK o5 g5
  have hb5 := grow_src ho hW hB hb g5
  have hB5 := Nat.le_trans hB g5.size
  have d5 := g5.cell d4 (by simp [Value.ownBlock]; omega)
  have hAK : AK.length = 3 + wordsFor k.size := by rw [HAK.out, List.length_append, hAl, HKl.out]
  clear ho g5 d4 hb hB s4
  go_wp2_with fail
  refine (words_any v _ (by omega)).mono ?_
  rintro e x6 ⟨g6, rfl, o6, b6⟩
  replace o5 := own_below o5 b6
  replace hB5 := Nat.le_trans hB5 b6.size
  replace hb5 := hb5.trans (b6.mono hb5.size)
  have s6 := own_srcU o6 (wordsL_length _ _)
  clear o6 b6 d5
  generalize wordsL v.data.toList (wordsFor v.size) = VL at *
  go_wp2_with (at_builtin; refine append_src rfl _ _ rfl x3.heap.size _ _ rfl o5 _ _ rfl s6 ?c2 hB5 ?_)
  case c2 => rw [HVl.out]; omega
  intro v7 w7 R' HR o7 g7
  have hb7 := grow_src o5 hW hB5 hb5 g7
  obtain rfl : R' = R := by rw [HR.out, HAK.out, HL.out]
  clear o5 g7 hb5 hB5 s6 hAK HAK HR HL
  go_wp2
  go_ret2
  exact ⟨_, rfl, own_base o7 hW, hb7⟩
set_option maxHeartbeats 1000000 in
theorem words_no (p : Nat) (t i : Bool) (k v : ByteArray) (w : World) (hs : k.size ≤ 1000000) (hs' : v.size ≤ 1000000) (h : rightE p t k.size v.size ≠ 0) :
    Calls Try.prog 9 #[recV p t i k v] w fun e w' => e = .returned (.tuple #[.slice none 0 0, .int .i64 (rightE p t k.size v.size : Int)]) ∧ Below w.heap.size w w' := by
  have hne : ((rightE p t k.size v.size : Int) != 0) = true := by rw [bne_iff_ne]; omega
  have C := hide (fun w => rec_right p t i k v w hs hs')
  clear h
  generalize rightE p t k.size v.size = E at *
  unfold recV at *
  go_enter Try.func9, Try.ntmps9
  go_wp2_with fail
  refine (C.out _).mono ?_
  rintro e x ⟨rfl, b1⟩
  have hb : Below w.heap.size w x := ((Below.refl _ w).alloc (Nat.le_refl _) _).trans (b1.mono (by simp))
  clear b1
  go_wp2
  go_ret2
  exact ⟨rfl, hb⟩
set_option maxHeartbeats 1000000 in
theorem ref_words (p : Nat) (t i : Bool) (k v : ByteArray) (w : World) (h : rightE p t k.size v.size = 0) :
    Calls Try.prog 12 #[recV p t i k v] w fun e w' => ∃ u, e = .returned u ∧ w'.ownsRow w.heap.size 22 1 u (recL p t i k v).length (uintsN (recL p t i k v)) ∧ Below w.heap.size w w' := by
  obtain ⟨hp, h0, hs, hs', _⟩ := right_parts h
  have HL : Hid (recL p t i k v = [packN p t i, 0, lenN k.size v.size] ++ wordsL k.data.toList (wordsFor k.size) ++ wordsL v.data.toList (wordsFor v.size)) := rfl
  generalize recL p t i k v = R at *
  have l1 : wordsFor k.size ≤ 8 := by unfold wordsFor; omega
  have l2 : wordsFor v.size ≤ 16 := by unfold wordsFor; omega
  have HKl : Hid ((wordsL k.data.toList (wordsFor k.size)).length = wordsFor k.size) := wordsL_length _ _
  have HVl : Hid ((wordsL v.data.toList (wordsFor v.size)).length = wordsFor v.size) := wordsL_length _ _
  unfold recV
  go_enter Try.func12, Try.ntmps12
  go_wp2_with fail
  refine (rpack_yes p t i _ hp).mono ?_
  rintro e x ⟨rfl, b1⟩
  obtain ⟨d0, d1, d2, d3, d4⟩ := cell_arg5 b1
  have hb : Below w.heap.size w x := ((Below.refl _ w).alloc (Nat.le_refl _) _).trans (b1.mono (by simp))
  have hsz : w.heap.size < x.heap.size := World.block_lt_of_cell? x _ d0
  clear b1 d0 d1 d2 h h0
  go_wp2_with fail
  refine (rlen_yes _ _ _ hs hs').mono ?_
  rintro e x3 ⟨rfl, rfl⟩
  generalize packN p t i = P at *
  generalize lenN k.size v.size = L at *
  have ho := own_lit3 x3 P L
  replace hb := hb.alloc hb.size (.cells #[.int .u64 (P : Int), .int .u64 0, .int .u64 (L : Int)] 22)
  replace d3 := cell_alloc d3 (.cells #[.int .u64 (P : Int), .int .u64 0, .int .u64 (L : Int)] 22)
  replace d4 := cell_alloc d4 (.cells #[.int .u64 (P : Int), .int .u64 0, .int .u64 (L : Int)] 22)
  have hB : x3.heap.size ≤ (x3.alloc (.cells #[.int .u64 (P : Int), .int .u64 0, .int .u64 (L : Int)] 22)).heap.size := by simp
  have hW : w.heap.size ≤ x3.heap.size := by omega
  go_wp2_with fail
  refine (rwords_own k _ (by omega)).mono ?_
  rintro e x4 ⟨g, rfl, o4, b4⟩
  replace ho := own_below ho b4
  have hsx : w.heap.size < (x3.alloc (.cells #[.int .u64 (P : Int), .int .u64 0, .int .u64 (L : Int)] 22)).heap.size := by simp; omega
  replace d4 := (b4.cell (p := ⟨w.heap.size, 4, none⟩) hsx).trans d4
  replace hsx := Nat.lt_of_lt_of_le hsx b4.size
  replace hB := Nat.le_trans hB b4.size
  replace hb := hb.trans (b4.mono hb.size)
  have s4 := own_srcU o4 (wordsL_length _ _)
  clear o4 b4 d3
  generalize hA : [P, 0, L] = A at *
  have hAl : A.length = 3 := by rw [← hA]; rfl
  clear hA
  generalize wordsL k.data.toList (wordsFor k.size) = KL at *
  go_wp2_with (at_builtin; refine append_src rfl _ _ rfl x3.heap.size _ _ rfl ho _ _ rfl s4 ?c1 hB ?_)
  case c1 => rw [HKl.out]; omega
  intro v5 w5 AK HAK o5 g5
  have hb5 := grow_src ho hW hB hb g5
  have hB5 := Nat.le_trans hB g5.size
  have d5 := g5.cell d4 (by simp [Value.ownBlock]; omega)
  have hAK : AK.length = 3 + wordsFor k.size := by rw [HAK.out, List.length_append, hAl, HKl.out]
  clear ho g5 d4 hb hB s4
  go_wp2_with fail
  refine (rwords_own v _ (by omega)).mono ?_
  rintro e x6 ⟨g6, rfl, o6, b6⟩
  replace o5 := own_below o5 b6
  replace hB5 := Nat.le_trans hB5 b6.size
  replace hb5 := hb5.trans (b6.mono hb5.size)
  have s6 := own_srcU o6 (wordsL_length _ _)
  clear o6 b6 d5
  generalize wordsL v.data.toList (wordsFor v.size) = VL at *
  go_wp2_with (at_builtin; refine append_src rfl _ _ rfl x3.heap.size _ _ rfl o5 _ _ rfl s6 ?c2 hB5 ?_)
  case c2 => rw [HVl.out]; omega
  intro v7 w7 R' HR o7 g7
  have hb7 := grow_src o5 hW hB5 hb5 g7
  obtain rfl : R' = R := by rw [HR.out, HAK.out, HL.out]
  clear o5 g7 hb5 hB5 s6 hAK HAK HR HL
  go_wp2
  go_ret
  exact ⟨_, rfl, own_base o7 hW, hb7⟩
/-- The example's words. -/
theorem recL_ex : recL 0 false false ⟨#[97]⟩ ⟨#[]⟩ = [0, 0, 189850439385089, 97] := by decide +kernel
theorem words_ex (w : World) : Calls Try.prog 9 #[.agg #[.int .u64 0, .bool false, .bool false, .string ⟨#[97]⟩, .string ⟨#[]⟩]] w fun e w' => ∃ g cap, e = .returned (.tuple #[.slice (some ⟨g, 0, none⟩) 4 cap, .int .i64 0]) ∧ w'.cell? ⟨g, 3, none⟩ = some (.int .u64 97) ∧ Below w.heap.size w w' := by
  refine (words_yes 0 false false ⟨#[97]⟩ ⟨#[]⟩ w (by decide)).mono ?_
  rintro e x ⟨u, rfl, ho, hb⟩
  rw [recL_ex] at ho
  obtain ⟨g, cap, rfl, _, _⟩ := own_form ho (by decide)
  exact ⟨g, cap, rfl, own_cellsU ho rfl 3 (by decide), hb⟩
set_option maxHeartbeats 1000000 in
theorem awake_any (w : World) :
    Calls Try.prog 7 #[] w fun e w' => e = .returned (.bool true) ∧ Below w.heap.size w w' := by
  go_enter Try.func7, Try.ntmps7
  go_wp2_with fail
  refine (words_ex _).mono ?_
  rintro e x ⟨g, cap, rfl, hc, hb⟩
  go_wp2
  go_ret
  exact ⟨rfl, hb⟩
end Go.Proofs.Ytmjolhmlhdhkfaa
