/- Parts of the proof: Wy Wr. -/
import Derived.Test.YtikpphbgjbfddaaJ1
import Derived.Laws.AppendOwnNone
namespace Go.Proofs.Ytikpphbgjbfddaa
set_option maxRecDepth 20000
open Go.RowKit
/-- A slice of words as the source of an append: nil, or cells that are read. -/
def SrcU (w : World) (x : Value) (zs : List Nat) : Prop :=
  x = .slice none 0 0 ∧ zs = [] ∨ ∃ (ad : Addr) (c : Nat), x = .slice (some ad) zs.length c ∧ ∀ j, j < zs.length → w.cell? (ad.add j) = some (.int .u64 (zs[j]?.getD 0 : Nat))
theorem SrcU.below {w w' : World} {x : Value} {zs : List Nat} (h : SrcU w x zs) (hb : Below w.heap.size w w') : SrcU w' x zs := by
  rcases h with h | ⟨ad, c, h1, h2⟩
  · exact .inl h
  · exact .inr ⟨ad, c, h1, fun j hj => (hb.cell (World.block_lt_of_cell? w _ (h2 j hj))).trans (h2 j hj)⟩
theorem own_srcU {w : World} {base n : Nat} {e : TypeId} {v : Value} {zs : List Nat} (h : w.ownsRow base e 1 v n (uintsN zs)) (hl : zs.length = n) : SrcU w v zs := by
  rcases h.2 with ⟨h1, h2⟩ | ⟨g, cap, cur, h1, _⟩
  · exact .inl ⟨h1, List.eq_nil_of_length_eq_zero (by omega)⟩
  · subst h1
    exact .inr ⟨⟨g, 0, none⟩, cap, by rw [hl], fun j hj => by rw [Go.WideShapes.add_plain, Nat.zero_add]; exact own_cellsU h hl j (by omega)⟩
theorem uints_one {zs : List Nat} : ∀ u ∈ uintsN zs, u.oneCell' = true := by
  intro u hu
  simp only [uintsN, List.mem_map] at hu
  obtain ⟨a, _, rfl⟩ := hu
  rfl
theorem uintsN_append (a b : List Nat) : uintsN (a ++ b) = uintsN a ++ uintsN b := by simp [uintsN]
/-- Words appended to a row of the call's own. -/
theorem append_src {w : World} {ops : Array Oper} {rest : List Oper} {o : Oper} {a : Act} {Q : Exit → Act → World → Prop} (hgd : o.guard = none) (s x : Operand)
    (ho : o.op = .call { callee := .builtin .append, args := #[s, x], argTypes := #[41, 41] })
    (base : Nat) (v : Value) (ys : List Nat) (hs : a.eval s = v) (hown : w.ownsRow base 43 1 v ys.length (uintsN ys))
    (u : Value) (zs : List Nat) (hx : a.eval x = u) (hsrc : SrcU w u zs) (h63 : ys.length + zs.length ≤ 1000000) (hbase : base ≤ w.heap.size)
    (h : ∀ v' w' l, Hid (l = ys ++ zs) → w'.ownsRow base 43 1 v' l.length (uintsN l) → w.grownBy w' v.ownBlock → wpList Try.prog ops Q rest (a.put o.dst v') w') : wpList Try.prog ops Q (o :: rest) a w := by
  obtain ⟨i0, hi, hz0, hz1, hz2⟩ := info_parts Try.infoU64
  rcases hsrc with ⟨h1, rfl⟩ | ⟨ad, c, h1, hc⟩
  · refine wpList_append_own_none hgd s x 41 ho base 43 i0 1 Try.underlying41 hi v _ _ hs hown (by rw [hx, h1]) (h v w ys (by simp [Hid]) hown ⟨rfl, rfl, rfl, Nat.le_refl _, fun _ _ _ => rfl⟩)
  · refine wpList_append_own _ hgd s x 41 ho base 43 i0 (.int .u64 0) 1 8 Try.underlying41 hi hz0 hz1 hz2 rfl (by decide) v _ _ hs hown ad zs.length c (uintsN zs) (by rw [hx, h1]) (by rw [uintsN_length, Nat.mul_one]) ?_ uints_one (by unfold maxLen; omega) (by omega) hbase ?_
    · intro j y hj
      have hjl : j < zs.length := by
        have := (List.getElem?_eq_some_iff.1 hj).1
        rwa [uintsN_length] at this
      rw [uintsN_get _ _ hjl] at hj
      cases hj
      exact hc j hjl
    · intro v' w' h2 h3 _
      exact h v' w' _ rfl (by rw [List.length_append, uintsN_append]; exact h2) h3
theorem own_base {w : World} {base base' : Nat} {e : TypeId} {size : Nat} {v : Value} {n : Nat} {xs : List Value} (h : w.ownsRow base e size v n xs) (hb : base' ≤ base) : w.ownsRow base' e size v n xs := by
  obtain ⟨h1, h2⟩ := h
  refine ⟨h1, ?_⟩
  rcases h2 with h2 | ⟨g, cap, cur, hv, hg, r⟩
  · exact .inl h2
  · exact .inr ⟨g, cap, cur, hv, Nat.le_trans hb hg, r⟩
/-- What one round of appending does to the rest, the source's block made before. -/
theorem grow_src {W w w1 : World} {B : Nat} {e : TypeId} {v : Value} {n : Nat} {xs : List Value} (hown : w.ownsRow B e 1 v n xs) (hB : W.heap.size ≤ B) (hw : B ≤ w.heap.size)
    (hb : Below W.heap.size W w) (hg : w.grownBy w1 v.ownBlock) : Below W.heap.size W w1 :=
  hb.grown hg (by omega) (fun k hk => Nat.le_trans hB (hown.lt k hk).1)
end Go.Proofs.Ytikpphbgjbfddaa
namespace Go.Proofs.Ytikpphbgjbfddaa
set_option maxRecDepth 20000
open Go.RowKit
/-- A number as a value. -/
def valS (n : Nat) : ByteArray := strL (bytesL (fun _ => n) 8)
/-- A value's number. -/
def numN (s : ByteArray) : Nat := if s.size = 8 then leN s.data.toList else 0
theorem valS_size (n : Nat) : (valS n).size = 8 := by rw [valS, strL_size, bytesL_length]
theorem leN_bytes (n : Nat) (hn : n < 18446744073709551616) : leN (bytesL (fun _ => n) 8) = n := by
  have h := (words_of_bytes (fun _ => n) 8 1 (fun _ _ => hn)).2 (fun i h1 h2 => by omega) 0 (by decide)
  simpa only [wordAt, Nat.mul_zero, List.drop_zero, List.take_of_length_le (show (bytesL (fun _ => n) 8).length ≤ 8 by rw [bytesL_length]; decide)] using h
theorem numN_val (n : Nat) (hn : n < 18446744073709551616) : numN (valS n) = n := by
  rw [numN, if_pos (valS_size n), valS, strL_toList, leN_bytes n hn]
theorem numN_lt (s : ByteArray) : numN s < 18446744073709551616 := by
  unfold numN
  split
  · rename_i h
    have := leN_lt s.data.toList
    rw [show s.data.toList.length = 8 by simpa using h] at this
    exact this
  · decide
set_option maxHeartbeats 400000 in
theorem value_any (n : Nat) (w : World) :
    Calls Try.prog 39 #[.int .u64 (n : Int)] w fun e w' => e = .returned (.string (valS n)) ∧ Below w.heap.size w w' := by
  have SL := hide (sl_one w 43 n)
  have b1 : Below w.heap.size w (w.alloc (.cells #[.int .u64 (n : Int)] 43)) := (Below.refl _ _).alloc (Nat.le_refl _) _
  have HV : Hid ((⟨(bytesL (fun _ => n) 8).toArray⟩ : ByteArray) = valS n) := rfl
  go_enter Try.func39, Try.ntmps39
  go_wp2_with fail
  refine (bytes_ok _ 1 1 8 (fun _ => n) _ (by omega) SL.out (by decide) (fun i h1 h2 => by omega)).mono ?_
  rintro e w2 ⟨rfl, b2⟩
  replace b2 := b1.trans (b2.mono b1.size)
  rw [HV.out]
  go_wp2
  go_ret
  exact ⟨rfl, b2⟩
theorem bytesV_snoc (l : List UInt8) (x : Nat) (hx : x < 256) : bytesV (l ++ [UInt8.ofNat x]) = bytesV l ++ [.int .u8 (x : Int)] := by
  simp [bytesV, ofNat_toNat hx]
/-- Owned bytes as a string. -/
theorem own_str {w : World} {base g cap : Nat} {l : List UInt8} (h : w.ownsRow base 5 1 (.slice (some ⟨g, 0, none⟩) l.length cap) l.length (bytesV l)) (j : Nat) (hj : j < l.length) :
    w.cell? ((⟨g, 0, none⟩ : Addr).add j) = some (.int .u8 ((l[j]).toNat : Int)) := by
  rw [Go.WideShapes.add_plain, Nat.zero_add, h.cellAt j (by omega)]
  simp [bytesV, List.getElem?_eq_getElem hj]
set_option maxHeartbeats 1000000 in
theorem rvalue_any (n : Nat) (w : World) (hn : n < 18446744073709551616) :
    Calls Try.prog 17 #[.int .u64 (n : Int)] w fun e w' => e = .returned (.string (valS n)) ∧ Below w.heap.size w w' := by
  obtain ⟨i0, hi, hz0, hz1, hz2⟩ := info_parts Try.infoU8
  have HV : Hid (valS n = ⟨(bytesL (fun _ => n) 8).toArray⟩) := rfl
  go_enter Try.func17, Try.ntmps17
  go_wp2
  go_loopw [0, 3, 4] (fun x b i wr => ∃ k m : Nat, k ≤ 8 ∧ Hid (m = n / 2 ^ (8 * k)) ∧ i = .int .i64 k ∧ x = .int .u64 (m : Int) ∧ wr.ownsRow w.heap.size 5 1 b k (bytesV (bytesL (fun _ => n) k)) ∧ Below w.heap.size w wr) (fun _ _ i _ => 8 - (intOf i).toNat)
  case atStart => exact ⟨0, n, by omega, by simp [Hid], rfl, rfl, by simpa [bytesV, bytesL] using World.ownsRow_made (e := 5) (size := 1) w #[] 0 (Nat.le_refl _) (by decide) (by simp), (Below.refl _ _).alloc (Nat.le_refl _) _⟩
  case round =>
    obtain ⟨k, m, hk, HM, rfl, rfl, hown, hb⟩ := hrel
    have hB := hb.size
    by_cases hlt : k < 8
    · have hm : m < 18446744073709551616 := by rw [HM.out]; exact Nat.lt_of_le_of_lt (Nat.div_le_self _ _) hn
      have HM2 : Hid (m / 256 = n / 2 ^ (8 * (k + 1))) := by rw [HM.out]; exact div_byte n k
      have HS : Hid (bytesV (bytesL (fun _ => n) (k + 1)) = bytesV (bytesL (fun _ => n) k) ++ [.int .u8 ((m : Int) % 256)]) := by
        unfold Hid
        rw [bytesL_succ, byteAt_one n k hlt, ← HM.out, bytesV_snoc _ _ (Nat.mod_lt _ (by decide))]; simp
      have hown2 := hown.alloc (.cells #[.int .u8 ((m : Int) % 256)] 5)
      go_wp2_with (at_builtin; refine wpList_append_own _ rfl _ _ 23 rfl w.heap.size 5 i0 (.int .u8 0) 1 1 Try.underlying23 hi hz0 hz1 hz2 rfl (by decide) _ _ _ rfl hown2 ⟨wr.heap.size, 0, none⟩ 1 1 [.int .u8 ((m : Int) % 256)] rfl rfl (cell_one _ _ _) one_int ?c3 ?c4 ?c5 ?_)
      case c3 => unfold maxLen; omega
      case c4 => omega
      case c5 => simpa using Nat.le_succ_of_le hB
      intro v' w3 hown' hgrow _
      have R := grow_step hown hB hb hgrow
      rw [← HS.out] at hown'
      clear hgrow hown hown2 hb
      go_wp2
      go_roundw
      case rel => exact ⟨k + 1, m / 256, by omega, HM2, by go_num, by go_num, hown', R⟩
      case measure => simp [intOf]; omega
    · have e : k = 8 := by omega
      subst e
      obtain ⟨g, cap, rfl, _, _⟩ := own_form hown (by decide)
      have kc := run_convert_bytes_back (P := Try.prog) wr 23 9 5 ⟨g, 0, none⟩ cap (bytesL (fun _ => n) 8) Try.underlying23 Try.underlying5 Try.underlying9 (own_str (by rw [bytesL_length]; exact hown))
      rw [bytesL_length] at kc
      clear hown
      go_wp2
      go_ret
      exact ⟨ret_str HV.out.symm, hb⟩
end Go.Proofs.Ytikpphbgjbfddaa
