/- Parts of the proof: Hd Rb Hc Rc. -/
import Derived.Test.YtikpphbgjbfddaaJ2
import Derived.Test.YtikpphbgjbfddaaJ3
import Derived.Test.YtikpphbgjbfddaaJ6
import Derived.Test.YtikpphbgjbfddaaJ8
import Derived.Handy
namespace Go.Proofs.Ytikpphbgjbfddaa
set_option maxRecDepth 20000
open Go.RowKit
/-- A struct of three cells, written whole. -/
theorem set_three {x : World} {b : Nat} {u0 u1 u2 : Value} (d0 : x.cell? ⟨b, 0, none⟩ = some u0) (d1 : x.cell? ⟨b, 1, none⟩ = some u1) (d2 : x.cell? ⟨b, 2, none⟩ = some u2) (a0 a1 a2 : Value) :
    (((x.setCell ⟨b, 0, none⟩ a0).setCell ⟨b, 1, none⟩ a1).setCell ⟨b, 2, none⟩ a2).cell? ⟨b, 0, none⟩ = some a0 ∧
    (((x.setCell ⟨b, 0, none⟩ a0).setCell ⟨b, 1, none⟩ a1).setCell ⟨b, 2, none⟩ a2).cell? ⟨b, 1, none⟩ = some a1 ∧
    (((x.setCell ⟨b, 0, none⟩ a0).setCell ⟨b, 1, none⟩ a1).setCell ⟨b, 2, none⟩ a2).cell? ⟨b, 2, none⟩ = some a2 := by
  have n01 : (⟨b, 0, none⟩ : Addr) ≠ ⟨b, 1, none⟩ := by simp
  have n02 : (⟨b, 0, none⟩ : Addr) ≠ ⟨b, 2, none⟩ := by simp
  have n12 : (⟨b, 1, none⟩ : Addr) ≠ ⟨b, 2, none⟩ := by simp
  refine ⟨?_, ?_, ?_⟩
  · rw [World.cell?_setCell_other _ _ _ _ (by first | exact n02 | exact n02.symm), World.cell?_setCell_other _ _ _ _ (by first | exact n01 | exact n01.symm)]
    exact World.cell?_setCell_same _ _ _ d0
  · rw [World.cell?_setCell_other _ _ _ _ (by first | exact n12 | exact n12.symm)]
    exact World.cell?_setCell_same _ _ _ (by rw [World.cell?_setCell_other _ _ _ _ (by first | exact n01 | exact n01.symm)]; exact d1)
  · exact World.cell?_setCell_same _ _ _ (by rw [World.cell?_setCell_other _ _ _ _ (by first | exact n12 | exact n12.symm), World.cell?_setCell_other _ _ _ _ (by first | exact n02 | exact n02.symm)]; exact d2)
def hdV (p : Nat) (t i : Bool) : Value := .agg #[.int .u64 (p : Int), .bool t, .bool i]
set_option maxHeartbeats 1000000 in
theorem rpack_yes (p : Nat) (t i : Bool) (w : World) (hp : p < 281474976710656) :
    Calls Try.prog 95 #[hdV p t i] w fun e w' => e = .returned (.tuple #[.int .u64 (packN p t i : Int), .int .i64 0]) ∧ Below w.heap.size w w' := by
  have hp' : (p : Int) < 281474976710656 := by omega
  obtain ⟨A, hA⟩ : ∃ A : Nat, (p : Int) + 281474976710656 = (A : Int) := ⟨p + 281474976710656, by omega⟩
  obtain ⟨B, hB⟩ : ∃ B : Nat, (p : Int) + 562949953421312 = (B : Int) := ⟨p + 562949953421312, by omega⟩
  obtain ⟨C, hC⟩ : ∃ C : Nat, (A : Int) + 562949953421312 = (C : Int) := ⟨A + 562949953421312, by omega⟩
  have l1 : A < 1125899906842624 := by omega
  have l2 : B < 1125899906842624 := by omega
  have l3 : C < 1125899906842624 := by omega
  have H0 : Hid ((packN p false false : Int) = p) := by simp only [Hid, packN, bitN, T48, Bool.false_eq_true, if_false]; omega
  have H1 : Hid ((packN p true false : Int) = A) := by simp only [Hid, packN, bitN, T48, Bool.false_eq_true, if_false, if_true]; omega
  have H2 : Hid ((packN p false true : Int) = B) := by simp only [Hid, packN, bitN, T48, Bool.false_eq_true, if_false, if_true]; omega
  have H3 : Hid ((packN p true true : Int) = C) := by simp only [Hid, packN, bitN, T48, if_true]; omega
  have hd : decide (281474976710656 ≤ (p : Int)) = false := by rw [decide_eq_false_iff_not]; omega
  clear hp hp'
  unfold hdV
  cases t <;> cases i
  all_goals
    go_enter Try.func95, Try.ntmps95
    go_wp2
    go_ret2
    exact ⟨ret_two (by first | exact H0.out.symm | exact H1.out.symm | exact H2.out.symm | exact H3.out.symm) rfl, (Below.refl _ _).alloc (Nat.le_refl _) _⟩
set_option maxHeartbeats 1000000 in
theorem rpack_no (p : Nat) (t i : Bool) (w : World) (hp : 281474976710656 ≤ p) :
    Calls Try.prog 95 #[hdV p t i] w fun e w' => e = .returned (.tuple #[.int .u64 0, .int .i64 1]) ∧ Below w.heap.size w w' := by
  have hp' : 281474976710656 ≤ (p : Int) := by omega
  clear hp
  unfold hdV
  go_enter Try.func95, Try.ntmps95
  go_wp2
  go_ret2
  exact ⟨rfl, (Below.refl _ _).alloc (Nat.le_refl _) _⟩
end Go.Proofs.Ytikpphbgjbfddaa
namespace Go.Proofs.Ytikpphbgjbfddaa
set_option maxRecDepth 20000
open Go.RowKit
/-- A record as a value. -/
def recV (p : Nat) (t i : Bool) (k v : ByteArray) : Value := .agg #[.int .u64 (p : Int), .bool t, .bool i, .string k, .string v]
theorem cell_arg5 {w x : World} {a b c d e : Value} {T : TypeId} (hb : Below (w.alloc (.cells #[a, b, c, d, e] T)).heap.size (w.alloc (.cells #[a, b, c, d, e] T)) x) :
    x.cell? ⟨w.heap.size, 0, none⟩ = some a ∧ x.cell? ⟨w.heap.size, 1, none⟩ = some b ∧ x.cell? ⟨w.heap.size, 2, none⟩ = some c ∧ x.cell? ⟨w.heap.size, 3, none⟩ = some d ∧ x.cell? ⟨w.heap.size, 4, none⟩ = some e := by
  refine ⟨?_, ?_, ?_, ?_, ?_⟩ <;> rw [hb.cell (by simp)] <;> simp
/-- What Right tells. -/
def rightE (p : Nat) (t : Bool) (k v : Nat) : Nat := if 281474976710656 ≤ p ∨ k = 0 ∨ t = true ∧ 0 < v then 1 else if 64 < k ∨ 128 < v then 5 else 0
end Go.Proofs.Ytikpphbgjbfddaa
namespace Go.Proofs.Ytikpphbgjbfddaa
set_option maxRecDepth 20000
open Go.RowKit
set_option maxHeartbeats 400000 in
theorem rlen_arg (k v : Int) (w : World) (h : k < 0 ∨ v < 0) :
    Calls Try.prog 96 #[.int .i64 k, .int .i64 v] w fun e w' => e = .returned (.tuple #[.int .u64 0, .int .i64 1]) ∧ w' = w := by
  by_cases hk : k < 0
  · go_enter Try.func96, Try.ntmps96
    go_wp2
    go_ret2
    exact ⟨rfl, rfl⟩
  · have hv : v < 0 := by omega
    clear h
    go_enter Try.func96, Try.ntmps96
    go_wp2
    go_ret2
    exact ⟨rfl, rfl⟩
set_option maxHeartbeats 400000 in
theorem rlen_long (k v : Int) (w : World) (hk : 0 ≤ k) (hv : 0 ≤ v) (h : 64 < k ∨ 128 < v) :
    Calls Try.prog 96 #[.int .i64 k, .int .i64 v] w fun e w' => e = .returned (.tuple #[.int .u64 0, .int .i64 5]) ∧ w' = w := by
  by_cases hk' : 64 < k
  · clear h
    go_enter Try.func96, Try.ntmps96
    go_wp2
    go_ret2
    exact ⟨rfl, rfl⟩
  · have hv' : 128 < v := by omega
    clear h
    go_enter Try.func96, Try.ntmps96
    go_wp2
    go_ret2
    exact ⟨rfl, rfl⟩
set_option maxHeartbeats 1000000 in
theorem rlen_yes (k v : Nat) (w : World) (hk : k ≤ 64) (hv : v ≤ 128) :
    Calls Try.prog 96 #[.int .i64 (k : Int), .int .i64 (v : Int)] w fun e w' => e = .returned (.tuple #[.int .u64 (lenN k v : Int), .int .i64 0]) ∧ w' = w := by
  have H : Hid ((lenN k v : Int) = (k : Int) + (v : Int) * 65536 + 189850439385088) := by simp only [Hid, lenN]; omega
  go_enter Try.func96, Try.ntmps96
  go_wp2
  go_ret2
  exact ⟨ret_two H.out.symm rfl, rfl⟩
end Go.Proofs.Ytikpphbgjbfddaa
namespace Go.Proofs.Ytikpphbgjbfddaa
set_option maxRecDepth 20000
open Go.RowKit
/-- A record's words. -/
def recL (p : Nat) (t i : Bool) (k v : ByteArray) : List Nat := [packN p t i, 0, lenN k.size v.size] ++ wordsL k.data.toList (wordsFor k.size) ++ wordsL v.data.toList (wordsFor v.size)
theorem recL_length (p : Nat) (t i : Bool) (k v : ByteArray) : (recL p t i k v).length = sizeR k.size v.size := by
  simp only [recL, List.length_append, wordsL_length, sizeR]; rfl
theorem own_lit3 (w : World) (a c : Nat) : (w.alloc (.cells #[.int .u64 (a : Int), .int .u64 0, .int .u64 (c : Int)] 43)).ownsRow w.heap.size 43 1 (.slice (some ⟨w.heap.size, 0, none⟩) 3 3) [a, 0, c].length (uintsN [a, 0, c]) :=
  World.ownsRow_lit w _ 3 (Nat.le_refl _) (by decide) rfl
theorem right_parts {p : Nat} {t : Bool} {k v : Nat} (h : rightE p t k v = 0) : p < 281474976710656 ∧ 0 < k ∧ k ≤ 64 ∧ v ≤ 128 ∧ (t = true → v = 0) := by
  unfold rightE at h
  split at h
  · exact absurd h (by decide)
  · rename_i h1
    split at h
    · exact absurd h (by decide)
    · refine ⟨?_, ?_, ?_, ?_, fun ht => Nat.eq_zero_of_not_pos fun hv => h1 (.inr (.inr ⟨ht, hv⟩))⟩ <;> omega
set_option maxHeartbeats 1000000 in
theorem ref_words (p : Nat) (t i : Bool) (k v : ByteArray) (w : World) (h : rightE p t k.size v.size = 0) :
    Calls Try.prog 78 #[recV p t i k v] w fun e w' => ∃ u, e = .returned u ∧ w'.ownsRow w.heap.size 43 1 u (recL p t i k v).length (uintsN (recL p t i k v)) ∧ Below w.heap.size w w' := by
  obtain ⟨hp, h0, hs, hs', _⟩ := right_parts h
  have HL : Hid (recL p t i k v = [packN p t i, 0, lenN k.size v.size] ++ wordsL k.data.toList (wordsFor k.size) ++ wordsL v.data.toList (wordsFor v.size)) := rfl
  generalize recL p t i k v = R at *
  have l1 : wordsFor k.size ≤ 8 := by unfold wordsFor; omega
  have l2 : wordsFor v.size ≤ 16 := by unfold wordsFor; omega
  have HKl : Hid ((wordsL k.data.toList (wordsFor k.size)).length = wordsFor k.size) := wordsL_length _ _
  have HVl : Hid ((wordsL v.data.toList (wordsFor v.size)).length = wordsFor v.size) := wordsL_length _ _
  unfold recV
  go_enter Try.func78, Try.ntmps78
  go_wp2_with fail
  refine (rpack_yes p t i _ hp).mono ?_
  rintro e x ⟨rfl, b1⟩
  obtain ⟨d0, d1, d2, d3, d4⟩ := cell_arg5 b1
  have hb : Below w.heap.size w x := ((Below.refl _ w).alloc (Nat.le_refl _) _).trans (b1.mono (by simp))
  have hsz : w.heap.size < x.heap.size := World.block_lt_of_cell? x _ d0
  clear b1 d0 d1 d2 h h0
  go_wp2_with fail
  refine (rlen_yes _ _ _ hs hs').mono ?_
  rintro e x3 ⟨rfl, rfl⟩
  generalize packN p t i = P at *
  generalize lenN k.size v.size = L at *
  have ho := own_lit3 x3 P L
  replace hb := hb.alloc hb.size (.cells #[.int .u64 (P : Int), .int .u64 0, .int .u64 (L : Int)] 43)
  replace d3 := cell_alloc d3 (.cells #[.int .u64 (P : Int), .int .u64 0, .int .u64 (L : Int)] 43)
  replace d4 := cell_alloc d4 (.cells #[.int .u64 (P : Int), .int .u64 0, .int .u64 (L : Int)] 43)
  have hB : x3.heap.size ≤ (x3.alloc (.cells #[.int .u64 (P : Int), .int .u64 0, .int .u64 (L : Int)] 43)).heap.size := by simp
  have hW : w.heap.size ≤ x3.heap.size := by omega
  go_wp2_with fail
  refine (rwords_own k _ (by omega)).mono ?_
  rintro e x4 ⟨g, rfl, o4, b4⟩
  replace ho := own_below ho b4
  have hsx : w.heap.size < (x3.alloc (.cells #[.int .u64 (P : Int), .int .u64 0, .int .u64 (L : Int)] 43)).heap.size := by simp; omega
  replace d4 := (b4.cell (p := ⟨w.heap.size, 4, none⟩) hsx).trans d4
  replace hsx := Nat.lt_of_lt_of_le hsx b4.size
  replace hB := Nat.le_trans hB b4.size
  replace hb := hb.trans (b4.mono hb.size)
  have s4 := own_srcU o4 (wordsL_length _ _)
  clear o4 b4 d3
  generalize hA : [P, 0, L] = A at *
  have hAl : A.length = 3 := by rw [← hA]; rfl
  clear hA
  generalize wordsL k.data.toList (wordsFor k.size) = KL at *
  go_wp2_with (at_builtin; refine append_src rfl _ _ rfl x3.heap.size _ _ rfl ho _ _ rfl s4 ?c1 hB ?_)
  case c1 => rw [HKl.out]; omega
  intro v5 w5 AK HAK o5 g5
  have hb5 := grow_src ho hW hB hb g5
  have hB5 := Nat.le_trans hB g5.size
  have d5 := g5.cell d4 (by simp [Value.ownBlock]; omega)
  have hAK : AK.length = 3 + wordsFor k.size := by rw [HAK.out, List.length_append, hAl, HKl.out]
  clear ho g5 d4 hb hB s4
  go_wp2_with fail
  refine (rwords_own v _ (by omega)).mono ?_
  rintro e x6 ⟨g6, rfl, o6, b6⟩
  replace o5 := own_below o5 b6
  replace hB5 := Nat.le_trans hB5 b6.size
  replace hb5 := hb5.trans (b6.mono hb5.size)
  have s6 := own_srcU o6 (wordsL_length _ _)
  clear o6 b6 d5
  generalize wordsL v.data.toList (wordsFor v.size) = VL at *
  go_wp2_with (at_builtin; refine append_src rfl _ _ rfl x3.heap.size _ _ rfl o5 _ _ rfl s6 ?c2 hB5 ?_)
  case c2 => rw [HVl.out]; omega
  intro v7 w7 R' HR o7 g7
  have hb7 := grow_src o5 hW hB5 hb5 g7
  obtain rfl : R' = R := by rw [HR.out, HAK.out, HL.out]
  clear o5 g7 hb5 hB5 s6 hAK HAK HR HL
  go_wp2
  go_ret
  exact ⟨_, rfl, own_base o7 hW, hb7⟩
/-- The example's words. -/
theorem recL_ex : recL 0 false false ⟨#[97]⟩ ⟨#[]⟩ = [0, 0, 189850439385089, 97] := by decide +kernel
end Go.Proofs.Ytikpphbgjbfddaa
