/- Package pages: a buffer in memory; frame, row, Has, at, some. -/
import Derived.Test.YtkikfbndcaojjaaXe
import Derived.Test.YtkikfbndcaojjaaXc
import Derived.Test.YtkikfbndcaojjaaWq
import Derived.Test.YtkikfbndcaojjaaWh
import Derived.Deep.AppendLies
import Derived.Deep.RegionHeld3
import Derived.Deep.RegionLaw
namespace Go.Proofs.Ytkikfbndcaojjaa
open Go.RowKit
/-- A page that is in: its number and its words. -/
abbrev Pg := Nat × (Nat → Int)
/-- A buffer: its struct in block t, its frames in block fb, the row of the page in frame i in the blocks g i; o tells whose a block is. -/
structure PbIs (w : World) (S : Nat → Prop) (t fb n : Nat) (bits : Int) (c : Nat) (g : Nat → Nat × Nat) (o : Nat → Nat) (F : Nat → Option Pg) : Prop where
  c0 : w.cell? ⟨t, 0, none⟩ = some (.int .i64 bits)
  c1 : w.cell? ⟨t, 1, none⟩ = some (.slice (some ⟨fb, 0, none⟩) n n)
  hn : 2 ≤ n ∧ n ≤ 8
  hb : 5 ≤ bits ∧ bits ≤ 9
  st : S t
  sf : S fb
  ot : o t = n
  of : o fb = n + 1
  ff : ∀ j, j < n * 2 → w.frozen? ⟨fb, j, none⟩ = false
  non : ∀ i, i < n → F i = none → (∃ z : Int, w.cell? ⟨fb, i * 2, none⟩ = some (.int .i64 z)) ∧ w.cell? ⟨fb, i * 2 + 1, none⟩ = some (.pointer none)
  som : ∀ i, i < n → ∀ p v, F i = some (p, v) → w.cell? ⟨fb, i * 2, none⟩ = some (.int .i64 (p : Int)) ∧ w.cell? ⟨fb, i * 2 + 1, none⟩ = some (.pointer (some ⟨(g i).1, 0, none⟩)) ∧ p % n = i ∧ p ≤ 9223372036854775807
  row : ∀ i, i < n → ∀ p v, F i = some (p, v) → ∃ won lost : Int, (0 ≤ won ∧ won ≤ (c : Int)) ∧ (0 ≤ lost ∧ lost ≤ (c : Int)) ∧ RowIs w (g i).1 (g i).2 (sizeN bits) v won lost
  own : ∀ i, i < n → ∀ p v, F i = some (p, v) → S (g i).1 ∧ S (g i).2 ∧ o (g i).1 = i ∧ o (g i).2 = i
def PB (w : World) (S : Nat → Prop) (t n : Nat) (bits : Int) (c : Nat) (F : Nat → Option Pg) : Prop := ∃ fb g o, PbIs w S t fb n bits c g o F
section
variable {w w' : World} {S T : Nat → Prop} {t fb n : Nat} {bits : Int} {c : Nat} {g : Nat → Nat × Nat} {o : Nat → Nat} {F : Nat → Option Pg}
theorem PbIs.lt (h : PbIs w S t fb n bits c g o F) : t < w.heap.size := World.block_lt_of_cell? w _ h.c0
theorem PbIs.first (h : PbIs w S t fb n bits c g o F) (i : Nat) (hi : i < n) : ∃ u, w.cell? ⟨fb, i * 2, none⟩ = some u := by
  cases e : F i with
  | none => obtain ⟨z, hz⟩ := (h.non i hi e).1; exact ⟨_, hz⟩
  | some x => exact ⟨_, (h.som i hi x.1 x.2 e).1⟩
theorem PbIs.flt (h : PbIs w S t fb n bits c g o F) : fb < w.heap.size := by
  obtain ⟨u, hu⟩ := h.first 0 (by have := h.hn; omega)
  exact World.block_lt_of_cell? w _ hu
theorem PbIs.keep (h : PbIs w S t fb n bits c g o F) (hk : Keeps T w w') (hT : ∀ k, S k → ¬ T k) : PbIs w' S t fb n bits c g o F := by
  have kt := hT t h.st
  have kf := hT fb h.sf
  refine ⟨by rw [hk.cell h.lt kt]; exact h.c0, by rw [hk.cell h.lt kt]; exact h.c1, h.hn, h.hb, h.st, h.sf, h.ot, h.of, fun j hj => by rw [hk.frozen h.flt kf]; exact h.ff j hj, fun i hi e => ?_, fun i hi p v e => ?_, fun i hi p v e => ?_, h.own⟩
  · obtain ⟨⟨u, h1⟩, h2⟩ := h.non i hi e
    exact ⟨⟨u, by rw [hk.cell h.flt kf]; exact h1⟩, by rw [hk.cell h.flt kf]; exact h2⟩
  · obtain ⟨h1, h2, h3⟩ := h.som i hi p v e
    exact ⟨by rw [hk.cell h.flt kf]; exact h1, by rw [hk.cell h.flt kf]; exact h2, h3⟩
  · obtain ⟨won, lost, h1, h2, h3⟩ := h.row i hi p v e
    obtain ⟨s1, s2, _⟩ := h.own i hi p v e
    exact ⟨won, lost, h1, h2, h3.keep hk (hT _ s1) (hT _ s2)⟩
theorem PbIs.below (h : PbIs w S t fb n bits c g o F) (hb : Below w.heap.size w w') : PbIs w' S t fb n bits c g o F := h.keep (Below.keeps (S := fun _ => False) hb) (fun _ _ => id)
theorem PbIs.wider (h : PbIs w S t fb n bits c g o F) (hT : ∀ k, S k → T k) : PbIs w T t fb n bits c g o F :=
  ⟨h.c0, h.c1, h.hn, h.hb, hT _ h.st, hT _ h.sf, h.ot, h.of, h.ff, h.non, h.som, h.row, fun i hi p v e => ⟨hT _ (h.own i hi p v e).1, hT _ (h.own i hi p v e).2.1, (h.own i hi p v e).2.2⟩⟩
theorem PbIs.more (h : PbIs w S t fb n bits c g o F) {c' : Nat} (hc : c ≤ c') : PbIs w S t fb n bits c' g o F :=
  ⟨h.c0, h.c1, h.hn, h.hb, h.st, h.sf, h.ot, h.of, h.ff, h.non, h.som, fun i hi p v e => by
    obtain ⟨won, lost, h1, h2, h3⟩ := h.row i hi p v e
    exact ⟨won, lost, ⟨h1.1, by omega⟩, ⟨h2.1, by omega⟩, h3⟩, h.own⟩
theorem PB.keep (h : PB w S t n bits c F) (hk : Keeps T w w') (hT : ∀ k, S k → ¬ T k) : PB w' S t n bits c F := by
  obtain ⟨fb, g, o, h⟩ := h; exact ⟨fb, g, o, h.keep hk hT⟩
theorem PB.below (h : PB w S t n bits c F) (hb : Below w.heap.size w w') : PB w' S t n bits c F := by
  obtain ⟨fb, g, o, h⟩ := h; exact ⟨fb, g, o, h.below hb⟩
theorem PB.wider (h : PB w S t n bits c F) (hT : ∀ k, S k → T k) : PB w T t n bits c F := by
  obtain ⟨fb, g, o, h⟩ := h; exact ⟨fb, g, o, h.wider hT⟩
theorem PB.more (h : PB w S t n bits c F) {c' : Nat} (hc : c ≤ c') : PB w S t n bits c' F := by
  obtain ⟨fb, g, o, h⟩ := h; exact ⟨fb, g, o, h.more hc⟩
end
section
variable {w : World} {S : Nat → Prop} {t fb n : Nat} {bits : Int} {c : Nat} {g : Nat → Nat × Nat} {o : Nat → Nat} {F : Nat → Option Pg}
set_option maxHeartbeats 400000 in
theorem pb_frame (h : PbIs w S t fb n bits c g o F) (P : Nat) (hP : P ≤ 9223372036854775807) :
    Calls Try.prog 31 #[.pointer (some ⟨t, 0, none⟩), .int .i64 (P : Int)] w fun e w' => e = .returned (.pointer (some ⟨fb, (P % n) * 2, none⟩)) ∧ ∃ m, w' = w.drewN m := by
  have c1 := h.c1
  have hn := h.hn
  have hq : P % n < n := Nat.mod_lt _ (by omega)
  have hm : (P : Int) % (n : Int) = ((P % n : Nat) : Int) := by simp
  have hz : ((n : Int) == 0) = false := by simp; omega
  clear h
  obtain ⟨q, hqq⟩ : ∃ q, q = P % n := ⟨_, rfl⟩
  rw [← hqq] at hq hm ⊢
  clear hqq
  go_enter Try.func31, Try.ntmps31
  go_wp2
  go_quiet (fail)
  go_wp2
  go_ret
  exact ⟨rfl, _, rfl⟩
set_option maxHeartbeats 400000 in
theorem pb_row_yes (h : PbIs w S t fb n bits c g o F) (P : Nat) (v : Nat → Int) (hP : F (P % n) = some (P, v)) :
    Calls Try.prog 30 #[.pointer (some ⟨t, 0, none⟩), .int .i64 (P : Int)] w fun e w' => e = .returned (.tuple #[.pointer (some ⟨(g (P % n)).1, 0, none⟩), .int .i64 0]) ∧ ∃ m, w' = w.drewN m := by
  have hn := h.hn
  have hq : P % n < n := Nat.mod_lt _ (by omega)
  obtain ⟨h1, h2, -, h4⟩ := h.som _ hq P v hP
  have hf := pb_frame h P h4
  have hX : ((P : Int) != (P : Int)) = false := by simp
  clear h hP
  obtain ⟨q, hqq⟩ : ∃ q, q = P % n := ⟨_, rfl⟩
  rw [← hqq] at h1 h2 hf ⊢
  clear hqq hq
  go_enter Try.func30, Try.ntmps30
  go_wp2_with fail
  refine hf.mono ?_
  rintro e x ⟨rfl, m, rfl⟩
  go_wp2
  go_ret2
  exact ⟨rfl, m, rfl⟩
set_option maxHeartbeats 400000 in
theorem pb_row_no (h : PbIs w S t fb n bits c g o F) (page : Int) (hp : page ≤ 9223372036854775807) (hno : ∀ P : Nat, page = (P : Int) → ∀ v, F (P % n) ≠ some (P, v)) :
    Calls Try.prog 30 #[.pointer (some ⟨t, 0, none⟩), .int .i64 page] w fun e w' => e = .returned (.tuple #[.pointer none, .int .i64 7]) ∧ ∃ m, w' = w.drewN m := by
  by_cases h0 : page < 0
  · clear hno h
    go_enter Try.func30, Try.ntmps30
    go_wp2
    go_ret2
    exact ⟨rfl, 0, rfl⟩
  · obtain ⟨P, rfl⟩ := Int.eq_ofNat_of_zero_le (show 0 ≤ page by omega)
    have hno' := hno P rfl
    clear hno
    have hn := h.hn
    have hq : P % n < n := Nat.mod_lt _ (by omega)
    have hf := pb_frame h P (by omega)
    cases hF : F (P % n) with
    | none =>
      obtain ⟨⟨u, h1⟩, h2⟩ := h.non _ hq hF
      clear h hno' hF
      obtain ⟨q, hqq⟩ : ∃ q, q = P % n := ⟨_, rfl⟩
      rw [← hqq] at h1 h2 hf
      clear hqq hq
      go_enter Try.func30, Try.ntmps30
      go_wp2_with fail
      refine hf.mono ?_
      rintro e x ⟨rfl, m, rfl⟩
      go_wp2
      go_ret2
      exact ⟨rfl, m, rfl⟩
    | some x =>
      obtain ⟨p, v⟩ := x
      obtain ⟨h1, h2, -, h4⟩ := h.som _ hq p v hF
      have hX : ((p : Int) != (P : Int)) = true := by
        rw [bne_iff_ne]; intro e
        have : p = P := by omega
        subst this
        exact hno' v hF
      clear h hno' hF
      obtain ⟨q, hqq⟩ : ∃ q, q = P % n := ⟨_, rfl⟩
      rw [← hqq] at h1 h2 hf
      clear hqq hq
      go_enter Try.func30, Try.ntmps30
      go_wp2_with fail
      refine hf.mono ?_
      rintro e x ⟨rfl, m, rfl⟩
      go_wp2
      go_ret2
      exact ⟨rfl, m, rfl⟩
set_option maxHeartbeats 400000 in
theorem pb_has_yes (h : PbIs w S t fb n bits c g o F) (P : Nat) (v : Nat → Int) (hP : F (P % n) = some (P, v)) :
    Calls Try.prog 11 #[.pointer (some ⟨t, 0, none⟩), .int .i64 (P : Int)] w fun e w' => e = .returned (.bool true) ∧ ∃ m, w' = w.drewN m := by
  go_enter Try.func11, Try.ntmps11
  go_wp2_with fail
  refine (pb_row_yes h P v hP).mono ?_
  rintro e x ⟨rfl, m, rfl⟩
  go_wp2
  go_ret
  exact ⟨rfl, m, rfl⟩
set_option maxHeartbeats 400000 in
theorem pb_has_no (h : PbIs w S t fb n bits c g o F) (page : Int) (hp : page ≤ 9223372036854775807) (hno : ∀ P : Nat, page = (P : Int) → ∀ v, F (P % n) ≠ some (P, v)) :
    Calls Try.prog 11 #[.pointer (some ⟨t, 0, none⟩), .int .i64 page] w fun e w' => e = .returned (.bool false) ∧ ∃ m, w' = w.drewN m := by
  go_enter Try.func11, Try.ntmps11
  go_wp2_with fail
  refine (pb_row_no h page hp hno).mono ?_
  rintro e x ⟨rfl, m, rfl⟩
  go_wp2
  go_ret
  exact ⟨rfl, m, rfl⟩
theorem pb_bits (h : PbIs w S t fb n bits c g o F) : Calls Try.prog 13 #[.pointer (some ⟨t, 0, none⟩)] w fun e w' => e = .returned (.int .i64 bits) ∧ w' = w := by
  have c0 := h.c0
  clear h
  go_enter Try.func13, Try.ntmps13
  go_wp2
  go_ret
  exact ⟨rfl, rfl⟩
theorem pb_frames (h : PbIs w S t fb n bits c g o F) : Calls Try.prog 14 #[.pointer (some ⟨t, 0, none⟩)] w fun e w' => e = .returned (.int .i64 (n : Int)) ∧ w' = w := by
  have c1 := h.c1
  clear h
  go_enter Try.func14, Try.ntmps14
  go_wp2
  go_ret
  exact ⟨rfl, rfl⟩
set_option maxHeartbeats 400000 in
theorem pb_at_yes (h : PbIs w S t fb n bits c g o F) (a : Nat) (ha : a ≤ 281474976710655) (v : Nat → Int) (hP : F (pageN bits a % n) = some (pageN bits a, v)) :
    Calls Try.prog 36 #[.pointer (some ⟨t, 0, none⟩), .int .u64 (a : Int)] w fun e w' => e = .returned (.tuple #[.pointer (some ⟨(g (pageN bits a % n)).1, 0, none⟩), .int .i64 0]) ∧ Below w.heap.size w w' := by
  have hp := page_any bits a w (by omega)
  obtain ⟨P, hPP⟩ : ∃ P, P = pageN bits a := ⟨_, rfl⟩
  rw [← hPP] at hP hp ⊢
  clear hPP
  go_enter Try.func36, Try.ntmps36
  go_wp2_with fail
  refine (pb_bits h).mono ?_
  rintro e x ⟨rfl, rfl⟩
  go_wp2_with fail
  refine hp.mono ?_
  rintro e x1 ⟨rfl, b1⟩
  replace h := h.below b1
  go_wp2_with fail
  refine (pb_row_yes h P v hP).mono ?_
  rintro e x2 ⟨rfl, m, rfl⟩
  replace b1 := below_drewN b1 m
  clear h hp
  go_wp2
  go_ret2
  exact ⟨rfl, b1⟩
set_option maxHeartbeats 400000 in
theorem pb_at_no (h : PbIs w S t fb n bits c g o F) (a : Nat) (ha : a < 18446744073709551616) (hno : a ≤ 281474976710655 → ∀ v, F (pageN bits a % n) ≠ some (pageN bits a, v)) :
    Calls Try.prog 36 #[.pointer (some ⟨t, 0, none⟩), .int .u64 (a : Int)] w fun e w' => e = .returned (.tuple #[.pointer none, .int .i64 7]) ∧ Below w.heap.size w w' := by
  have hp := page_any bits a w ha
  have hle := pageN_le bits a
  obtain ⟨P, hPP⟩ : ∃ P, P = pageN bits a := ⟨_, rfl⟩
  rw [← hPP] at hno hp hle
  clear hPP
  by_cases hP : ∃ v, F (P % n) = some (P, v)
  · obtain ⟨v, hP⟩ := hP
    have ham : (281474976710655 : Int) < (a : Int) := by
      by_cases hx : a ≤ 281474976710655
      · exact absurd hP (hno hx v)
      · omega
    clear hno
    go_enter Try.func36, Try.ntmps36
    go_wp2_with fail
    refine (pb_bits h).mono ?_
    rintro e x ⟨rfl, rfl⟩
    go_wp2_with fail
    refine hp.mono ?_
    rintro e x1 ⟨rfl, b1⟩
    replace h := h.below b1
    go_wp2_with fail
    refine (pb_row_yes h P v hP).mono ?_
    rintro e x2 ⟨rfl, m, rfl⟩
    replace b1 := below_drewN b1 m
    clear h hp
    go_wp2
    go_ret2
    exact ⟨rfl, b1⟩
  · have hno' : ∀ Q : Nat, (P : Int) = (Q : Int) → ∀ v, F (Q % n) ≠ some (Q, v) := fun Q e v hF => by
      have : P = Q := by omega
      subst this
      exact hP ⟨v, hF⟩
    clear hno hP
    go_enter Try.func36, Try.ntmps36
    go_wp2_with fail
    refine (pb_bits h).mono ?_
    rintro e x ⟨rfl, rfl⟩
    go_wp2_with fail
    refine hp.mono ?_
    rintro e x1 ⟨rfl, b1⟩
    replace h := h.below b1
    go_wp2_with fail
    refine (pb_row_no h (P : Int) (by omega) hno').mono ?_
    rintro e x2 ⟨rfl, m, rfl⟩
    replace b1 := below_drewN b1 m
    clear h hp hno'
    go_wp2
    go_ret2
    exact ⟨rfl, b1⟩
end
end Go.Proofs.Ytkikfbndcaojjaa
