/- Parts of the proof: Pa Pb. -/
import Derived.Test.YtikpphbgjbfddaaJ2
import Derived.Test.YtikpphbgjbfddaaJ4
import Derived.Test.YtikpphbgjbfddaaJ5
import Derived.Test.YtikpphbgjbfddaaJ8
import Derived.Deep.AppendLies
import Derived.Deep.RegionHeld3
import Derived.Deep.RegionLaw
namespace Go.Proofs.Ytikpphbgjbfddaa
set_option maxRecDepth 20000
open Go.RowKit
/-- A page that is in: its number and its words. -/
abbrev Pg := Nat × (Nat → Int)
/-- A buffer: its struct in block t, its frames in block fb, the row of the page in frame i in the blocks g i; o tells whose a block is. -/
structure PbIs (w : World) (S : Nat → Prop) (t fb n : Nat) (bits : Int) (c : Nat) (g : Nat → Nat × Nat) (o : Nat → Nat) (F : Nat → Option Pg) : Prop where
  c0 : w.cell? ⟨t, 0, none⟩ = some (.int .i64 bits)
  c1 : w.cell? ⟨t, 1, none⟩ = some (.slice (some ⟨fb, 0, none⟩) n n)
  hn : 2 ≤ n ∧ n ≤ 8
  hb : 5 ≤ bits ∧ bits ≤ 9
  st : S t
  sf : S fb
  ot : o t = n
  of : o fb = n + 1
  ff : ∀ j, j < n * 2 → w.frozen? ⟨fb, j, none⟩ = false
  non : ∀ i, i < n → F i = none → (∃ z : Int, w.cell? ⟨fb, i * 2, none⟩ = some (.int .i64 z)) ∧ w.cell? ⟨fb, i * 2 + 1, none⟩ = some (.pointer none)
  som : ∀ i, i < n → ∀ p v, F i = some (p, v) → w.cell? ⟨fb, i * 2, none⟩ = some (.int .i64 (p : Int)) ∧ w.cell? ⟨fb, i * 2 + 1, none⟩ = some (.pointer (some ⟨(g i).1, 0, none⟩)) ∧ p % n = i ∧ p ≤ 9223372036854775807
  row : ∀ i, i < n → ∀ p v, F i = some (p, v) → ∃ won lost : Int, (0 ≤ won ∧ won ≤ (c : Int)) ∧ (0 ≤ lost ∧ lost ≤ (c : Int)) ∧ RowIs w (g i).1 (g i).2 (sizeN bits) v won lost
  own : ∀ i, i < n → ∀ p v, F i = some (p, v) → S (g i).1 ∧ S (g i).2 ∧ o (g i).1 = i ∧ o (g i).2 = i
def PB (w : World) (S : Nat → Prop) (t n : Nat) (bits : Int) (c : Nat) (F : Nat → Option Pg) : Prop := ∃ fb g o, PbIs w S t fb n bits c g o F
section
variable {w w' : World} {S T : Nat → Prop} {t fb n : Nat} {bits : Int} {c : Nat} {g : Nat → Nat × Nat} {o : Nat → Nat} {F : Nat → Option Pg}
theorem PbIs.lt (h : PbIs w S t fb n bits c g o F) : t < w.heap.size := World.block_lt_of_cell? w _ h.c0
theorem PbIs.first (h : PbIs w S t fb n bits c g o F) (i : Nat) (hi : i < n) : ∃ u, w.cell? ⟨fb, i * 2, none⟩ = some u := by
  cases e : F i with
  | none => obtain ⟨z, hz⟩ := (h.non i hi e).1; exact ⟨_, hz⟩
  | some x => exact ⟨_, (h.som i hi x.1 x.2 e).1⟩
theorem PbIs.flt (h : PbIs w S t fb n bits c g o F) : fb < w.heap.size := by
  obtain ⟨u, hu⟩ := h.first 0 (by have := h.hn; omega)
  exact World.block_lt_of_cell? w _ hu
theorem PbIs.keep (h : PbIs w S t fb n bits c g o F) (hk : Keeps T w w') (hT : ∀ k, S k → ¬ T k) : PbIs w' S t fb n bits c g o F := by
  have kt := hT t h.st
  have kf := hT fb h.sf
  refine ⟨by rw [hk.cell h.lt kt]; exact h.c0, by rw [hk.cell h.lt kt]; exact h.c1, h.hn, h.hb, h.st, h.sf, h.ot, h.of, fun j hj => by rw [hk.frozen h.flt kf]; exact h.ff j hj, fun i hi e => ?_, fun i hi p v e => ?_, fun i hi p v e => ?_, h.own⟩
  · obtain ⟨⟨u, h1⟩, h2⟩ := h.non i hi e
    exact ⟨⟨u, by rw [hk.cell h.flt kf]; exact h1⟩, by rw [hk.cell h.flt kf]; exact h2⟩
  · obtain ⟨h1, h2, h3⟩ := h.som i hi p v e
    exact ⟨by rw [hk.cell h.flt kf]; exact h1, by rw [hk.cell h.flt kf]; exact h2, h3⟩
  · obtain ⟨won, lost, h1, h2, h3⟩ := h.row i hi p v e
    obtain ⟨s1, s2, _⟩ := h.own i hi p v e
    exact ⟨won, lost, h1, h2, h3.keep hk (hT _ s1) (hT _ s2)⟩
theorem PbIs.below (h : PbIs w S t fb n bits c g o F) (hb : Below w.heap.size w w') : PbIs w' S t fb n bits c g o F := h.keep (Below.keeps (S := fun _ => False) hb) (fun _ _ => id)
theorem PbIs.wider (h : PbIs w S t fb n bits c g o F) (hT : ∀ k, S k → T k) : PbIs w T t fb n bits c g o F :=
  ⟨h.c0, h.c1, h.hn, h.hb, hT _ h.st, hT _ h.sf, h.ot, h.of, h.ff, h.non, h.som, h.row, fun i hi p v e => ⟨hT _ (h.own i hi p v e).1, hT _ (h.own i hi p v e).2.1, (h.own i hi p v e).2.2⟩⟩
theorem PbIs.more (h : PbIs w S t fb n bits c g o F) {c' : Nat} (hc : c ≤ c') : PbIs w S t fb n bits c' g o F :=
  ⟨h.c0, h.c1, h.hn, h.hb, h.st, h.sf, h.ot, h.of, h.ff, h.non, h.som, fun i hi p v e => by
    obtain ⟨won, lost, h1, h2, h3⟩ := h.row i hi p v e
    exact ⟨won, lost, ⟨h1.1, by omega⟩, ⟨h2.1, by omega⟩, h3⟩, h.own⟩
theorem PB.keep (h : PB w S t n bits c F) (hk : Keeps T w w') (hT : ∀ k, S k → ¬ T k) : PB w' S t n bits c F := by
  obtain ⟨fb, g, o, h⟩ := h; exact ⟨fb, g, o, h.keep hk hT⟩
theorem PB.below (h : PB w S t n bits c F) (hb : Below w.heap.size w w') : PB w' S t n bits c F := by
  obtain ⟨fb, g, o, h⟩ := h; exact ⟨fb, g, o, h.below hb⟩
theorem PB.wider (h : PB w S t n bits c F) (hT : ∀ k, S k → T k) : PB w T t n bits c F := by
  obtain ⟨fb, g, o, h⟩ := h; exact ⟨fb, g, o, h.wider hT⟩
theorem PB.more (h : PB w S t n bits c F) {c' : Nat} (hc : c ≤ c') : PB w S t n bits c' F := by
  obtain ⟨fb, g, o, h⟩ := h; exact ⟨fb, g, o, h.more hc⟩
end
section
variable {w : World} {S : Nat → Prop} {t fb n : Nat} {bits : Int} {c : Nat} {g : Nat → Nat × Nat} {o : Nat → Nat} {F : Nat → Option Pg}
set_option maxHeartbeats 400000 in
theorem pb_frame (h : PbIs w S t fb n bits c g o F) (P : Nat) (hP : P ≤ 9223372036854775807) :
    Calls Try.prog 74 #[.pointer (some ⟨t, 0, none⟩), .int .i64 (P : Int)] w fun e w' => e = .returned (.pointer (some ⟨fb, (P % n) * 2, none⟩)) ∧ ∃ m, w' = w.drewN m := by
  have c1 := h.c1
  have hn := h.hn
  have hq : P % n < n := Nat.mod_lt _ (by omega)
  have hm : (P : Int) % (n : Int) = ((P % n : Nat) : Int) := by simp
  have hz : ((n : Int) == 0) = false := by simp; omega
  clear h
  obtain ⟨q, hqq⟩ : ∃ q, q = P % n := ⟨_, rfl⟩
  rw [← hqq] at hq hm ⊢
  clear hqq
  go_enter Try.func74, Try.ntmps74
  go_wp2
  go_quiet (fail)
  go_wp2
  go_ret
  exact ⟨rfl, _, rfl⟩
set_option maxHeartbeats 400000 in
theorem pb_row_yes (h : PbIs w S t fb n bits c g o F) (P : Nat) (v : Nat → Int) (hP : F (P % n) = some (P, v)) :
    Calls Try.prog 56 #[.pointer (some ⟨t, 0, none⟩), .int .i64 (P : Int)] w fun e w' => e = .returned (.tuple #[.pointer (some ⟨(g (P % n)).1, 0, none⟩), .int .i64 0]) ∧ ∃ m, w' = w.drewN m := by
  have hn := h.hn
  have hq : P % n < n := Nat.mod_lt _ (by omega)
  obtain ⟨h1, h2, -, h4⟩ := h.som _ hq P v hP
  have hf := pb_frame h P h4
  have hX : ((P : Int) != (P : Int)) = false := by simp
  clear h hP
  obtain ⟨q, hqq⟩ : ∃ q, q = P % n := ⟨_, rfl⟩
  rw [← hqq] at h1 h2 hf ⊢
  clear hqq hq
  go_enter Try.func56, Try.ntmps56
  go_wp2_with fail
  refine hf.mono ?_
  rintro e x ⟨rfl, m, rfl⟩
  go_wp2
  go_ret2
  exact ⟨rfl, m, rfl⟩
set_option maxHeartbeats 400000 in
theorem pb_row_no (h : PbIs w S t fb n bits c g o F) (page : Int) (hp : page ≤ 9223372036854775807) (hno : ∀ P : Nat, page = (P : Int) → ∀ v, F (P % n) ≠ some (P, v)) :
    Calls Try.prog 56 #[.pointer (some ⟨t, 0, none⟩), .int .i64 page] w fun e w' => e = .returned (.tuple #[.pointer none, .int .i64 7]) ∧ ∃ m, w' = w.drewN m := by
  by_cases h0 : page < 0
  · clear hno h
    go_enter Try.func56, Try.ntmps56
    go_wp2
    go_ret2
    exact ⟨rfl, 0, rfl⟩
  · obtain ⟨P, rfl⟩ := Int.eq_ofNat_of_zero_le (show 0 ≤ page by omega)
    have hno' := hno P rfl
    clear hno
    have hn := h.hn
    have hq : P % n < n := Nat.mod_lt _ (by omega)
    have hf := pb_frame h P (by omega)
    cases hF : F (P % n) with
    | none =>
      obtain ⟨⟨u, h1⟩, h2⟩ := h.non _ hq hF
      clear h hno' hF
      obtain ⟨q, hqq⟩ : ∃ q, q = P % n := ⟨_, rfl⟩
      rw [← hqq] at h1 h2 hf
      clear hqq hq
      go_enter Try.func56, Try.ntmps56
      go_wp2_with fail
      refine hf.mono ?_
      rintro e x ⟨rfl, m, rfl⟩
      go_wp2
      go_ret2
      exact ⟨rfl, m, rfl⟩
    | some x =>
      obtain ⟨p, v⟩ := x
      obtain ⟨h1, h2, -, h4⟩ := h.som _ hq p v hF
      have hX : ((p : Int) != (P : Int)) = true := by
        rw [bne_iff_ne]; intro e
        have : p = P := by omega
        subst this
        exact hno' v hF
      clear h hno' hF
      obtain ⟨q, hqq⟩ : ∃ q, q = P % n := ⟨_, rfl⟩
      rw [← hqq] at h1 h2 hf
      clear hqq hq
      go_enter Try.func56, Try.ntmps56
      go_wp2_with fail
      refine hf.mono ?_
      rintro e x ⟨rfl, m, rfl⟩
      go_wp2
      go_ret2
      exact ⟨rfl, m, rfl⟩
set_option maxHeartbeats 400000 in
theorem pb_has_yes (h : PbIs w S t fb n bits c g o F) (P : Nat) (v : Nat → Int) (hP : F (P % n) = some (P, v)) :
    Calls Try.prog 73 #[.pointer (some ⟨t, 0, none⟩), .int .i64 (P : Int)] w fun e w' => e = .returned (.bool true) ∧ ∃ m, w' = w.drewN m := by
  go_enter Try.func73, Try.ntmps73
  go_wp2_with fail
  refine (pb_row_yes h P v hP).mono ?_
  rintro e x ⟨rfl, m, rfl⟩
  go_wp2
  go_ret
  exact ⟨rfl, m, rfl⟩
set_option maxHeartbeats 400000 in
theorem pb_has_no (h : PbIs w S t fb n bits c g o F) (page : Int) (hp : page ≤ 9223372036854775807) (hno : ∀ P : Nat, page = (P : Int) → ∀ v, F (P % n) ≠ some (P, v)) :
    Calls Try.prog 73 #[.pointer (some ⟨t, 0, none⟩), .int .i64 page] w fun e w' => e = .returned (.bool false) ∧ ∃ m, w' = w.drewN m := by
  go_enter Try.func73, Try.ntmps73
  go_wp2_with fail
  refine (pb_row_no h page hp hno).mono ?_
  rintro e x ⟨rfl, m, rfl⟩
  go_wp2
  go_ret
  exact ⟨rfl, m, rfl⟩
theorem pb_bits (h : PbIs w S t fb n bits c g o F) : Calls Try.prog 58 #[.pointer (some ⟨t, 0, none⟩)] w fun e w' => e = .returned (.int .i64 bits) ∧ w' = w := by
  have c0 := h.c0
  clear h
  go_enter Try.func58, Try.ntmps58
  go_wp2
  go_ret
  exact ⟨rfl, rfl⟩
set_option maxHeartbeats 400000 in
theorem pb_at_yes (h : PbIs w S t fb n bits c g o F) (a : Nat) (ha : a ≤ 281474976710655) (v : Nat → Int) (hP : F (pageN bits a % n) = some (pageN bits a, v)) :
    Calls Try.prog 33 #[.pointer (some ⟨t, 0, none⟩), .int .u64 (a : Int)] w fun e w' => e = .returned (.tuple #[.pointer (some ⟨(g (pageN bits a % n)).1, 0, none⟩), .int .i64 0]) ∧ Below w.heap.size w w' := by
  have hp := page_any bits a w (by omega)
  obtain ⟨P, hPP⟩ : ∃ P, P = pageN bits a := ⟨_, rfl⟩
  rw [← hPP] at hP hp ⊢
  clear hPP
  go_enter Try.func33, Try.ntmps33
  go_wp2_with fail
  refine (pb_bits h).mono ?_
  rintro e x ⟨rfl, rfl⟩
  go_wp2_with fail
  refine hp.mono ?_
  rintro e x1 ⟨rfl, b1⟩
  replace h := h.below b1
  go_wp2_with fail
  refine (pb_row_yes h P v hP).mono ?_
  rintro e x2 ⟨rfl, m, rfl⟩
  replace b1 := below_drewN b1 m
  clear h hp
  go_wp2
  go_ret2
  exact ⟨rfl, b1⟩
set_option maxHeartbeats 400000 in
theorem pb_at_no (h : PbIs w S t fb n bits c g o F) (a : Nat) (ha : a < 18446744073709551616) (hno : a ≤ 281474976710655 → ∀ v, F (pageN bits a % n) ≠ some (pageN bits a, v)) :
    Calls Try.prog 33 #[.pointer (some ⟨t, 0, none⟩), .int .u64 (a : Int)] w fun e w' => e = .returned (.tuple #[.pointer none, .int .i64 7]) ∧ Below w.heap.size w w' := by
  have hp := page_any bits a w ha
  have hle := pageN_le bits a
  obtain ⟨P, hPP⟩ : ∃ P, P = pageN bits a := ⟨_, rfl⟩
  rw [← hPP] at hno hp hle
  clear hPP
  by_cases hP : ∃ v, F (P % n) = some (P, v)
  · obtain ⟨v, hP⟩ := hP
    have ham : (281474976710655 : Int) < (a : Int) := by
      by_cases hx : a ≤ 281474976710655
      · exact absurd hP (hno hx v)
      · omega
    clear hno
    go_enter Try.func33, Try.ntmps33
    go_wp2_with fail
    refine (pb_bits h).mono ?_
    rintro e x ⟨rfl, rfl⟩
    go_wp2_with fail
    refine hp.mono ?_
    rintro e x1 ⟨rfl, b1⟩
    replace h := h.below b1
    go_wp2_with fail
    refine (pb_row_yes h P v hP).mono ?_
    rintro e x2 ⟨rfl, m, rfl⟩
    replace b1 := below_drewN b1 m
    clear h hp
    go_wp2
    go_ret2
    exact ⟨rfl, b1⟩
  · have hno' : ∀ Q : Nat, (P : Int) = (Q : Int) → ∀ v, F (Q % n) ≠ some (Q, v) := fun Q e v hF => by
      have : P = Q := by omega
      subst this
      exact hP ⟨v, hF⟩
    clear hno hP
    go_enter Try.func33, Try.ntmps33
    go_wp2_with fail
    refine (pb_bits h).mono ?_
    rintro e x ⟨rfl, rfl⟩
    go_wp2_with fail
    refine hp.mono ?_
    rintro e x1 ⟨rfl, b1⟩
    replace h := h.below b1
    go_wp2_with fail
    refine (pb_row_no h (P : Int) (by omega) hno').mono ?_
    rintro e x2 ⟨rfl, m, rfl⟩
    replace b1 := below_drewN b1 m
    clear h hp hno'
    go_wp2
    go_ret2
    exact ⟨rfl, b1⟩
end
end Go.Proofs.Ytikpphbgjbfddaa
namespace Go.Proofs.Ytikpphbgjbfddaa
set_option maxRecDepth 20000
open Go.RowKit
def updF (F : Nat → Option Pg) (i : Nat) (x : Option Pg) : Nat → Option Pg := fun j => if j = i then x else F j
theorem updF_same (F : Nat → Option Pg) (i : Nat) (x : Option Pg) : updF F i x i = x := by simp [updF]
theorem updF_other (F : Nat → Option Pg) {i j : Nat} (x : Option Pg) (h : j ≠ i) : updF F i x j = F j := by simp [updF, h]
section
variable {w w' : World} {S : Nat → Prop} {t fb n : Nat} {bits : Int} {c : Nat} {g : Nat → Nat × Nat} {o : Nat → Nat} {F : Nat → Option Pg}
theorem PbIs.apart (h : PbIs w S t fb n bits c g o F) {i : Nat} (hi : i < n) {p : Nat} {v : Nat → Int} (hF : F i = some (p, v)) {k : Nat} (hk : o k ≠ i) : ¬ InRow (g i).1 (g i).2 k := by
  obtain ⟨-, -, o1, o2⟩ := h.own i hi p v hF
  rintro (e | e)
  · subst e; exact hk o1
  · subst e; exact hk o2
/-- A row is written. -/
theorem PbIs.write (h : PbIs w S t fb n bits c g o F) {i : Nat} (hi : i < n) {p : Nat} {v v' : Nat → Int} {won lost : Int} (hF : F i = some (p, v)) (hk : Keeps (InRow (g i).1 (g i).2) w w') (hR : RowIs w' (g i).1 (g i).2 (sizeN bits) v' won lost)
    (hw : 0 ≤ won ∧ won ≤ ((c + 1 : Nat) : Int)) (hl : 0 ≤ lost ∧ lost ≤ ((c + 1 : Nat) : Int)) : PbIs w' S t fb n bits (c + 1) g o (updF F i (some (p, v'))) ∧ Keeps S w w' := by
  obtain ⟨s1, s2, o1, o2⟩ := h.own i hi p v hF
  have kt := h.apart hi hF (k := t) (by rw [h.ot]; omega)
  have kf := h.apart hi hF (k := fb) (by rw [h.of]; omega)
  refine ⟨⟨by rw [hk.cell h.lt kt]; exact h.c0, by rw [hk.cell h.lt kt]; exact h.c1, h.hn, h.hb, h.st, h.sf, h.ot, h.of, fun j hj => by rw [hk.frozen h.flt kf]; exact h.ff j hj, fun j hj e => ?_, fun j hj q u e => ?_, fun j hj q u e => ?_, fun j hj q u e => ?_⟩, hk.wider (fun k _ hs => by rcases hs with rfl | rfl; exact s1; exact s2)⟩
  · by_cases e1 : j = i
    · subst e1; rw [updF_same] at e; exact absurd e (by simp)
    · rw [updF_other _ _ e1] at e
      obtain ⟨⟨u, h1⟩, h2⟩ := h.non j hj e
      exact ⟨⟨u, by rw [hk.cell h.flt kf]; exact h1⟩, by rw [hk.cell h.flt kf]; exact h2⟩
  · by_cases e1 : j = i
    · subst e1; rw [updF_same] at e
      cases e
      obtain ⟨h1, h2, h3⟩ := h.som j hj p v hF
      exact ⟨by rw [hk.cell h.flt kf]; exact h1, by rw [hk.cell h.flt kf]; exact h2, h3⟩
    · rw [updF_other _ _ e1] at e
      obtain ⟨h1, h2, h3⟩ := h.som j hj q u e
      exact ⟨by rw [hk.cell h.flt kf]; exact h1, by rw [hk.cell h.flt kf]; exact h2, h3⟩
  · by_cases e1 : j = i
    · subst e1; rw [updF_same] at e
      cases e
      exact ⟨won, lost, hw, hl, hR⟩
    · rw [updF_other _ _ e1] at e
      obtain ⟨x, y, h1, h2, h3⟩ := h.row j hj q u e
      obtain ⟨-, -, p1, p2⟩ := h.own j hj q u e
      exact ⟨x, y, ⟨h1.1, by omega⟩, ⟨h2.1, by omega⟩, h3.keep hk (h.apart hi hF (by rw [p1]; exact e1)) (h.apart hi hF (by rw [p2]; exact e1))⟩
  · by_cases e1 : j = i
    · subst e1; exact ⟨s1, s2, o1, o2⟩
    · rw [updF_other _ _ e1] at e
      exact h.own j hj q u e
end
section
variable {w : World} {S : Nat → Prop} {t fb n : Nat} {bits : Int} {c : Nat} {g : Nat → Nat × Nat} {o : Nat → Nat} {F : Nat → Option Pg}
theorem PbIs.mod_lt (h : PbIs w S t fb n bits c g o F) (P : Nat) : P % n < n := Nat.mod_lt _ (by have := h.hn; omega)
theorem off_lt (b : Int) (a : Nat) (hb : 5 ≤ b ∧ b ≤ 9) : offN b a < sizeN b := by
  rw [sizeN_yes hb]
  unfold offN
  split
  · exact Nat.mod_lt _ (pow_pos2 _)
  · exact pow_pos2 _
theorem off_room (b : Int) (a : Nat) (hb : 5 ≤ b ∧ b ≤ 9) (ha : a ≤ 281474976710655) : offN b a + roomN b a = sizeN b := by
  have h1 := Nat.mod_lt a (pow_pos2 b.toNat)
  simp only [offN, roomN, if_pos (And.intro hb ha), sizeN_yes hb]
  omega
set_option maxHeartbeats 400000 in
theorem pb_load_yes (h : PbIs w S t fb n bits c g o F) (a : Nat) (ha : a ≤ 281474976710655) (v : Nat → Int) (hP : F (pageN bits a % n) = some (pageN bits a, v)) (y : Int) (hy : v (offN bits a) = y) :
    Calls Try.prog 16 #[.pointer (some ⟨t, 0, none⟩), .int .u64 (a : Int)] w fun e w' => e = .returned (.tuple #[.int .u64 y, .int .i64 0]) ∧ Below w.heap.size w w' := by
  have hoff := off_lt bits a h.hb
  go_enter Try.func16, Try.ntmps16
  go_wp2_with fail
  refine (pb_at_yes h a ha v hP).mono ?_
  rintro e x ⟨rfl, b1⟩
  have h1 := h.below b1
  have c0 := h1.c0
  go_wp2_with fail
  refine (offset_any bits a x (by omega)).mono ?_
  rintro e x1 ⟨rfl, b2⟩
  have h2 := h1.below b2
  replace b2 := b1.trans (b2.mono b1.size)
  obtain ⟨won, lost, -, -, hR⟩ := h2.row _ (h.mod_lt _) _ v hP
  have hl := rload hR (offN bits a) hoff y hy
  clear h h1 h2 hR
  go_wp2_with fail
  refine hl.mono ?_
  rintro e x2 ⟨rfl, rfl⟩
  go_wp2
  go_ret2
  exact ⟨rfl, b2⟩
set_option maxHeartbeats 400000 in
theorem pb_load_no (h : PbIs w S t fb n bits c g o F) (a : Nat) (ha : a < 18446744073709551616) (hno : a ≤ 281474976710655 → ∀ v, F (pageN bits a % n) ≠ some (pageN bits a, v)) :
    Calls Try.prog 16 #[.pointer (some ⟨t, 0, none⟩), .int .u64 (a : Int)] w fun e w' => e = .returned (.tuple #[.int .u64 0, .int .i64 7]) ∧ Below w.heap.size w w' := by
  go_enter Try.func16, Try.ntmps16
  go_wp2_with fail
  refine (pb_at_no h a ha hno).mono ?_
  rintro e x ⟨rfl, b1⟩
  clear h hno
  go_wp2
  go_ret2
  exact ⟨rfl, b1⟩
set_option maxHeartbeats 400000 in
theorem pb_store_yes (h : PbIs w S t fb n bits c g o F) (a : Nat) (ha : a ≤ 281474976710655) (v : Nat → Int) (hP : F (pageN bits a % n) = some (pageN bits a, v)) (y : Int) :
    Calls Try.prog 71 #[.pointer (some ⟨t, 0, none⟩), .int .u64 (a : Int), .int .u64 y] w fun e w' => e = .returned (.int .i64 0) ∧ PbIs w' S t fb n bits (c + 1) g o (updF F (pageN bits a % n) (some (pageN bits a, updV v (offN bits a) y))) ∧ Keeps S w w' := by
  have hoff := off_lt bits a h.hb
  go_enter Try.func71, Try.ntmps71
  go_wp2_with fail
  refine (pb_at_yes h a ha v hP).mono ?_
  rintro e x ⟨rfl, b1⟩
  have h1 := h.below b1
  have c0 := h1.c0
  go_wp2_with fail
  refine (offset_any bits a x (by omega)).mono ?_
  rintro e x1 ⟨rfl, b2⟩
  have h2 := h1.below b2
  replace b2 := b1.trans (b2.mono b1.size)
  obtain ⟨won, lost, hw, hl, hR⟩ := h2.row _ (h.mod_lt _) _ v hP
  have hst := kstore hR (offN bits a) hoff y
  go_wp2_with fail
  refine hst.mono ?_
  rintro e x2 ⟨rfl, hR2, k2⟩
  obtain ⟨h3, k3⟩ := h2.write (h.mod_lt _) hP k2 hR2 ⟨hw.1, by omega⟩ ⟨hl.1, by omega⟩
  replace k3 := (Below.keeps (S := S) b2).trans k3 (fun _ _ t => t)
  clear h h1 h2 hR c0 hR2 k2 hst
  go_wp2
  go_ret
  exact ⟨rfl, h3, k3⟩
set_option maxHeartbeats 400000 in
theorem pb_store_no (h : PbIs w S t fb n bits c g o F) (a : Nat) (ha : a < 18446744073709551616) (hno : a ≤ 281474976710655 → ∀ v, F (pageN bits a % n) ≠ some (pageN bits a, v)) (y : Int) :
    Calls Try.prog 71 #[.pointer (some ⟨t, 0, none⟩), .int .u64 (a : Int), .int .u64 y] w fun e w' => e = .returned (.int .i64 7) ∧ Below w.heap.size w w' := by
  go_enter Try.func71, Try.ntmps71
  go_wp2_with fail
  refine (pb_at_no h a ha hno).mono ?_
  rintro e x ⟨rfl, b1⟩
  clear h hno
  go_wp2
  go_ret
  exact ⟨rfl, b1⟩
set_option maxHeartbeats 400000 in
theorem pb_cas_hit (h : PbIs w S t fb n bits c g o F) (hc : c ≤ 1000000) (a : Nat) (ha : a ≤ 281474976710655) (v : Nat → Int) (hP : F (pageN bits a % n) = some (pageN bits a, v)) (x y : Int) (hx : v (offN bits a) = x) :
    Calls Try.prog 68 #[.pointer (some ⟨t, 0, none⟩), .int .u64 (a : Int), .int .u64 x, .int .u64 y] w fun e w' => e = .returned (.tuple #[.bool true, .int .i64 0]) ∧ PbIs w' S t fb n bits (c + 1) g o (updF F (pageN bits a % n) (some (pageN bits a, updV v (offN bits a) y))) ∧ Keeps S w w' := by
  have hoff := off_lt bits a h.hb
  go_enter Try.func68, Try.ntmps68
  go_wp2_with fail
  refine (pb_at_yes h a ha v hP).mono ?_
  rintro e x0 ⟨rfl, b1⟩
  have h1 := h.below b1
  have c0 := h1.c0
  go_wp2_with fail
  refine (offset_any bits a x0 (by omega)).mono ?_
  rintro e x1 ⟨rfl, b2⟩
  have h2 := h1.below b2
  replace b2 := b1.trans (b2.mono b1.size)
  obtain ⟨won, lost, hw, hl, hR⟩ := h2.row _ (h.mod_lt _) _ v hP
  have hst := kcas_hit hR (offN bits a) hoff x hx y ⟨hw.1, by omega⟩
  go_wp2_with fail
  refine hst.mono ?_
  rintro e x2 ⟨rfl, hR2, k2⟩
  obtain ⟨h3, k3⟩ := h2.write (h.mod_lt _) hP k2 hR2 ⟨by omega, by omega⟩ ⟨hl.1, by omega⟩
  replace k3 := (Below.keeps (S := S) b2).trans k3 (fun _ _ t => t)
  clear h h1 h2 hR c0 hR2 k2 hst
  go_wp2
  go_ret2
  exact ⟨rfl, h3, k3⟩
set_option maxHeartbeats 400000 in
theorem pb_cas_miss (h : PbIs w S t fb n bits c g o F) (hc : c ≤ 1000000) (a : Nat) (ha : a ≤ 281474976710655) (v : Nat → Int) (hP : F (pageN bits a % n) = some (pageN bits a, v)) (x y : Int) (hx : ¬ v (offN bits a) = x) :
    Calls Try.prog 68 #[.pointer (some ⟨t, 0, none⟩), .int .u64 (a : Int), .int .u64 x, .int .u64 y] w fun e w' => e = .returned (.tuple #[.bool false, .int .i64 0]) ∧ PbIs w' S t fb n bits (c + 1) g o F ∧ Keeps S w w' := by
  have hoff := off_lt bits a h.hb
  go_enter Try.func68, Try.ntmps68
  go_wp2_with fail
  refine (pb_at_yes h a ha v hP).mono ?_
  rintro e x0 ⟨rfl, b1⟩
  have h1 := h.below b1
  have c0 := h1.c0
  go_wp2_with fail
  refine (offset_any bits a x0 (by omega)).mono ?_
  rintro e x1 ⟨rfl, b2⟩
  have h2 := h1.below b2
  replace b2 := b1.trans (b2.mono b1.size)
  obtain ⟨won, lost, hw, hl, hR⟩ := h2.row _ (h.mod_lt _) _ v hP
  have hst := kcas_miss hR (offN bits a) hoff x hx y ⟨hl.1, by omega⟩
  go_wp2_with fail
  refine hst.mono ?_
  rintro e x2 ⟨rfl, hR2, k2⟩
  obtain ⟨h3, k3⟩ := h2.write (h.mod_lt _) hP k2 hR2 ⟨hw.1, by omega⟩ ⟨by omega, by omega⟩
  replace k3 := (Below.keeps (S := S) b2).trans k3 (fun _ _ t => t)
  have e3 : updF F (pageN bits a % n) (some (pageN bits a, v)) = F := by
    funext j
    by_cases e : j = pageN bits a % n
    · subst e; rw [updF_same, hP]
    · rw [updF_other _ _ e]
  rw [e3] at h3
  clear h h1 h2 hR c0 hR2 k2 hst e3
  go_wp2
  go_ret2
  exact ⟨rfl, h3, k3⟩
set_option maxHeartbeats 400000 in
theorem pb_cas_no (h : PbIs w S t fb n bits c g o F) (a : Nat) (ha : a < 18446744073709551616) (hno : a ≤ 281474976710655 → ∀ v, F (pageN bits a % n) ≠ some (pageN bits a, v)) (x y : Int) :
    Calls Try.prog 68 #[.pointer (some ⟨t, 0, none⟩), .int .u64 (a : Int), .int .u64 x, .int .u64 y] w fun e w' => e = .returned (.tuple #[.bool false, .int .i64 7]) ∧ Below w.heap.size w w' := by
  go_enter Try.func68, Try.ntmps68
  go_wp2_with fail
  refine (pb_at_no h a ha hno).mono ?_
  rintro e x ⟨rfl, b1⟩
  clear h hno
  go_wp2
  go_ret2
  exact ⟨rfl, b1⟩
set_option maxHeartbeats 400000 in
theorem pb_some_yes (h : PbIs w S t fb n bits c g o F) (a : Nat) (ha : a ≤ 281474976710655) (v : Nat → Int) (hP : F (pageN bits a % n) = some (pageN bits a, v)) (k : Int) (hk : fitsB bits a k = true) :
    Calls Try.prog 51 #[.pointer (some ⟨t, 0, none⟩), .int .u64 (a : Int), .int .i64 k] w fun e w' => e = .returned (.tuple #[.pointer (some ⟨(g (pageN bits a % n)).1, 0, none⟩), .int .i64 0]) ∧ Below w.heap.size w w' := by
  go_enter Try.func51, Try.ntmps51
  go_wp2_with fail
  refine (pb_at_yes h a ha v hP).mono ?_
  rintro e x ⟨rfl, b1⟩
  have h1 := h.below b1
  have c0 := h1.c0
  clear h h1
  go_wp2_with fail
  refine (fits_any bits a k x (by omega)).mono ?_
  rintro e x1 ⟨rfl, b2⟩
  replace b2 := b1.trans (b2.mono b1.size)
  go_wp2
  go_ret2
  exact ⟨rfl, b2⟩
set_option maxHeartbeats 400000 in
theorem pb_some_arg (h : PbIs w S t fb n bits c g o F) (a : Nat) (ha : a ≤ 281474976710655) (v : Nat → Int) (hP : F (pageN bits a % n) = some (pageN bits a, v)) (k : Int) (hk : fitsB bits a k = false) :
    Calls Try.prog 51 #[.pointer (some ⟨t, 0, none⟩), .int .u64 (a : Int), .int .i64 k] w fun e w' => e = .returned (.tuple #[.pointer none, .int .i64 1]) ∧ Below w.heap.size w w' := by
  go_enter Try.func51, Try.ntmps51
  go_wp2_with fail
  refine (pb_at_yes h a ha v hP).mono ?_
  rintro e x ⟨rfl, b1⟩
  have h1 := h.below b1
  have c0 := h1.c0
  clear h h1
  go_wp2_with fail
  refine (fits_any bits a k x (by omega)).mono ?_
  rintro e x1 ⟨rfl, b2⟩
  replace b2 := b1.trans (b2.mono b1.size)
  go_wp2
  go_ret2
  exact ⟨rfl, b2⟩
set_option maxHeartbeats 400000 in
theorem pb_some_no (h : PbIs w S t fb n bits c g o F) (a : Nat) (ha : a < 18446744073709551616) (hno : a ≤ 281474976710655 → ∀ v, F (pageN bits a % n) ≠ some (pageN bits a, v)) (k : Int) :
    Calls Try.prog 51 #[.pointer (some ⟨t, 0, none⟩), .int .u64 (a : Int), .int .i64 k] w fun e w' => e = .returned (.tuple #[.pointer none, .int .i64 7]) ∧ Below w.heap.size w w' := by
  go_enter Try.func51, Try.ntmps51
  go_wp2_with fail
  refine (pb_at_no h a ha hno).mono ?_
  rintro e x ⟨rfl, b1⟩
  clear h hno
  go_wp2
  go_ret2
  exact ⟨rfl, b1⟩
set_option maxHeartbeats 400000 in
theorem pb_words_yes (h : PbIs w S t fb n bits c g o F) (a : Nat) (ha : a ≤ 281474976710655) (v : Nat → Int) (hP : F (pageN bits a % n) = some (pageN bits a, v)) (k : Nat) (hk : fitsB bits a k = true) :
    Calls Try.prog 30 #[.pointer (some ⟨t, 0, none⟩), .int .u64 (a : Int), .int .i64 (k : Int)] w fun e w' => ∃ b, e = .returned (.tuple #[.slice (some ⟨b, 0, none⟩) k k, .int .i64 0]) ∧ Sl .u64 w' (some ⟨b, 0, none⟩) k (fun j => v (offN bits a + j)) ∧ Below w.heap.size w w' := by
  have hrm := off_room bits a h.hb ha
  have hsz := sizeN_bounds bits
  have hkr : k ≤ roomN bits a := by unfold fitsB at hk; simp at hk; omega
  go_enter Try.func30, Try.ntmps30
  go_wp2_with fail
  refine (pb_some_yes h a ha v hP _ hk).mono ?_
  rintro e x ⟨rfl, b1⟩
  have h1 := h.below b1
  have c0 := h1.c0
  go_wp2_with fail
  refine (offset_any bits a x (by omega)).mono ?_
  rintro e x1 ⟨rfl, b2⟩
  have h2 := h1.below b2
  replace b2 := b1.trans (b2.mono b1.size)
  obtain ⟨won, lost, hw, hl, hR⟩ := h2.row _ (h.mod_lt _) _ v hP
  have hst := rwords hR (by omega) (offN bits a) k (by omega)
  clear h h1 h2 hR c0
  go_wp2_with fail
  refine hst.mono ?_
  rintro e x2 ⟨b, rfl, hs, -, b3⟩
  replace b3 := b2.trans (b3.mono b2.size)
  clear hst
  go_wp2
  go_ret2
  exact ⟨b, rfl, hs, b3⟩
set_option maxHeartbeats 400000 in
theorem pb_words_arg (h : PbIs w S t fb n bits c g o F) (a : Nat) (ha : a ≤ 281474976710655) (v : Nat → Int) (hP : F (pageN bits a % n) = some (pageN bits a, v)) (k : Int) (hk : fitsB bits a k = false) :
    Calls Try.prog 30 #[.pointer (some ⟨t, 0, none⟩), .int .u64 (a : Int), .int .i64 k] w fun e w' => e = .returned (.tuple #[.slice none 0 0, .int .i64 1]) ∧ Below w.heap.size w w' := by
  go_enter Try.func30, Try.ntmps30
  go_wp2_with fail
  refine (pb_some_arg h a ha v hP k hk).mono ?_
  rintro e x ⟨rfl, b1⟩
  clear h
  go_wp2
  go_ret2
  exact ⟨rfl, b1⟩
set_option maxHeartbeats 400000 in
theorem pb_words_no (h : PbIs w S t fb n bits c g o F) (a : Nat) (ha : a < 18446744073709551616) (hno : a ≤ 281474976710655 → ∀ v, F (pageN bits a % n) ≠ some (pageN bits a, v)) (k : Int) :
    Calls Try.prog 30 #[.pointer (some ⟨t, 0, none⟩), .int .u64 (a : Int), .int .i64 k] w fun e w' => e = .returned (.tuple #[.slice none 0 0, .int .i64 7]) ∧ Below w.heap.size w w' := by
  go_enter Try.func30, Try.ntmps30
  go_wp2_with fail
  refine (pb_some_no h a ha hno k).mono ?_
  rintro e x ⟨rfl, b1⟩
  clear h hno
  go_wp2
  go_ret2
  exact ⟨rfl, b1⟩
set_option maxHeartbeats 400000 in
theorem pb_fill_yes (h : PbIs w S t fb n bits c g o F) (a : Nat) (ha : a ≤ 281474976710655) (v : Nat → Int) (hP : F (pageN bits a % n) = some (pageN bits a, v)) (k cap : Nat) (hk : fitsB bits a k = true) (ao : Option Addr) (z : Nat → Int) (hs : Sl .u64 w ao k z) (hz : 0 < k → ∀ b off, ao = some ⟨b, off, none⟩ → ¬ S b) :
    Calls Try.prog 49 #[.pointer (some ⟨t, 0, none⟩), .int .u64 (a : Int), .slice ao k cap] w fun e w' => e = .returned (.int .i64 0) ∧ PbIs w' S t fb n bits (c + 1) g o (updF F (pageN bits a % n) (some (pageN bits a, fillV v (offN bits a) k z))) ∧ Keeps S w w' := by
  have hrm := off_room bits a h.hb ha
  have hsz := sizeN_bounds bits
  have hkr : k ≤ roomN bits a := by unfold fitsB at hk; simp at hk; omega
  obtain ⟨s1, s2, -⟩ := h.own _ (h.mod_lt _) _ v hP
  have hz' : 0 < k → ∀ b off, ao = some ⟨b, off, none⟩ → ¬ InRow (g (pageN bits a % n)).1 (g (pageN bits a % n)).2 b := fun h0 b off e hI => hz h0 b off e (by rcases hI with rfl | rfl; exact s1; exact s2)
  clear hz s1 s2
  go_enter Try.func49, Try.ntmps49
  go_wp2_with fail
  refine (pb_some_yes h a ha v hP _ hk).mono ?_
  rintro e x ⟨rfl, b1⟩
  have h1 := h.below b1
  have c0 := h1.c0
  have hs1 := hs.below b1
  go_wp2_with fail
  refine (offset_any bits a x (by omega)).mono ?_
  rintro e x1 ⟨rfl, b2⟩
  have h2 := h1.below b2
  have hs2 := hs1.below b2
  replace b2 := b1.trans (b2.mono b1.size)
  obtain ⟨won, lost, hw, hl, hR⟩ := h2.row _ (h.mod_lt _) _ v hP
  have hst := rfill hR (by omega) (offN bits a) k cap (by omega) ao z hs2 hz'
  go_wp2_with fail
  refine hst.mono ?_
  rintro e x2 ⟨rfl, hR2, k2⟩
  obtain ⟨h3, k3⟩ := h2.write (h.mod_lt _) hP k2 hR2 ⟨hw.1, by omega⟩ ⟨hl.1, by omega⟩
  replace k3 := (Below.keeps (S := S) b2).trans k3 (fun _ _ t => t)
  clear h h1 h2 hR c0 hR2 k2 hst hs hs1 hs2 hz'
  go_wp2
  go_ret
  exact ⟨rfl, h3, k3⟩
set_option maxHeartbeats 400000 in
theorem pb_fill_arg (h : PbIs w S t fb n bits c g o F) (a : Nat) (ha : a ≤ 281474976710655) (v : Nat → Int) (hP : F (pageN bits a % n) = some (pageN bits a, v)) (k cap : Nat) (hk : fitsB bits a k = false) (ao : Option Addr) :
    Calls Try.prog 49 #[.pointer (some ⟨t, 0, none⟩), .int .u64 (a : Int), .slice ao k cap] w fun e w' => e = .returned (.int .i64 1) ∧ Below w.heap.size w w' := by
  go_enter Try.func49, Try.ntmps49
  go_wp2_with fail
  refine (pb_some_arg h a ha v hP _ hk).mono ?_
  rintro e x ⟨rfl, b1⟩
  clear h
  go_wp2
  go_ret
  exact ⟨rfl, b1⟩
set_option maxHeartbeats 400000 in
theorem pb_fill_no (h : PbIs w S t fb n bits c g o F) (a : Nat) (ha : a < 18446744073709551616) (hno : a ≤ 281474976710655 → ∀ v, F (pageN bits a % n) ≠ some (pageN bits a, v)) (k cap : Nat) (ao : Option Addr) :
    Calls Try.prog 49 #[.pointer (some ⟨t, 0, none⟩), .int .u64 (a : Int), .slice ao k cap] w fun e w' => e = .returned (.int .i64 7) ∧ Below w.heap.size w w' := by
  go_enter Try.func49, Try.ntmps49
  go_wp2_with fail
  refine (pb_some_no h a ha hno _).mono ?_
  rintro e x ⟨rfl, b1⟩
  clear h hno
  go_wp2
  go_ret
  exact ⟨rfl, b1⟩
end
end Go.Proofs.Ytikpphbgjbfddaa
