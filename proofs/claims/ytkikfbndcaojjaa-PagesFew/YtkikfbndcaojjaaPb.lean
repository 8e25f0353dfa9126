/- Package pages: what a write does to a buffer; some, Load, Store, CAS, Words, Fill, Page. -/
import Derived.Test.YtkikfbndcaojjaaPa
namespace Go.Proofs.Ytkikfbndcaojjaa
open Go.RowKit
def updF (F : Nat → Option Pg) (i : Nat) (x : Option Pg) : Nat → Option Pg := fun j => if j = i then x else F j
theorem updF_same (F : Nat → Option Pg) (i : Nat) (x : Option Pg) : updF F i x i = x := by simp [updF]
theorem updF_other (F : Nat → Option Pg) {i j : Nat} (x : Option Pg) (h : j ≠ i) : updF F i x j = F j := by simp [updF, h]
section
variable {w w' : World} {S : Nat → Prop} {t fb n : Nat} {bits : Int} {c : Nat} {g : Nat → Nat × Nat} {o : Nat → Nat} {F : Nat → Option Pg}
theorem PbIs.apart (h : PbIs w S t fb n bits c g o F) {i : Nat} (hi : i < n) {p : Nat} {v : Nat → Int} (hF : F i = some (p, v)) {k : Nat} (hk : o k ≠ i) : ¬ InRow (g i).1 (g i).2 k := by
  obtain ⟨-, -, o1, o2⟩ := h.own i hi p v hF
  rintro (e | e)
  · subst e; exact hk o1
  · subst e; exact hk o2
/-- A row is written. -/
theorem PbIs.write (h : PbIs w S t fb n bits c g o F) {i : Nat} (hi : i < n) {p : Nat} {v v' : Nat → Int} {won lost : Int} (hF : F i = some (p, v)) (hk : Keeps (InRow (g i).1 (g i).2) w w') (hR : RowIs w' (g i).1 (g i).2 (sizeN bits) v' won lost)
    (hw : 0 ≤ won ∧ won ≤ ((c + 1 : Nat) : Int)) (hl : 0 ≤ lost ∧ lost ≤ ((c + 1 : Nat) : Int)) : PbIs w' S t fb n bits (c + 1) g o (updF F i (some (p, v'))) ∧ Keeps S w w' := by
  obtain ⟨s1, s2, o1, o2⟩ := h.own i hi p v hF
  have kt := h.apart hi hF (k := t) (by rw [h.ot]; omega)
  have kf := h.apart hi hF (k := fb) (by rw [h.of]; omega)
  refine ⟨⟨by rw [hk.cell h.lt kt]; exact h.c0, by rw [hk.cell h.lt kt]; exact h.c1, h.hn, h.hb, h.st, h.sf, h.ot, h.of, fun j hj => by rw [hk.frozen h.flt kf]; exact h.ff j hj, fun j hj e => ?_, fun j hj q u e => ?_, fun j hj q u e => ?_, fun j hj q u e => ?_⟩, hk.wider (fun k _ hs => by rcases hs with rfl | rfl; exact s1; exact s2)⟩
  · by_cases e1 : j = i
    · subst e1; rw [updF_same] at e; exact absurd e (by simp)
    · rw [updF_other _ _ e1] at e
      obtain ⟨⟨u, h1⟩, h2⟩ := h.non j hj e
      exact ⟨⟨u, by rw [hk.cell h.flt kf]; exact h1⟩, by rw [hk.cell h.flt kf]; exact h2⟩
  · by_cases e1 : j = i
    · subst e1; rw [updF_same] at e
      cases e
      obtain ⟨h1, h2, h3⟩ := h.som j hj p v hF
      exact ⟨by rw [hk.cell h.flt kf]; exact h1, by rw [hk.cell h.flt kf]; exact h2, h3⟩
    · rw [updF_other _ _ e1] at e
      obtain ⟨h1, h2, h3⟩ := h.som j hj q u e
      exact ⟨by rw [hk.cell h.flt kf]; exact h1, by rw [hk.cell h.flt kf]; exact h2, h3⟩
  · by_cases e1 : j = i
    · subst e1; rw [updF_same] at e
      cases e
      exact ⟨won, lost, hw, hl, hR⟩
    · rw [updF_other _ _ e1] at e
      obtain ⟨x, y, h1, h2, h3⟩ := h.row j hj q u e
      obtain ⟨-, -, p1, p2⟩ := h.own j hj q u e
      exact ⟨x, y, ⟨h1.1, by omega⟩, ⟨h2.1, by omega⟩, h3.keep hk (h.apart hi hF (by rw [p1]; exact e1)) (h.apart hi hF (by rw [p2]; exact e1))⟩
  · by_cases e1 : j = i
    · subst e1; exact ⟨s1, s2, o1, o2⟩
    · rw [updF_other _ _ e1] at e
      exact h.own j hj q u e
end
section
variable {w : World} {S : Nat → Prop} {t fb n : Nat} {bits : Int} {c : Nat} {g : Nat → Nat × Nat} {o : Nat → Nat} {F : Nat → Option Pg}
theorem PbIs.mod_lt (h : PbIs w S t fb n bits c g o F) (P : Nat) : P % n < n := Nat.mod_lt _ (by have := h.hn; omega)
theorem off_lt (b : Int) (a : Nat) (hb : 5 ≤ b ∧ b ≤ 9) : offN b a < sizeN b := by
  rw [sizeN_yes hb]
  unfold offN
  split
  · exact Nat.mod_lt _ (pow_pos2 _)
  · exact pow_pos2 _
theorem off_room (b : Int) (a : Nat) (hb : 5 ≤ b ∧ b ≤ 9) (ha : a ≤ 281474976710655) : offN b a + roomN b a = sizeN b := by
  have h1 := Nat.mod_lt a (pow_pos2 b.toNat)
  simp only [offN, roomN, if_pos (And.intro hb ha), sizeN_yes hb]
  omega
set_option maxHeartbeats 400000 in
theorem pb_load_yes (h : PbIs w S t fb n bits c g o F) (a : Nat) (ha : a ≤ 281474976710655) (v : Nat → Int) (hP : F (pageN bits a % n) = some (pageN bits a, v)) (y : Int) (hy : v (offN bits a) = y) :
    Calls Try.prog 20 #[.pointer (some ⟨t, 0, none⟩), .int .u64 (a : Int)] w fun e w' => e = .returned (.tuple #[.int .u64 y, .int .i64 0]) ∧ Below w.heap.size w w' := by
  have hoff := off_lt bits a h.hb
  go_enter Try.func20, Try.ntmps20
  go_wp2_with fail
  refine (pb_at_yes h a ha v hP).mono ?_
  rintro e x ⟨rfl, b1⟩
  have h1 := h.below b1
  have c0 := h1.c0
  go_wp2_with fail
  refine (offset_any bits a x (by omega)).mono ?_
  rintro e x1 ⟨rfl, b2⟩
  have h2 := h1.below b2
  replace b2 := b1.trans (b2.mono b1.size)
  obtain ⟨won, lost, -, -, hR⟩ := h2.row _ (h.mod_lt _) _ v hP
  have hl := rload hR (offN bits a) hoff y hy
  clear h h1 h2 hR
  go_wp2_with fail
  refine hl.mono ?_
  rintro e x2 ⟨rfl, rfl⟩
  go_wp2
  go_ret2
  exact ⟨rfl, b2⟩
set_option maxHeartbeats 400000 in
theorem pb_load_no (h : PbIs w S t fb n bits c g o F) (a : Nat) (ha : a < 18446744073709551616) (hno : a ≤ 281474976710655 → ∀ v, F (pageN bits a % n) ≠ some (pageN bits a, v)) :
    Calls Try.prog 20 #[.pointer (some ⟨t, 0, none⟩), .int .u64 (a : Int)] w fun e w' => e = .returned (.tuple #[.int .u64 0, .int .i64 7]) ∧ Below w.heap.size w w' := by
  go_enter Try.func20, Try.ntmps20
  go_wp2_with fail
  refine (pb_at_no h a ha hno).mono ?_
  rintro e x ⟨rfl, b1⟩
  clear h hno
  go_wp2
  go_ret2
  exact ⟨rfl, b1⟩
set_option maxHeartbeats 400000 in
theorem pb_store_yes (h : PbIs w S t fb n bits c g o F) (a : Nat) (ha : a ≤ 281474976710655) (v : Nat → Int) (hP : F (pageN bits a % n) = some (pageN bits a, v)) (y : Int) :
    Calls Try.prog 23 #[.pointer (some ⟨t, 0, none⟩), .int .u64 (a : Int), .int .u64 y] w fun e w' => e = .returned (.int .i64 0) ∧ PbIs w' S t fb n bits (c + 1) g o (updF F (pageN bits a % n) (some (pageN bits a, updV v (offN bits a) y))) ∧ Keeps S w w' := by
  have hoff := off_lt bits a h.hb
  go_enter Try.func23, Try.ntmps23
  go_wp2_with fail
  refine (pb_at_yes h a ha v hP).mono ?_
  rintro e x ⟨rfl, b1⟩
  have h1 := h.below b1
  have c0 := h1.c0
  go_wp2_with fail
  refine (offset_any bits a x (by omega)).mono ?_
  rintro e x1 ⟨rfl, b2⟩
  have h2 := h1.below b2
  replace b2 := b1.trans (b2.mono b1.size)
  obtain ⟨won, lost, hw, hl, hR⟩ := h2.row _ (h.mod_lt _) _ v hP
  have hst := kstore hR (offN bits a) hoff y
  go_wp2_with fail
  refine hst.mono ?_
  rintro e x2 ⟨rfl, hR2, k2⟩
  obtain ⟨h3, k3⟩ := h2.write (h.mod_lt _) hP k2 hR2 ⟨hw.1, by omega⟩ ⟨hl.1, by omega⟩
  replace k3 := (Below.keeps (S := S) b2).trans k3 (fun _ _ t => t)
  clear h h1 h2 hR c0 hR2 k2 hst
  go_wp2
  go_ret
  exact ⟨rfl, h3, k3⟩
set_option maxHeartbeats 400000 in
theorem pb_store_no (h : PbIs w S t fb n bits c g o F) (a : Nat) (ha : a < 18446744073709551616) (hno : a ≤ 281474976710655 → ∀ v, F (pageN bits a % n) ≠ some (pageN bits a, v)) (y : Int) :
    Calls Try.prog 23 #[.pointer (some ⟨t, 0, none⟩), .int .u64 (a : Int), .int .u64 y] w fun e w' => e = .returned (.int .i64 7) ∧ Below w.heap.size w w' := by
  go_enter Try.func23, Try.ntmps23
  go_wp2_with fail
  refine (pb_at_no h a ha hno).mono ?_
  rintro e x ⟨rfl, b1⟩
  clear h hno
  go_wp2
  go_ret
  exact ⟨rfl, b1⟩
set_option maxHeartbeats 400000 in
theorem pb_cas_hit (h : PbIs w S t fb n bits c g o F) (hc : c ≤ 1000000) (a : Nat) (ha : a ≤ 281474976710655) (v : Nat → Int) (hP : F (pageN bits a % n) = some (pageN bits a, v)) (x y : Int) (hx : v (offN bits a) = x) :
    Calls Try.prog 21 #[.pointer (some ⟨t, 0, none⟩), .int .u64 (a : Int), .int .u64 x, .int .u64 y] w fun e w' => e = .returned (.tuple #[.bool true, .int .i64 0]) ∧ PbIs w' S t fb n bits (c + 1) g o (updF F (pageN bits a % n) (some (pageN bits a, updV v (offN bits a) y))) ∧ Keeps S w w' := by
  have hoff := off_lt bits a h.hb
  go_enter Try.func21, Try.ntmps21
  go_wp2_with fail
  refine (pb_at_yes h a ha v hP).mono ?_
  rintro e x0 ⟨rfl, b1⟩
  have h1 := h.below b1
  have c0 := h1.c0
  go_wp2_with fail
  refine (offset_any bits a x0 (by omega)).mono ?_
  rintro e x1 ⟨rfl, b2⟩
  have h2 := h1.below b2
  replace b2 := b1.trans (b2.mono b1.size)
  obtain ⟨won, lost, hw, hl, hR⟩ := h2.row _ (h.mod_lt _) _ v hP
  have hst := kcas_hit hR (offN bits a) hoff x hx y ⟨hw.1, by omega⟩
  go_wp2_with fail
  refine hst.mono ?_
  rintro e x2 ⟨rfl, hR2, k2⟩
  obtain ⟨h3, k3⟩ := h2.write (h.mod_lt _) hP k2 hR2 ⟨by omega, by omega⟩ ⟨hl.1, by omega⟩
  replace k3 := (Below.keeps (S := S) b2).trans k3 (fun _ _ t => t)
  clear h h1 h2 hR c0 hR2 k2 hst
  go_wp2
  go_ret2
  exact ⟨rfl, h3, k3⟩
set_option maxHeartbeats 400000 in
theorem pb_cas_miss (h : PbIs w S t fb n bits c g o F) (hc : c ≤ 1000000) (a : Nat) (ha : a ≤ 281474976710655) (v : Nat → Int) (hP : F (pageN bits a % n) = some (pageN bits a, v)) (x y : Int) (hx : ¬ v (offN bits a) = x) :
    Calls Try.prog 21 #[.pointer (some ⟨t, 0, none⟩), .int .u64 (a : Int), .int .u64 x, .int .u64 y] w fun e w' => e = .returned (.tuple #[.bool false, .int .i64 0]) ∧ PbIs w' S t fb n bits (c + 1) g o F ∧ Keeps S w w' := by
  have hoff := off_lt bits a h.hb
  go_enter Try.func21, Try.ntmps21
  go_wp2_with fail
  refine (pb_at_yes h a ha v hP).mono ?_
  rintro e x0 ⟨rfl, b1⟩
  have h1 := h.below b1
  have c0 := h1.c0
  go_wp2_with fail
  refine (offset_any bits a x0 (by omega)).mono ?_
  rintro e x1 ⟨rfl, b2⟩
  have h2 := h1.below b2
  replace b2 := b1.trans (b2.mono b1.size)
  obtain ⟨won, lost, hw, hl, hR⟩ := h2.row _ (h.mod_lt _) _ v hP
  have hst := kcas_miss hR (offN bits a) hoff x hx y ⟨hl.1, by omega⟩
  go_wp2_with fail
  refine hst.mono ?_
  rintro e x2 ⟨rfl, hR2, k2⟩
  obtain ⟨h3, k3⟩ := h2.write (h.mod_lt _) hP k2 hR2 ⟨hw.1, by omega⟩ ⟨by omega, by omega⟩
  replace k3 := (Below.keeps (S := S) b2).trans k3 (fun _ _ t => t)
  have e3 : updF F (pageN bits a % n) (some (pageN bits a, v)) = F := by
    funext j
    by_cases e : j = pageN bits a % n
    · subst e; rw [updF_same, hP]
    · rw [updF_other _ _ e]
  rw [e3] at h3
  clear h h1 h2 hR c0 hR2 k2 hst e3
  go_wp2
  go_ret2
  exact ⟨rfl, h3, k3⟩
set_option maxHeartbeats 400000 in
theorem pb_cas_no (h : PbIs w S t fb n bits c g o F) (a : Nat) (ha : a < 18446744073709551616) (hno : a ≤ 281474976710655 → ∀ v, F (pageN bits a % n) ≠ some (pageN bits a, v)) (x y : Int) :
    Calls Try.prog 21 #[.pointer (some ⟨t, 0, none⟩), .int .u64 (a : Int), .int .u64 x, .int .u64 y] w fun e w' => e = .returned (.tuple #[.bool false, .int .i64 7]) ∧ Below w.heap.size w w' := by
  go_enter Try.func21, Try.ntmps21
  go_wp2_with fail
  refine (pb_at_no h a ha hno).mono ?_
  rintro e x ⟨rfl, b1⟩
  clear h hno
  go_wp2
  go_ret2
  exact ⟨rfl, b1⟩
set_option maxHeartbeats 400000 in
theorem pb_some_yes (h : PbIs w S t fb n bits c g o F) (a : Nat) (ha : a ≤ 281474976710655) (v : Nat → Int) (hP : F (pageN bits a % n) = some (pageN bits a, v)) (k : Int) (hk : fitsB bits a k = true) :
    Calls Try.prog 40 #[.pointer (some ⟨t, 0, none⟩), .int .u64 (a : Int), .int .i64 k] w fun e w' => e = .returned (.tuple #[.pointer (some ⟨(g (pageN bits a % n)).1, 0, none⟩), .int .i64 0]) ∧ Below w.heap.size w w' := by
  go_enter Try.func40, Try.ntmps40
  go_wp2_with fail
  refine (pb_at_yes h a ha v hP).mono ?_
  rintro e x ⟨rfl, b1⟩
  have h1 := h.below b1
  have c0 := h1.c0
  clear h h1
  go_wp2_with fail
  refine (fits_any bits a k x (by omega)).mono ?_
  rintro e x1 ⟨rfl, b2⟩
  replace b2 := b1.trans (b2.mono b1.size)
  go_wp2
  go_ret2
  exact ⟨rfl, b2⟩
set_option maxHeartbeats 400000 in
theorem pb_some_arg (h : PbIs w S t fb n bits c g o F) (a : Nat) (ha : a ≤ 281474976710655) (v : Nat → Int) (hP : F (pageN bits a % n) = some (pageN bits a, v)) (k : Int) (hk : fitsB bits a k = false) :
    Calls Try.prog 40 #[.pointer (some ⟨t, 0, none⟩), .int .u64 (a : Int), .int .i64 k] w fun e w' => e = .returned (.tuple #[.pointer none, .int .i64 1]) ∧ Below w.heap.size w w' := by
  go_enter Try.func40, Try.ntmps40
  go_wp2_with fail
  refine (pb_at_yes h a ha v hP).mono ?_
  rintro e x ⟨rfl, b1⟩
  have h1 := h.below b1
  have c0 := h1.c0
  clear h h1
  go_wp2_with fail
  refine (fits_any bits a k x (by omega)).mono ?_
  rintro e x1 ⟨rfl, b2⟩
  replace b2 := b1.trans (b2.mono b1.size)
  go_wp2
  go_ret2
  exact ⟨rfl, b2⟩
set_option maxHeartbeats 400000 in
theorem pb_some_no (h : PbIs w S t fb n bits c g o F) (a : Nat) (ha : a < 18446744073709551616) (hno : a ≤ 281474976710655 → ∀ v, F (pageN bits a % n) ≠ some (pageN bits a, v)) (k : Int) :
    Calls Try.prog 40 #[.pointer (some ⟨t, 0, none⟩), .int .u64 (a : Int), .int .i64 k] w fun e w' => e = .returned (.tuple #[.pointer none, .int .i64 7]) ∧ Below w.heap.size w w' := by
  go_enter Try.func40, Try.ntmps40
  go_wp2_with fail
  refine (pb_at_no h a ha hno).mono ?_
  rintro e x ⟨rfl, b1⟩
  clear h hno
  go_wp2
  go_ret2
  exact ⟨rfl, b1⟩
set_option maxHeartbeats 400000 in
theorem pb_words_yes (h : PbIs w S t fb n bits c g o F) (a : Nat) (ha : a ≤ 281474976710655) (v : Nat → Int) (hP : F (pageN bits a % n) = some (pageN bits a, v)) (k : Nat) (hk : fitsB bits a k = true) :
    Calls Try.prog 22 #[.pointer (some ⟨t, 0, none⟩), .int .u64 (a : Int), .int .i64 (k : Int)] w fun e w' => ∃ b, e = .returned (.tuple #[.slice (some ⟨b, 0, none⟩) k k, .int .i64 0]) ∧ Sl .u64 w' (some ⟨b, 0, none⟩) k (fun j => v (offN bits a + j)) ∧ Below w.heap.size w w' := by
  have hrm := off_room bits a h.hb ha
  have hsz := sizeN_bounds bits
  have hkr : k ≤ roomN bits a := by unfold fitsB at hk; simp at hk; omega
  go_enter Try.func22, Try.ntmps22
  go_wp2_with fail
  refine (pb_some_yes h a ha v hP _ hk).mono ?_
  rintro e x ⟨rfl, b1⟩
  have h1 := h.below b1
  have c0 := h1.c0
  go_wp2_with fail
  refine (offset_any bits a x (by omega)).mono ?_
  rintro e x1 ⟨rfl, b2⟩
  have h2 := h1.below b2
  replace b2 := b1.trans (b2.mono b1.size)
  obtain ⟨won, lost, hw, hl, hR⟩ := h2.row _ (h.mod_lt _) _ v hP
  have hst := rwords hR (by omega) (offN bits a) k (by omega)
  clear h h1 h2 hR c0
  go_wp2_with fail
  refine hst.mono ?_
  rintro e x2 ⟨b, rfl, hs, -, b3⟩
  replace b3 := b2.trans (b3.mono b2.size)
  clear hst
  go_wp2
  go_ret2
  exact ⟨b, rfl, hs, b3⟩
set_option maxHeartbeats 400000 in
theorem pb_words_arg (h : PbIs w S t fb n bits c g o F) (a : Nat) (ha : a ≤ 281474976710655) (v : Nat → Int) (hP : F (pageN bits a % n) = some (pageN bits a, v)) (k : Int) (hk : fitsB bits a k = false) :
    Calls Try.prog 22 #[.pointer (some ⟨t, 0, none⟩), .int .u64 (a : Int), .int .i64 k] w fun e w' => e = .returned (.tuple #[.slice none 0 0, .int .i64 1]) ∧ Below w.heap.size w w' := by
  go_enter Try.func22, Try.ntmps22
  go_wp2_with fail
  refine (pb_some_arg h a ha v hP k hk).mono ?_
  rintro e x ⟨rfl, b1⟩
  clear h
  go_wp2
  go_ret2
  exact ⟨rfl, b1⟩
set_option maxHeartbeats 400000 in
theorem pb_words_no (h : PbIs w S t fb n bits c g o F) (a : Nat) (ha : a < 18446744073709551616) (hno : a ≤ 281474976710655 → ∀ v, F (pageN bits a % n) ≠ some (pageN bits a, v)) (k : Int) :
    Calls Try.prog 22 #[.pointer (some ⟨t, 0, none⟩), .int .u64 (a : Int), .int .i64 k] w fun e w' => e = .returned (.tuple #[.slice none 0 0, .int .i64 7]) ∧ Below w.heap.size w w' := by
  go_enter Try.func22, Try.ntmps22
  go_wp2_with fail
  refine (pb_some_no h a ha hno k).mono ?_
  rintro e x ⟨rfl, b1⟩
  clear h hno
  go_wp2
  go_ret2
  exact ⟨rfl, b1⟩
set_option maxHeartbeats 400000 in
theorem pb_fill_yes (h : PbIs w S t fb n bits c g o F) (a : Nat) (ha : a ≤ 281474976710655) (v : Nat → Int) (hP : F (pageN bits a % n) = some (pageN bits a, v)) (k cap : Nat) (hk : fitsB bits a k = true) (ao : Option Addr) (z : Nat → Int) (hs : Sl .u64 w ao k z) (hz : 0 < k → ∀ b off, ao = some ⟨b, off, none⟩ → ¬ S b) :
    Calls Try.prog 24 #[.pointer (some ⟨t, 0, none⟩), .int .u64 (a : Int), .slice ao k cap] w fun e w' => e = .returned (.int .i64 0) ∧ PbIs w' S t fb n bits (c + 1) g o (updF F (pageN bits a % n) (some (pageN bits a, fillV v (offN bits a) k z))) ∧ Keeps S w w' := by
  have hrm := off_room bits a h.hb ha
  have hsz := sizeN_bounds bits
  have hkr : k ≤ roomN bits a := by unfold fitsB at hk; simp at hk; omega
  obtain ⟨s1, s2, -⟩ := h.own _ (h.mod_lt _) _ v hP
  have hz' : 0 < k → ∀ b off, ao = some ⟨b, off, none⟩ → ¬ InRow (g (pageN bits a % n)).1 (g (pageN bits a % n)).2 b := fun h0 b off e hI => hz h0 b off e (by rcases hI with rfl | rfl; exact s1; exact s2)
  clear hz s1 s2
  go_enter Try.func24, Try.ntmps24
  go_wp2_with fail
  refine (pb_some_yes h a ha v hP _ hk).mono ?_
  rintro e x ⟨rfl, b1⟩
  have h1 := h.below b1
  have c0 := h1.c0
  have hs1 := hs.below b1
  go_wp2_with fail
  refine (offset_any bits a x (by omega)).mono ?_
  rintro e x1 ⟨rfl, b2⟩
  have h2 := h1.below b2
  have hs2 := hs1.below b2
  replace b2 := b1.trans (b2.mono b1.size)
  obtain ⟨won, lost, hw, hl, hR⟩ := h2.row _ (h.mod_lt _) _ v hP
  have hst := rfill hR (by omega) (offN bits a) k cap (by omega) ao z hs2 hz'
  go_wp2_with fail
  refine hst.mono ?_
  rintro e x2 ⟨rfl, hR2, k2⟩
  obtain ⟨h3, k3⟩ := h2.write (h.mod_lt _) hP k2 hR2 ⟨hw.1, by omega⟩ ⟨hl.1, by omega⟩
  replace k3 := (Below.keeps (S := S) b2).trans k3 (fun _ _ t => t)
  clear h h1 h2 hR c0 hR2 k2 hst hs hs1 hs2 hz'
  go_wp2
  go_ret
  exact ⟨rfl, h3, k3⟩
set_option maxHeartbeats 400000 in
theorem pb_fill_arg (h : PbIs w S t fb n bits c g o F) (a : Nat) (ha : a ≤ 281474976710655) (v : Nat → Int) (hP : F (pageN bits a % n) = some (pageN bits a, v)) (k cap : Nat) (hk : fitsB bits a k = false) (ao : Option Addr) :
    Calls Try.prog 24 #[.pointer (some ⟨t, 0, none⟩), .int .u64 (a : Int), .slice ao k cap] w fun e w' => e = .returned (.int .i64 1) ∧ Below w.heap.size w w' := by
  go_enter Try.func24, Try.ntmps24
  go_wp2_with fail
  refine (pb_some_arg h a ha v hP _ hk).mono ?_
  rintro e x ⟨rfl, b1⟩
  clear h
  go_wp2
  go_ret
  exact ⟨rfl, b1⟩
set_option maxHeartbeats 400000 in
theorem pb_fill_no (h : PbIs w S t fb n bits c g o F) (a : Nat) (ha : a < 18446744073709551616) (hno : a ≤ 281474976710655 → ∀ v, F (pageN bits a % n) ≠ some (pageN bits a, v)) (k cap : Nat) (ao : Option Addr) :
    Calls Try.prog 24 #[.pointer (some ⟨t, 0, none⟩), .int .u64 (a : Int), .slice ao k cap] w fun e w' => e = .returned (.int .i64 7) ∧ Below w.heap.size w w' := by
  go_enter Try.func24, Try.ntmps24
  go_wp2_with fail
  refine (pb_some_no h a ha hno _).mono ?_
  rintro e x ⟨rfl, b1⟩
  clear h hno
  go_wp2
  go_ret
  exact ⟨rfl, b1⟩
set_option maxHeartbeats 400000 in
theorem pb_page_yes (h : PbIs w S t fb n bits c g o F) (P : Nat) (v : Nat → Int) (hP : F (P % n) = some (P, v)) :
    Calls Try.prog 17 #[.pointer (some ⟨t, 0, none⟩), .int .i64 (P : Int)] w fun e w' => ∃ b, e = .returned (.tuple #[.slice (some ⟨b, 0, none⟩) (sizeN bits) (sizeN bits), .int .i64 0]) ∧ Sl .u64 w' (some ⟨b, 0, none⟩) (sizeN bits) v ∧ Below w.heap.size w w' := by
  have hsz := sizeN_bounds bits
  go_enter Try.func17, Try.ntmps17
  go_wp2_with fail
  refine (pb_row_yes h P v hP).mono ?_
  rintro e x ⟨rfl, m, rfl⟩
  have b1 := below_drewN (Below.refl w.heap.size w) m
  have h1 := h.below b1
  obtain ⟨won, lost, hw, hl, hR⟩ := h1.row _ (h.mod_lt _) _ v hP
  have hst := rwords hR (by omega) 0 (sizeN bits) (by omega)
  have hlen := len_any _ _ _ _ _ hR.c0
  clear h h1 hR
  go_wp2_with fail
  refine hlen.mono ?_
  rintro e x2 ⟨rfl, rfl⟩
  go_wp2_with fail
  refine hst.mono ?_
  rintro e x2 ⟨b, rfl, hs, -, b3⟩
  replace b3 := b1.trans (b3.mono b1.size)
  have hs' : Sl .u64 x2 (some ⟨b, 0, none⟩) (sizeN bits) v := by simpa using hs
  clear hst hlen hs
  go_wp2
  go_ret2
  exact ⟨b, rfl, hs', b3⟩
set_option maxHeartbeats 400000 in
theorem pb_page_no (h : PbIs w S t fb n bits c g o F) (page : Int) (hp : page ≤ 9223372036854775807) (hno : ∀ P : Nat, page = (P : Int) → ∀ v, F (P % n) ≠ some (P, v)) :
    Calls Try.prog 17 #[.pointer (some ⟨t, 0, none⟩), .int .i64 page] w fun e w' => e = .returned (.tuple #[.slice none 0 0, .int .i64 7]) ∧ Below w.heap.size w w' := by
  go_enter Try.func17, Try.ntmps17
  go_wp2_with fail
  refine (pb_row_no h page hp hno).mono ?_
  rintro e x ⟨rfl, m, rfl⟩
  have b1 := below_drewN (Below.refl w.heap.size w) m
  clear h hno
  go_wp2
  go_ret2
  exact ⟨rfl, b1⟩
end
end Go.Proofs.Ytkikfbndcaojjaa
