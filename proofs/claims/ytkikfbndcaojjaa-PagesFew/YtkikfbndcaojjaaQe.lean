/- The program's buffer and the reference's side by side: Open, Close, In, Has. -/
import Derived.Test.YtkikfbndcaojjaaQd
namespace Go.Proofs.Ytkikfbndcaojjaa
open Go.RowKit
/-- Both in memory, apart from each other, from block B on. -/
structure Bh (B D t m n : Nat) (bits : Int) (c : Nat) (F : Nat → Option Pg) (K : List (Nat × Nat)) (V : Nat → Nat → Int) (S M : Nat → Prop) (vl : Value) (w : World) : Prop where
  pb : PB w S t n bits c F
  rb : RbIs w M m n bits K V vl
  sb : ∀ k, S k → B ≤ k ∧ k < w.heap.size ∧ k ≠ D
  mb : ∀ k, M k → B ≤ k ∧ k < w.heap.size ∧ k ≠ D
  dl : D < w.heap.size
  ap : ∀ k, S k → ¬ M k
/-- The blocks from B on but D. -/
def Ow (B D : Nat) : Nat → Prop := fun k => B ≤ k ∧ k ≠ D
def Bo (B D t m n : Nat) (bits : Int) (c : Nat) (F : Nat → Option Pg) (K : List (Nat × Nat)) (V : Nat → Nat → Int) (w : World) : Prop := ∃ S M vl, Bh B D t m n bits c F K V S M vl w ∧ Lk n (sizeN bits) F K V
section
variable {B D t m n : Nat} {bits : Int} {c : Nat} {F : Nat → Option Pg} {K : List (Nat × Nat)} {V : Nat → Nat → Int} {S M : Nat → Prop} {vl : Value} {w w' : World}
theorem Bh.size (h : Bh B D t m n bits c F K V S M vl w) : B ≤ w.heap.size := by have := h.mb m h.rb.sm; omega
theorem Bh.below (h : Bh B D t m n bits c F K V S M vl w) (hb : Below w.heap.size w w') : Bh B D t m n bits c F K V S M vl w' :=
  ⟨h.pb.below hb, h.rb.below hb, fun k hk => ⟨(h.sb k hk).1, Nat.lt_of_lt_of_le (h.sb k hk).2.1 hb.size, (h.sb k hk).2.2⟩, fun k hk => ⟨(h.mb k hk).1, Nat.lt_of_lt_of_le (h.mb k hk).2.1 hb.size, (h.mb k hk).2.2⟩, Nat.lt_of_lt_of_le h.dl hb.size, h.ap⟩
theorem Bo.other (h : Bo B D t m n bits c F K V w) (o : Obj) : Bo B w.heap.size t m n bits c F K V (w.alloc o) := by
  obtain ⟨S, M, vl, h, l⟩ := h
  have hb := (Below.refl w.heap.size w).alloc (Nat.le_refl _) o
  have h' := h.below hb
  exact ⟨S, M, vl, ⟨h'.pb, h'.rb, fun k hk => ⟨(h'.sb k hk).1, (h'.sb k hk).2.1, by have := (h.sb k hk).2.1; omega⟩, fun k hk => ⟨(h'.mb k hk).1, (h'.mb k hk).2.1, by have := (h.mb k hk).2.1; omega⟩, by simp, h'.ap⟩, l⟩
theorem Bo.size (h : Bo B D t m n bits c F K V w) : B ≤ w.heap.size := by obtain ⟨S, M, vl, h, -⟩ := h; exact h.size
theorem Bo.below (h : Bo B D t m n bits c F K V w) (hb : Below w.heap.size w w') : Bo B D t m n bits c F K V w' := by
  obtain ⟨S, M, vl, h, l⟩ := h; exact ⟨S, M, vl, h.below hb, l⟩
theorem Bo.more (h : Bo B D t m n bits c F K V w) {c' : Nat} (hc : c ≤ c') : Bo B D t m n bits c' F K V w := by
  obtain ⟨S, M, vl, h, l⟩ := h; exact ⟨S, M, vl, ⟨h.pb.more hc, h.rb, h.sb, h.mb, h.dl, h.ap⟩, l⟩
theorem Bh.prog (h : Bh B D t m n bits c F K V S M vl w) {S' : Nat → Prop} {c' : Nat} {F' : Nat → Option Pg} (hk : Keeps S w w') (hp : PB w' S' t n bits c' F') (hS : ∀ k, S' k → S k ∨ (w.heap.size ≤ k ∧ k < w'.heap.size)) : Bh B D t m n bits c' F' K V S' M vl w' ∧ Keeps (Ow B D) w w' := by
  have hsz := hk.size
  have hB := h.size
  refine ⟨⟨hp, h.rb.keep hk (fun k hm hs => h.ap k hs hm), fun k hs => ?_, fun k hm => ⟨(h.mb k hm).1, Nat.lt_of_lt_of_le (h.mb k hm).2.1 hsz, (h.mb k hm).2.2⟩, Nat.lt_of_lt_of_le h.dl hsz, fun k hs hm => ?_⟩, hk.wider (fun k _ hs => ⟨(h.sb k hs).1, (h.sb k hs).2.2⟩)⟩
  · rcases hS k hs with h1 | h1
    · have := h.sb k h1; omega
    · have := h.dl; omega
  · rcases hS k hs with h1 | h1
    · exact h.ap k h1 hm
    · have := h.mb k hm; omega
theorem Bh.ref (h : Bh B D t m n bits c F K V S M vl w) {M' : Nat → Prop} {K' : List (Nat × Nat)} {V' : Nat → Nat → Int} {vl' : Value} (hk : Keeps M w w') (hp : RbIs w' M' m n bits K' V' vl') (hM : ∀ k, M' k → M k ∨ (w.heap.size ≤ k ∧ k < w'.heap.size)) : Bh B D t m n bits c F K' V' S M' vl' w' ∧ Keeps (Ow B D) w w' := by
  have hsz := hk.size
  have hB := h.size
  refine ⟨⟨h.pb.keep hk (fun k hs hm => h.ap k hs hm), hp, fun k hs => ⟨(h.sb k hs).1, Nat.lt_of_lt_of_le (h.sb k hs).2.1 hsz, (h.sb k hs).2.2⟩, fun k hm => ?_, Nat.lt_of_lt_of_le h.dl hsz, fun k hs hm => ?_⟩, hk.wider (fun k _ hm => ⟨(h.mb k hm).1, (h.mb k hm).2.2⟩)⟩
  · rcases hM k hm with h1 | h1
    · have := h.mb k h1; omega
    · have := h.dl; omega
  · rcases hM k hm with h1 | h1
    · exact h.ap k hs h1
    · have := h.sb k hs; omega
end
section
variable {B D t m n : Nat} {bits : Int} {c : Nat} {F : Nat → Option Pg} {K : List (Nat × Nat)} {V : Nat → Nat → Int} {w : World}
/-- Open, on both. -/
theorem open_both (h : Bo B D t m n bits c F K V w) (pg : Int) (hpg : pg ≤ 9223372036854775807) : ∃ (er : Int) (Hf : World → Prop),
    (Calls Try.prog 15 #[.pointer (some ⟨t, 0, none⟩), .int .i64 pg] w fun e w' => e = .returned (.int .i64 er) ∧ Hf w' ∧ Keeps (Ow B D) w w') ∧
    (∀ w', Hf w' → Calls Try.prog 27 #[.pointer (some ⟨m, 0, none⟩), .int .i64 pg] w' fun e w'' => e = .returned (.int .i64 er) ∧ (∃ F' K' V', Bo B D t m n bits c F' K' V' w'') ∧ Keeps (Ow B D) w' w'') := by
  obtain ⟨S, M, vl, h, l⟩ := h
  have hB := h.size
  have hfew : K.length ≤ 1000 := by have := l.few; have := h.rb.hn; omega
  by_cases h0 : pg < 0
  · refine ⟨1, fun w' => Bh B D t m n bits c F K V S M vl w', (pb_open_neg t pg h0 w).mono ?_, fun w' h' => (rb_open_neg m pg h0 w').mono ?_⟩
    · rintro e w' ⟨rfl, rfl⟩; exact ⟨rfl, h, Keeps.refl _ _⟩
    · rintro e w'' ⟨rfl, rfl⟩; exact ⟨rfl, ⟨F, K, V, S, M, vl, h', l⟩, Keeps.refl _ _⟩
  obtain ⟨P, rfl⟩ := Int.eq_ofNat_of_zero_le (show 0 ≤ pg by omega)
  obtain ⟨fb, g, o, hp⟩ := h.pb
  cases hF : F (P % n) with
  | none =>
    refine ⟨0, fun w' => ∃ S', Bh B D t m n bits c (updF F (P % n) (some (P, fun _ => 0))) K V S' M vl w', (pb_open_yes hp P (by omega) hF (fun k hk => (h.sb k hk).2.1)).mono ?_, ?_⟩
    · rintro e w' ⟨rfl, hp', hk⟩
      obtain ⟨h1, h2⟩ := h.prog hk hp' (fun k hs => hs)
      exact ⟨rfl, ⟨_, h1⟩, h2⟩
    · rintro w' ⟨S', h'⟩
      refine (rb_open_yes h'.rb hfew P (by omega) (fun j hj e => ?_)).mono ?_
      · obtain ⟨v, h1, -⟩ := l.fwd _ (getK_mem hj)
        rw [e, hF] at h1; cases h1
      · rintro e w'' ⟨rfl, ⟨lb, vl', hr, hlb⟩, hk⟩
        obtain ⟨h1, h2⟩ := h'.ref hk hr (fun k hs => hs)
        refine ⟨rfl, ⟨_, _, _, _, _, _, h1, l.opens hF (fun x hx => ?_)⟩, h2⟩
        have h3 := h'.rb.ws x hx 0 (by have := sizeN_pos h'.rb.hb; omega)
        have := World.block_lt_of_cell? w' _ h3.1
        simp only at this
        omega
  | some x =>
    obtain ⟨p, v⟩ := x
    by_cases hpP : p = P
    · subst hpP
      obtain ⟨i, hi, e1, e2, -⟩ := l.here hF
      refine ⟨8, fun w' => Bh B D t m n bits c F K V S M vl w', (pb_open_there hp p v hF).mono ?_, fun w' h' => (rb_open_there h'.rb i hi p e1 e2).mono ?_⟩
      · rintro e w' ⟨rfl, b⟩; exact ⟨rfl, h.below b, Below.keeps b⟩
      · rintro e w'' ⟨rfl, rfl⟩; exact ⟨rfl, ⟨F, K, V, S, M, vl, h', l⟩, Keeps.refl _ _⟩
    · have hno : ∀ u, F (P % n) ≠ some (P, u) := fun u e => by rw [hF] at e; cases e; exact hpP rfl
      obtain ⟨hm, y, hy, ey⟩ := l.bwd _ (Nat.mod_lt _ l.n0) p v hF
      obtain ⟨i, hi, ei⟩ := mem_getK hy
      refine ⟨10, fun w' => Bh B D t m n bits c F K V S M vl w', (pb_open_busy hp P (by omega) p v hF hpP).mono ?_, fun w' h' => (rb_open_busy h'.rb P (by omega) (l.goneN hno) i hi (by rw [ei, ey]; exact hm)).mono ?_⟩
      · rintro e w' ⟨rfl, b⟩; exact ⟨rfl, h.below b, Below.keeps b⟩
      · rintro e w'' ⟨rfl, b⟩; exact ⟨rfl, ⟨F, K, V, S, M, vl, h'.below b, l⟩, Below.keeps b⟩
theorem in_or {n : Nat} (F : Nat → Option Pg) (pg : Int) : (∃ (P : Nat) (v : Nat → Int), pg = (P : Int) ∧ F (P % n) = some (P, v)) ∨ ∀ P : Nat, pg = (P : Int) → ∀ v, F (P % n) ≠ some (P, v) := by
  by_cases h : ∃ (P : Nat) (v : Nat → Int), pg = (P : Int) ∧ F (P % n) = some (P, v)
  · exact .inl h
  · exact .inr (fun P e v hF => h ⟨P, v, e, hF⟩)
/-- Close, on both. -/
theorem close_both (h : Bo B D t m n bits c F K V w) (pg : Int) (hpg : pg ≤ 9223372036854775807) : ∃ (er : Int) (Hf : World → Prop),
    (Calls Try.prog 16 #[.pointer (some ⟨t, 0, none⟩), .int .i64 pg] w fun e w' => e = .returned (.int .i64 er) ∧ Hf w' ∧ Keeps (Ow B D) w w') ∧
    (∀ w', Hf w' → Calls Try.prog 28 #[.pointer (some ⟨m, 0, none⟩), .int .i64 pg] w' fun e w'' => e = .returned (.int .i64 er) ∧ (∃ F' K' V', Bo B D t m n bits c F' K' V' w'') ∧ Keeps (Ow B D) w' w'') := by
  obtain ⟨S, M, vl, h, l⟩ := h
  have hB := h.size
  have hfew : K.length ≤ 1000 := by have := l.few; have := h.rb.hn; omega
  obtain ⟨fb, g, o, hp⟩ := h.pb
  rcases in_or (n := n) F pg with ⟨P, v, rfl, hF⟩ | hno
  · obtain ⟨i, hi, e1, e2, -⟩ := l.here hF
    refine ⟨0, fun w' => Bh B D t m n bits c (updF F (P % n) none) K V S M vl w', (pb_close_yes hp P v hF).mono ?_, fun w' h' => (rb_close_yes h'.rb hfew i hi P e1 e2).mono ?_⟩
    · rintro e w' ⟨rfl, hp', hk⟩
      obtain ⟨h1, h2⟩ := h.prog hk hp' (fun k hs => .inl hs)
      exact ⟨rfl, h1, h2⟩
    · rintro e w'' ⟨rfl, ⟨vl', hr⟩, hk⟩
      obtain ⟨h1, h2⟩ := h'.ref hk hr (fun k hs => hs)
      exact ⟨rfl, ⟨_, _, _, _, _, _, h1, l.closes hi e1⟩, h2⟩
  · refine ⟨7, fun w' => Bh B D t m n bits c F K V S M vl w', (pb_close_no hp pg hpg hno).mono ?_, fun w' h' => (rb_close_no h'.rb pg (l.gone hno)).mono ?_⟩
    · rintro e w' ⟨rfl, b⟩; exact ⟨rfl, h.below b, Below.keeps b⟩
    · rintro e w'' ⟨rfl, rfl⟩; exact ⟨rfl, ⟨F, K, V, S, M, vl, h', l⟩, Keeps.refl _ _⟩
/-- In. -/
theorem in_is (h : Bo B D t m n bits c F K V w) : Calls Try.prog 10 #[.pointer (some ⟨t, 0, none⟩)] w fun e w' => ∃ ao cap, e = .returned (.slice ao K.length cap) ∧ Sl .i64 w' ao K.length (fun j => ((getK K j).1 : Int)) ∧ Below w.heap.size w w' := by
  obtain ⟨S, M, vl, h, l⟩ := h
  obtain ⟨fb, g, o, hp⟩ := h.pb
  refine (pb_in hp ((K.map Prod.fst).map fun (p : Nat) => (p : Int)) l.sorted.symm).mono ?_
  rintro e w' ⟨ao, cap, rfl, hs, b⟩
  refine ⟨ao, cap, by simp, fun j hj => ?_, b⟩
  obtain ⟨b', off, e1, e2⟩ := hs j (by simpa using hj)
  refine ⟨b', off, e1, ?_⟩
  rw [e2]
  simp [List.getD_eq_getElem?_getD, getK, hj]
/-- Has, and At. -/
theorem has_both (h : Bo B D t m n bits c F K V w) (pg : Int) (hpg : pg ≤ 9223372036854775807) : ∃ (i : Int),
    (Calls Try.prog 11 #[.pointer (some ⟨t, 0, none⟩), .int .i64 pg] w fun e w' => e = .returned (.bool (decide (0 ≤ i))) ∧ Below w.heap.size w w') ∧
    (∀ w', Below w.heap.size w w' → Calls Try.prog 12 #[.pointer (some ⟨m, 0, none⟩), .int .i64 pg] w' fun e w'' => e = .returned (.int .i64 i) ∧ w'' = w') := by
  obtain ⟨S, M, vl, h, l⟩ := h
  obtain ⟨fb, g, o, hp⟩ := h.pb
  rcases in_or (n := n) F pg with ⟨P, v, rfl, hF⟩ | hno
  · obtain ⟨i, hi, e1, e2, -⟩ := l.here hF
    refine ⟨(i : Int), (pb_has_yes hp P v hF).mono ?_, fun w' b => rb_at_yes (h.below b).rb i hi P e1 e2⟩
    rintro e w' ⟨rfl, k, rfl⟩
    exact ⟨by simp, below_drewN (Below.refl _ _) k⟩
  · refine ⟨-1, (pb_has_no hp pg hpg hno).mono ?_, fun w' b => rb_at_no (h.below b).rb pg (l.gone hno)⟩
    rintro e w' ⟨rfl, k, rfl⟩
    exact ⟨by simp, below_drewN (Below.refl _ _) k⟩
end
end Go.Proofs.Ytkikfbndcaojjaa
