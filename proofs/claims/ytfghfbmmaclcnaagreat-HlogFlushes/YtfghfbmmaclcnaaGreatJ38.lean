/- Parts of the proof: Lc. -/
import Derived.Test.YtfghfbmmaclcnaaGreatJ32
import Derived.Deep.RegionHeld3
namespace Go.Proofs.YtfghfbmmaclcnaaGreat
set_option maxRecDepth 20000
open Go.RowKit
section
variable {w : World} {o : Nat → Nat} {a : Ad} {c : Cf} {s : Hs} {k : Nat}
/-- What a session sees. -/
def seenN (s : Hs) (n : Int) : Nat := if n < 0 then 0 else s.v n.toNat
theorem hl_seen (h : Hp w o a c s k) (ho : ∀ i, c.ns ≤ i → s.v i = 0) (n : Int) : Calls Tryz.prog 10 #[.pointer (some ⟨a.et, 0, none⟩), .int .i64 n] w fun e w' => e = .returned (.int .u64 (seenN s n : Int)) ∧ w' = w := by
  unfold seenN
  by_cases h0 : n < 0
  · rw [if_pos h0]
    exact seen_no h.ep n (.inl h0)
  · rw [if_neg h0]
    obtain ⟨m, rfl⟩ : ∃ m : Nat, n = (m : Int) := ⟨n.toNat, by omega⟩
    rw [Int.toNat_natCast]
    by_cases h1 : m < c.ns
    · exact seen_any h.ep m h1
    · rw [ho m (by omega)]
      exact seen_no h.ep (m : Int) (.inr (by omega))
theorem hl_hasP (h : Hp w o a c s k) (hw : Wf c s k) (p : Nat) (h1 : p ≤ s.P) (h2 : s.P < p + c.n) (P : Int) (hP : P = (p : Int)) : Calls Tryz.prog 16 #[.pointer (some ⟨a.bt, 0, none⟩), .int .i64 P] w fun e w' => e = .returned (.bool true) ∧ ∃ m, w' = w.drewN m := by
  subst hP
  obtain ⟨v, hv⟩ := (hw.pg p).2 ⟨h1, h2⟩
  obtain ⟨fb, g, oo, hp⟩ := h.pb
  exact pb_has_yes hp p v hv
/-- The pages that are in. -/
def inL15 (c : Cf) (s : Hs) : List Int := (inF s.F c.n).mergeSort (fun x y => decide (x ≤ y))
theorem inL15_len (c : Cf) (s : Hs) : (inL15 c s).length ≤ c.n := by
  unfold inL15
  rw [List.length_mergeSort]
  exact inF_length _ _
theorem inL15_mem (hw : Wf c s k) (hl : ∀ i, i < c.n → ∀ p v, s.F i = some (p, v) → p % c.n = i) {x : Int} (hx : x ∈ inL15 c s) : ∃ p : Nat, x = (p : Int) ∧ p ≤ s.P ∧ s.P < p + c.n := by
  unfold inL15 at hx
  rw [List.mem_mergeSort, mem_inF] at hx
  obtain ⟨i, hi, p, v, hF, rfl⟩ := hx
  have e := hl i hi p v hF
  subst e
  exact ⟨p, rfl, (hw.pg p).1 ⟨v, hF⟩⟩
theorem hl_in (h : Hp w o a c s k) : Calls Tryz.prog 13 #[.pointer (some ⟨a.bt, 0, none⟩)] w fun e w' => ∃ ao cap, e = .returned (.slice ao (inL15 c s).length cap) ∧ Sl .i64 w' ao (inL15 c s).length (fun j => (inL15 c s).getD j 0) ∧ Below w.heap.size w w' ∧ (0 < (inL15 c s).length → ∀ b off, ao = some ⟨b, off, none⟩ → w.heap.size ≤ b) := by
  obtain ⟨fb, g, oo, hp⟩ := h.pb
  exact pb_in_at hp _ rfl
theorem hl_page (h : Hp w o a c s k) (p : Nat) (v : Nat → Int) (hv : s.F (p % c.n) = some (p, v)) (P : Int) (hP : P = (p : Int)) : Calls Tryz.prog 18 #[.pointer (some ⟨a.bt, 0, none⟩), .int .i64 P] w fun e w' => ∃ b, e = .returned (.tuple #[.slice (some ⟨b, 0, none⟩) (sizeN c.b) (sizeN c.b), .int .i64 0]) ∧ Sl .u64 w' (some ⟨b, 0, none⟩) (sizeN c.b) v ∧ Below w.heap.size w w' := by
  subst hP
  obtain ⟨fb, g, oo, hp⟩ := h.pb
  exact pb_page_yes hp p v hv
/-- The region of an address. -/
def regA (c : Cf) (s : Hs) (A : Nat) : Int := if A ≤ 281474976710655 then regionN s.m (pageN c.b A : Int) (s.P : Int) else 0
set_option maxHeartbeats 1000000 in
theorem hl_region (h : Hp w o a c s k) (A : Nat) (hA : A < 18446744073709551616) : Calls Tryz.prog 17 #[.pointer (some ⟨a.l, 0, none⟩), .int .u64 (A : Int)] w fun e w' => e = .returned (.int .i64 (regA c s A)) ∧ Below w.heap.size w w' := by
  unfold regA
  by_cases h0 : A ≤ 281474976710655
  · rw [if_pos h0]
    have c0 := h.c0
    have c1 := h.c1
    have c2 := h.c2
    have HH := hide h
    have hn : ¬ (281474976710655 : Int) < (A : Int) := by omega
    generalize hR : regionN s.m (pageN c.b A : Int) (s.P : Int) = R
    have HR := hide hR
    clear h hR
    go_enter Tryz.func17, Tryz.ntmps17
    go_wp2
    have hbd := below_drewN (Below.refl w.heap.size w) 1
    have HB1 := hide hbd
    have hh1 := HH.out.below hbd
    obtain ⟨fb, g, oo, hp1⟩ := hh1.pb
    have hbits := pb_bits hp1
    have hpg := page_any c.b A (w.drewN 1) hA
    have HS := hide (fun y (b : Below w.heap.size w y) => (⟨(HH.out.below b).c0, (HH.out.below b).c1, (HH.out.below b).c2⟩ : y.cell? ⟨a.l, 0, none⟩ = some (.pointer (some ⟨a.t, 0, none⟩)) ∧ y.cell? ⟨a.l, 1, none⟩ = some (.pointer (some ⟨a.bt, 0, none⟩)) ∧ y.cell? ⟨a.l, 2, none⟩ = some (.pointer (some ⟨a.mt, 0, none⟩))))
    have HT : Hid (∀ y, Below w.heap.size w y → Calls Tryz.prog 39 #[.pointer (some ⟨a.t, 0, none⟩)] y fun e w' => e = .returned (.int .i64 (s.P : Int)) ∧ Below y.heap.size y w') := fun y b => by
      obtain ⟨won, -, ht⟩ := (HH.out.below b).tl
      exact tPage ht
    have HM : Hid (∀ y, Below w.heap.size w y → Calls Tryz.prog 60 #[.pointer (some ⟨a.mt, 0, none⟩), .int .i64 (pageN c.b A : Int), .int .i64 (s.P : Int)] y fun e w' => e = .returned (.int .i64 R) ∧ w' = y) := fun y b => by
      rw [← HR.out]
      exact mregion (HH.out.below b).mm _ _
    generalize (pageN c.b A : Int) = Q at *
    generalize (s.P : Int) = T at *
    clear hp1 hh1 hbd
    go_region_held3 (fun W => W.cell? ⟨a.l, 0, none⟩ = some (.pointer (some ⟨a.t, 0, none⟩)) ∧ W.cell? ⟨a.l, 1, none⟩ = some (.pointer (some ⟨a.bt, 0, none⟩)) ∧ W.cell? ⟨a.l, 2, none⟩ = some (.pointer (some ⟨a.mt, 0, none⟩))) (first | assumption | go_keep) (first | (go_at_call 62; refine hbits.mono ?_; rintro e y0 ⟨rfl, rfl⟩) | (go_at_call 61; refine hpg.mono ?_; rintro e y1 ⟨rfl, b1⟩; have q1 := HB1.out.trans (b1.mono HB1.out.size); have s1 := HS.out y1 q1) | (go_at_call 39; refine (HT.out y1 q1).mono ?_; rintro e y2 ⟨rfl, b2⟩; have q2 := q1.trans (b2.mono q1.size); have s2 := HS.out y2 q2) | (go_at_call 60; refine (HM.out y2 q2).mono ?_; rintro e y3 ⟨rfl, rfl⟩))
    all_goals
      go_wp2
      go_ret
      exact ⟨rfl, q2⟩
  · rw [if_neg h0]
    have hn : (281474976710655 : Int) < (A : Int) := by omega
    clear h
    go_enter Tryz.func17, Tryz.ntmps17
    go_wp2
    go_ret
    exact ⟨rfl, Below.refl _ _⟩
end
end Go.Proofs.YtfghfbmmaclcnaaGreat
