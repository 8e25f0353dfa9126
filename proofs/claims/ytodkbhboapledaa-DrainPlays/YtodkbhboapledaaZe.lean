/- Package drain at a list that isn't there; the chapter's example (awake). -/
import Derived.Test.YtodkbhboapledaaZd
namespace Go.Proofs.Ytodkbhboapledaa
open Go.RowKit
theorem nil_put (a b c : Int) (w : World) :
    Calls Try.prog 8 #[.pointer none, .agg #[.int .u64 a, .int .i64 b, .int .i64 c]] w fun e w' => e = .returned (.int .i64 2) ∧ Below w.heap.size w w' := by
  go_enter Try.func8, Try.ntmps8
  go_wp2
  go_ret
  exact ⟨rfl, (Below.refl _ _).alloc (Nat.le_refl _) _⟩
theorem nil_ready (s : Int) (w : World) :
    Calls Try.prog 11 #[.pointer none, .int .u64 s] w fun e w' => e = .returned (.slice none 0 0) ∧ w' = w := by
  go_enter Try.func11, Try.ntmps11
  go_wp2
  go_ret
  exact ⟨rfl, rfl⟩
theorem nil_waiting (w : World) :
    Calls Try.prog 14 #[.pointer none] w fun e w' => e = .returned (.slice none 0 0) ∧ w' = w := by
  go_enter Try.func14, Try.ntmps14
  go_wp2
  go_ret
  exact ⟨rfl, rfl⟩
theorem nil_len (w : World) :
    Calls Try.prog 15 #[.pointer none] w fun e w' => e = .returned (.int .i64 0) ∧ w' = w := by
  go_enter Try.func15, Try.ntmps15
  go_wp2
  go_ret
  exact ⟨rfl, rfl⟩
theorem nil_least (w : World) :
    Calls Try.prog 16 #[.pointer none] w fun e w' => e = .returned (.int .u64 0) ∧ w' = w := by
  go_enter Try.func16, Try.ntmps16
  go_wp2_with fail
  refine (nil_len _).mono ?_
  rintro e x ⟨rfl, rfl⟩
  go_wp2
  go_ret
  exact ⟨rfl, rfl⟩
/-- The program's list, all of it in blocks from B on. -/
def DrLow (w : World) (B t : Nat) (l : List A3) : Prop := ∃ S, DrIs w S t l ∧ (∀ k, S k → B ≤ k) ∧ B ≤ w.heap.size
theorem more_low {S : Nat → Prop} {w w' : World} {B : Nat} (h : ∀ k, S k → B ≤ k) (hB : B ≤ w.heap.size) : ∀ k, More S w w' k → B ≤ k := by
  rintro k (hk | ⟨hk, _⟩)
  · exact h k hk
  · omega
theorem low_below {w w' : World} {B t : Nat} {l : List A3} (h : DrLow w B t l) (hb : Below w.heap.size w w') : DrLow w' B t l := by
  obtain ⟨S, h1, h2, h3⟩ := h
  exact ⟨S, h1.below hb, h2, Nat.le_trans h3 hb.size⟩
theorem low_new (w : World) :
    Calls Try.prog 7 #[] w fun e w' => ∃ t, e = .returned (.pointer (some ⟨t, 0, none⟩)) ∧ DrLow w' w.heap.size t [] ∧ Below w.heap.size w w' := by
  refine (drain_new w).mono ?_
  rintro e w' ⟨rfl, hz, h, hb⟩
  exact ⟨_, rfl, ⟨_, h, fun k hk => by omega, by omega⟩, hb⟩
theorem low_put {w : World} {B t : Nat} {l : List A3} (h : DrLow w B t l) (a : A3) :
    Calls Try.prog 8 #[.pointer (some ⟨t, 0, none⟩), a.val] w fun e w' => e = .returned (.int .i64 (putE l)) ∧ DrLow w' B t (putL l a) ∧ Below B w w' := by
  obtain ⟨S, h1, h2, h3⟩ := h
  refine (drain_put h1 a).mono ?_
  rintro e w' ⟨rfl, hd, hk⟩
  exact ⟨rfl, ⟨_, hd, more_low h2 h3, Nat.le_trans h3 hk.size⟩, hk.below h3 h2⟩
theorem low_ready {w : World} {B t : Nat} {l : List A3} (h : DrLow w B t l) (hl : l.length ≤ 16) (s : Int) :
    Calls Try.prog 11 #[.pointer (some ⟨t, 0, none⟩), .int .u64 s] w fun e w' => ∃ ao cap, e = .returned (.slice ao (readyL s l).length cap) ∧ As w' ao (readyL s l).length (getL (readyL s l)) ∧ DrLow w' B t (restL s l) ∧ Below B w w' := by
  obtain ⟨S, h1, h2, h3⟩ := h
  refine (drain_ready h1 hl s).mono ?_
  rintro e w' ⟨ao, cap, rfl, ha, -, hd, hk⟩
  exact ⟨ao, cap, rfl, ha, ⟨_, hd, more_low h2 h3, Nat.le_trans h3 hk.size⟩, hk.below h3 h2⟩
theorem low_len {w : World} {B t : Nat} {l : List A3} (h : DrLow w B t l) :
    Calls Try.prog 15 #[.pointer (some ⟨t, 0, none⟩)] w fun e w' => e = .returned (.int .i64 (l.length : Int)) ∧ w' = w := by
  obtain ⟨S, h1, _⟩ := h
  exact drain_len h1
set_option maxHeartbeats 1000000 in
theorem awake7_any (w : World) :
    Calls Try.prog 6 #[] w fun e w' => e = .returned (.bool true) ∧ Below w.heap.size w w' := by
  have e1 : putE [] = 0 := by decide
  have e2 : putL [] ⟨3, 1, 0⟩ = [⟨3, 1, 0⟩] := rfl
  have e3 : readyL 2 [⟨3, 1, 0⟩] = [] := rfl
  have e4 : restL 2 [⟨3, 1, 0⟩] = [⟨3, 1, 0⟩] := rfl
  have e5 : readyL 3 [⟨3, 1, 0⟩] = [⟨3, 1, 0⟩] := rfl
  have e6 : restL 3 [⟨3, 1, 0⟩] = [] := rfl
  have E1 := hide e1
  have E2 := hide e2
  have E3 := hide e3
  have E4 := hide e4
  have E5 := hide e5
  have E6 := hide e6
  clear e1 e2 e3 e4 e5 e6
  go_enter Try.func6, Try.ntmps6
  go_wp2_with fail
  refine (low_new _).mono ?_
  rintro e w1 ⟨t, rfl, h1, b1⟩
  go_wp2_with fail
  refine (low_put h1 ⟨3, 1, 0⟩).mono ?_
  rintro e w2 ⟨rfl, h2, k2⟩
  replace b1 := b1.trans k2
  rw [E1.out]
  rw [E2.out] at h2
  go_wp2_with fail
  refine (low_ready h2 (by decide) 2).mono ?_
  rintro e w3 ⟨ao, cap, rfl, -, h3, k3⟩
  replace b1 := b1.trans k3
  rw [E3.out, List.length_nil]
  rw [E4.out] at h3
  go_wp2_with fail
  refine (low_ready h3 (by decide) 3).mono ?_
  rintro e w4 ⟨ao, cap, rfl, -, h4, k4⟩
  replace b1 := b1.trans k4
  rw [E5.out, List.length_singleton]
  rw [E6.out] at h4
  go_wp2_with fail
  refine (low_ready h4 (by decide) 3).mono ?_
  rintro e w5 ⟨ao, cap, rfl, -, h5, k5⟩
  replace b1 := b1.trans k5
  rw [show readyL 3 [] = [] from rfl, List.length_nil]
  go_wp2
  go_ret
  exact ⟨rfl, b1⟩
end Go.Proofs.Ytodkbhboapledaa
