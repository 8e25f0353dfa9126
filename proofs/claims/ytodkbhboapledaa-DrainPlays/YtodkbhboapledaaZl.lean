/- The program's list and the reference's, side by side. -/
import Derived.Test.YtodkbhboapledaaZk
namespace Go.Proofs.Ytodkbhboapledaa
open Go.RowKit
/-- The program's list (those who wait: l) and the reference's (l'), in blocks apart from each other, all from B on. -/
def Both (B t m : Nat) (l l' : List A3) (c : Nat) (W : World) : Prop :=
  ∃ S M, DrIs W S t l ∧ RefW W M m l' c ∧ l.length ≤ 16 ∧ (∀ k, S k → ¬ M k) ∧ (∀ k, S k → B ≤ k ∧ k < W.heap.size) ∧ (∀ k, M k → B ≤ k ∧ k < W.heap.size) ∧ B ≤ W.heap.size
/-- The same, and a slice of actions on the program's side. -/
def BothT (B t m : Nat) (l l' : List A3) (c : Nat) (ao : Option Addr) (n : Nat) (z : Nat → A3) (W : World) : Prop :=
  ∃ S M, DrIs W S t l ∧ RefW W M m l' c ∧ l.length ≤ 16 ∧ (∀ k, S k → ¬ M k) ∧ (∀ k, S k → B ≤ k ∧ k < W.heap.size) ∧ (∀ k, M k → B ≤ k ∧ k < W.heap.size) ∧ B ≤ W.heap.size ∧ As W ao n z ∧ (0 < n → ∀ g off, ao = some ⟨g, off, none⟩ → S g)
theorem Both.below {B t m : Nat} {l l' : List A3} {c : Nat} {W W' : World} (h : Both B t m l l' c W) (hb : Below W.heap.size W W') : Both B t m l l' c W' := by
  obtain ⟨S, M, h1, h2, h3, h4, h5, h6, h7⟩ := h
  have := hb.size
  exact ⟨S, M, h1.below hb, h2.below hb, h3, h4, fun k hk => ⟨(h5 k hk).1, by have := (h5 k hk).2; omega⟩, fun k hk => ⟨(h6 k hk).1, by have := (h6 k hk).2; omega⟩, by omega⟩
theorem Both.drew {B t m : Nat} {l l' : List A3} {c : Nat} {W : World} (h : Both B t m l l' c W) (d : Nat) : Both B t m l l' c (W.drewN d) := h.below (below_drewN (Below.refl _ _) d)
theorem Both.low {B t m : Nat} {l l' : List A3} {c : Nat} {W : World} (h : Both B t m l l' c W) : B ≤ W.heap.size := by
  obtain ⟨S, M, h1, h2, h3, h4, h5, h6, h7⟩ := h
  exact h7
theorem Both.few {B t m : Nat} {l l' : List A3} {c : Nat} {W : World} (h : Both B t m l l' c W) : l.length ≤ 16 := by
  obtain ⟨S, M, h1, h2, h3, h4, h5, h6, h7⟩ := h
  exact h3
theorem Both.more {B t m : Nat} {l l' : List A3} {c c' : Nat} {W : World} (h : Both B t m l l' c W) (hc : c ≤ c') : Both B t m l l' c' W := by
  obtain ⟨S, M, h1, ⟨n, z, g, vL, vG, hn, hr, hw⟩, h3⟩ := h
  exact ⟨S, M, h1, ⟨n, z, g, vL, vG, Nat.le_trans hn hc, hr, hw⟩, h3⟩
theorem more_apart {S M : Nat → Prop} {w w' : World} (h : ∀ k, S k → ¬ M k) (hM : ∀ k, M k → k < w.heap.size) : ∀ k, More S w w' k → ¬ M k := by
  rintro k (hk | ⟨hk, _⟩) hm
  · exact h k hk hm
  · have := hM k hm; omega
theorem more_in {S : Nat → Prop} {w w' : World} {B : Nat} (h : ∀ k, S k → B ≤ k ∧ k < w.heap.size) (hB : B ≤ w.heap.size) (hs : w.heap.size ≤ w'.heap.size) : ∀ k, More S w w' k → B ≤ k ∧ k < w'.heap.size := by
  rintro k (hk | ⟨hk, hk'⟩)
  · have := h k hk; omega
  · omega
theorem putL_few {l : List A3} (h : l.length ≤ 16) (a : A3) : (putL l a).length ≤ 16 := by
  unfold putL
  split
  · exact h
  · simp; omega
theorem both_dput {B t m : Nat} {l l' : List A3} {c : Nat} {W : World} (h : Both B t m l l' c W) (a : A3) :
    Calls Try.prog 8 #[.pointer (some ⟨t, 0, none⟩), a.val] W fun e W' => e = .returned (.int .i64 (putE l)) ∧ Both B t m (putL l a) l' c W' ∧ Below B W W' := by
  obtain ⟨S, M, h1, h2, h3, h4, h5, h6, h7⟩ := h
  refine (drain_put h1 a).mono ?_
  rintro e W' ⟨rfl, hd, hk⟩
  exact ⟨rfl, ⟨_, M, hd, h2.keep hk (fun k hm hs => h4 k hs hm), putL_few h3 a, more_apart h4 (fun k hm => (h6 k hm).2), more_in h5 h7 hk.size, fun k hm => ⟨(h6 k hm).1, Nat.lt_of_lt_of_le (h6 k hm).2 hk.size⟩, Nat.le_trans h7 hk.size⟩, hk.below h7 (fun k hs => (h5 k hs).1)⟩
theorem both_mput {B t m : Nat} {l l' : List A3} {c : Nat} {W : World} (h : Both B t m l l' c W) (hc : c ≤ 1000) (a : A3) :
    Calls Try.prog 9 #[.pointer (some ⟨m, 0, none⟩), a.val] W fun e W' => e = .returned (.int .i64 (putE l')) ∧ Both B t m l (putL l' a) (c + 1) W' ∧ Below B W W' := by
  obtain ⟨S, M, h1, h2, h3, h4, h5, h6, h7⟩ := h
  refine (ref_put h2 hc a).mono ?_
  rintro e W' ⟨rfl, hd, hk⟩
  exact ⟨rfl, ⟨S, _, h1.keep hk h4, hd, h3, fun k hs hm => more_apart (fun k hm hs => h4 k hs hm) (fun k hs => (h5 k hs).2) k hm hs, fun k hs => ⟨(h5 k hs).1, Nat.lt_of_lt_of_le (h5 k hs).2 hk.size⟩, more_in h6 h7 hk.size, Nat.le_trans h7 hk.size⟩, hk.below h7 (fun k hs => (h6 k hs).1)⟩
theorem both_dready {B t m : Nat} {l l' : List A3} {c : Nat} {W : World} (h : Both B t m l l' c W) (s : Int) :
    Calls Try.prog 11 #[.pointer (some ⟨t, 0, none⟩), .int .u64 s] W fun e W' => ∃ ao cap, e = .returned (.slice ao (readyL s l).length cap) ∧ BothT B t m (restL s l) l' c ao (readyL s l).length (getL (readyL s l)) W' ∧ Below B W W' := by
  obtain ⟨S, M, h1, h2, h3, h4, h5, h6, h7⟩ := h
  refine (drain_ready h1 h3 s).mono ?_
  rintro e W' ⟨ao, cap, rfl, ha, hf, hd, hk⟩
  refine ⟨ao, cap, rfl, ⟨_, M, hd, h2.keep hk (fun k hm hs => h4 k hs hm), Nat.le_trans (restL_length s l) h3, more_apart h4 (fun k hm => (h6 k hm).2), more_in h5 h7 hk.size, fun k hm => ⟨(h6 k hm).1, Nat.lt_of_lt_of_le (h6 k hm).2 hk.size⟩, Nat.le_trans h7 hk.size, ha, fun hn g off e => ?_⟩, hk.below h7 (fun k hs => (h5 k hs).1)⟩
  refine .inr ⟨hf g off e, ?_⟩
  obtain ⟨b, off', e', hc, -⟩ := ha 0 hn
  rw [e] at e'
  cases e'
  exact World.block_lt_of_cell? W' _ hc
theorem both_mready {B t m : Nat} {l l' : List A3} {c : Nat} {ao : Option Addr} {n : Nat} {z : Nat → A3} {W : World} (h : BothT B t m l l' c ao n z W) (hc : c ≤ 1000) (s : Int) :
    Calls Try.prog 12 #[.pointer (some ⟨m, 0, none⟩), .int .u64 s] W fun e W' => ∃ bo cap, e = .returned (.slice bo (readyL s l').length cap) ∧ As W' ao n z ∧ As W' bo (readyL s l').length (getL (readyL s l')) ∧ Both B t m l (restL s l') c W' ∧ Below B W W' := by
  obtain ⟨S, M, h1, h2, h3, h4, h5, h6, h7, h8, h9⟩ := h
  refine (ref_ready h2 (fun k hk => (h6 k hk).2) hc s).mono ?_
  rintro e W' ⟨bo, cap, rfl, ha, hd, hk⟩
  exact ⟨bo, cap, rfl, h8.keep hk (fun hn g off e => h4 g (h9 hn g off e)), ha, ⟨S, M, h1.keep hk h4, hd, h3, h4, fun k hs => ⟨(h5 k hs).1, Nat.lt_of_lt_of_le (h5 k hs).2 hk.size⟩, fun k hm => ⟨(h6 k hm).1, Nat.lt_of_lt_of_le (h6 k hm).2 hk.size⟩, Nat.le_trans h7 hk.size⟩, hk.below h7 (fun k hs => (h6 k hs).1)⟩
theorem both_mwaiting {B t m : Nat} {l l' : List A3} {c : Nat} {W : World} (h : Both B t m l l' c W) (hc : c ≤ 1000) :
    Calls Try.prog 13 #[.pointer (some ⟨m, 0, none⟩)] W fun e W' => ∃ ao cap, e = .returned (.slice ao l'.length cap) ∧ As W' ao l'.length (getL l') ∧ Below W.heap.size W W' := by
  obtain ⟨S, M, h1, h2, h3, h4, h5, h6, h7⟩ := h
  exact ref_waiting h2 hc
theorem both_dwaiting {B t m : Nat} {l l' : List A3} {c : Nat} {W : World} (h : Both B t m l l' c W) :
    Calls Try.prog 14 #[.pointer (some ⟨t, 0, none⟩)] W fun e W' => ∃ ao cap, e = .returned (.slice ao l.length cap) ∧ As W' ao l.length (getL l) ∧ Below W.heap.size W W' := by
  obtain ⟨S, M, h1, h2, h3, h4, h5, h6, h7⟩ := h
  refine (drain_waiting h1 h3).mono ?_
  rintro e W' ⟨ao, cap, rfl, ha, -, hb⟩
  exact ⟨ao, cap, rfl, ha, hb⟩
theorem both_dlen {B t m : Nat} {l l' : List A3} {c : Nat} {W : World} (h : Both B t m l l' c W) :
    Calls Try.prog 15 #[.pointer (some ⟨t, 0, none⟩)] W fun e W' => e = .returned (.int .i64 (l.length : Int)) ∧ W' = W := by
  obtain ⟨S, M, h1, h2, h3, h4, h5, h6, h7⟩ := h
  exact drain_len h1
theorem both_dleast {B t m : Nat} {l l' : List A3} {c : Nat} {W : World} (h : Both B t m l l' c W) :
    Calls Try.prog 16 #[.pointer (some ⟨t, 0, none⟩)] W fun e W' => e = .returned (.int .u64 (leastL l)) ∧ Below W.heap.size W W' := by
  obtain ⟨S, M, h1, h2, h3, h4, h5, h6, h7⟩ := h
  exact drain_least h1
/-- The law's own least epoch, of the first k. -/
def lawK (l : List A3) : Nat → Int
  | 0 => 0
  | k + 1 => if k = 0 ∨ (getL l k).e < lawK l k then (getL l k).e else lawK l k
theorem lawK_least (l : List A3) (k : Nat) : lawK l (k + 1) = leastK l (k + 1) := by
  induction k with
  | zero => simp [lawK, leastK]
  | succ k ih =>
    have e : leastK l (k + 1 + 1) = min (leastK l (k + 1)) (getL l (k + 1)).e := rfl
    rw [lawK, ih, e]
    split <;> omega
theorem lawK_all (l : List A3) : lawK l l.length = leastL l := by
  unfold leastL
  split
  · rename_i h; rw [h]; rfl
  · rename_i h
    obtain ⟨k, hk⟩ : ∃ k, l.length = k + 1 := ⟨l.length - 1, by omega⟩
    rw [hk, lawK_least]
theorem both_start {x : World} {B t : Nat} (hz : x.heap.size = t + 1) (hB : B ≤ t) (h : DrIs x (fun k => k = t) t []) :
    Both B t (t + 1) [] [] 0 (x.alloc (.cells #[.slice none 0 0, .slice none 0 0] 30)) := by
  have hb : Below x.heap.size x (x.alloc (.cells #[.slice none 0 0, .slice none 0 0] 30)) := (Below.refl _ _).alloc (Nat.le_refl _) _
  refine ⟨fun k => k = t, fun k => k = t + 1, h.below hb, ⟨0, fun _ => default, fun _ => false, .slice none 0 0, .slice none 0 0, Nat.le_refl _, ⟨?_, ?_, ?_, ?_, rfl, Own3.nil _, World.ownsRow_nil _ _ _ _, fun k e => by simp [Value.ownBlock] at e, fun k e => by simp [Value.ownBlock] at e, fun k e => by simp [Value.ownBlock] at e⟩, rfl⟩, by decide, fun k h1 h2 => by omega, fun k h1 => ⟨by omega, by simp; omega⟩, fun k h1 => ⟨by omega, by simp; omega⟩, by simp; omega⟩
  all_goals rw [← hz]; simp
end Go.Proofs.Ytodkbhboapledaa
