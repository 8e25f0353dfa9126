/- The reference's Ints, and what is carried by both. -/
import Derived.Test.YtjhndhibojndfaaEa
namespace Go.Proofs.Ytjhndhibojndfaa
open Go.RowKit
set_option maxHeartbeats 1000000 in
theorem ints_same {w : World} {ao bo : Option Addr} {n c c' : Nat} {z : Nat → Int} (h1 : Sl .i64 w ao n z) (h2 : Sl .i64 w bo n z) (hn : n ≤ 9223372036854775807) :
    Calls Try.prog 10 #[.slice ao n c, .slice bo n c'] w fun e w' => e = .returned (.bool true) ∧ Below w.heap.size w w' := by
  have H1 := hide h1
  have H2 := hide h2
  clear h1 h2
  go_enter Try.func10, Try.ntmps10
  go_wp2
  go_loopw [5] (fun v y => ∃ k : Nat, k ≤ n ∧ v = .int .i64 k ∧ ∃ q, y = w.drewN q) (fun v _ => n - (intOf v).toNat)
  case atStart => exact ⟨0, Nat.zero_le _, rfl, 0, rfl⟩
  case round =>
    obtain ⟨k, hk, rfl, q, rfl⟩ := hrel
    by_cases hlt : k < n
    · obtain ⟨g, off, rfl, e1⟩ := H1.out k hlt
      obtain ⟨g', off', rfl, e2⟩ := H2.out k hlt
      generalize z k = zk at *
      have i0 : (0 : Int) ≤ (k : Int) := by omega
      have i1 : (k : Int) < (n : Int) := by omega
      clear H1 H2
      go_wp2
      go_quiet ((fail))
      go_wp2
      go_roundw
      case rel => exact ⟨k + 1, by omega, by go_num, _, rfl⟩
      case measure => simp [intOf]; omega
    · go_wp2
      go_ret
      exact ⟨rfl, below_drewN (Below.refl _ _) _⟩
/-- The program's device and the reference's, side by side, all from B on. -/
structure Both (B t m : Nat) (d : Dv) (x : World) : Prop where
  dv : DvIs x t d
  rf : ∃ vi vj, RefD x m d vi vj
  tm : t + 3 < m
  Bt : B ≤ t
theorem Both.below {B t m : Nat} {d : Dv} {x y : World} (h : Both B t m d x) (hb : Below x.heap.size x y) : Both B t m d y := by
  obtain ⟨vi, vj, hr⟩ := h.rf
  exact ⟨h.dv.below hb, ⟨vi, vj, hr.below hb⟩, h.tm, h.Bt⟩
/-- The program has turned, the reference is yet to. -/
structure Half (B t m : Nat) (d d' : Dv) (x : World) : Prop where
  dv : DvIs x t d'
  rf : ∃ vi vj, RefD x m d vi vj
  tm : t + 3 < m
  Bt : B ≤ t
theorem Both.step {B t m : Nat} {d d' : Dv} {x y : World} (h : Both B t m d x) (hd : DvIs y t d') (hk : Keeps (InD t) x y) : Half B t m d d' y ∧ Below B x y := by
  obtain ⟨vi, vj, hr⟩ := h.rf
  have := h.tm
  have hlt := h.dv.lt
  have hBt := h.Bt
  exact ⟨⟨hd, ⟨vi, vj, hr.keep hk (fun k _ s => by have := s.2; omega)⟩, h.tm, h.Bt⟩, keeps_low hk h.Bt (by omega)⟩
theorem Half.step {B t m : Nat} {d d' : Dv} {x y : World} (h : Half B t m d d' x) (hr : ∃ vi vj, RefD y m d' vi vj) (hb : Below m x y) : Both B t m d' y ∧ Below B x y := by
  have := h.tm
  have := h.Bt
  exact ⟨⟨h.dv.keep (S := fun k => m ≤ k) ⟨hb.os, hb.tape, hb.output, hb.size, fun k _ hk => hb.block k (by omega)⟩ (fun k hk s => by have := hk.2; omega), hr, h.tm, h.Bt⟩, hb.mono (by omega)⟩
theorem Half.below {B t m : Nat} {d d' : Dv} {x y : World} (h : Half B t m d d' x) (hb : Below x.heap.size x y) : Half B t m d d' y := by
  obtain ⟨vi, vj, hr⟩ := h.rf
  exact ⟨h.dv.below hb, ⟨vi, vj, hr.below hb⟩, h.tm, h.Bt⟩
end Go.Proofs.Ytjhndhibojndfaa
