/- The program's index: Link. -/
import Derived.Test.YtmpnbaiolmkhlaaIr
import Derived.Deep.RegionHeld3
namespace Go.Proofs.Ytmpnbaiolmkhlaa
set_option maxRecDepth 20000
open Go.RowKit
theorem PxIs.setLk {w : World} {x rr rb tr tb B S : Nat} {g : Nat → Nat} {T won lost : Nat} {lk : Int} (h : PxIs w x rr rb tr tb B S g T won lost lk) (v : Int) : PxIs (w.setCell ⟨x, 4, none⟩ (.int .i32 v)) x rr rb tr tb B S g T won lost v ∧ Keeps (PxOwn x rr rb tr tb) w (w.setCell ⟨x, 4, none⟩ (.int .i32 v)) := by
  have K : Keeps (fun i => i = x) w (w.setCell ⟨x, 4, none⟩ (.int .i32 v)) := (Keeps.refl (fun i => i = x) w).setCell _ (fun _ => rfl) _
  refine ⟨⟨by rw [cell_set_off _ _ _ _ (by decide)]; exact h.c0, by rw [cell_set_off _ _ _ _ (by decide)]; exact h.c1, by rw [cell_set_off _ _ _ _ (by decide)]; exact h.c2, by rw [cell_set_off _ _ _ _ (by decide)]; exact h.c3, World.cell?_setCell_same _ _ _ h.c4, by rw [World.frozen?_setCell]; exact h.f4, h.row.keep K (fun e => h.ne.1 e.symm) (fun e => h.ne.2.1 e.symm), (by obtain ⟨c, k⟩ := h.tk; exact ⟨c, k.keep K (fun e => h.ne.2.2.1 e.symm) (fun e => h.ne.2.2.2 e.symm)⟩), h.ne, h.n2, h.bs, h.few⟩, K.wider (fun i _ hi => .inl hi)⟩
set_option maxHeartbeats 1000000 in
theorem px_isTaken {w : World} {x rr rb tr tb B S : Nat} {g : Nat → Nat} {T won lost : Nat} {lk : Int} (h : PxIs w x rr rb tr tb B S g T won lost lk) (s : Nat) (h1 : B ≤ s) (h2 : s < B + T) :
    Calls Try.prog 57 #[.pointer (some ⟨x, 0, none⟩), .int .i64 (s : Int)] w fun e w' => e = .returned (.bool true) ∧ Below w.heap.size w w' := by
  have hbs := h.bs
  have hfw := h.few
  have c0 := h.c0
  have c3 := h.c3
  obtain ⟨tc, htk⟩ := h.tk
  have HL := hide (fun n => rload (w := w.drewN n) (htk.drew n) 0 (by omega) (T : Int) rfl)
  have hw2 : wrap64 (T : Int) = (T : Int) := IntWalk.wrap64_in _ (by omega)
  have hw3 : IntKind.i64.wrap (T : Int) = (T : Int) := IntWalk.i64_in _ (by omega)
  have d2 : (s : Int) < (B : Int) + (T : Int) := by omega
  have d1 : (B : Int) ≤ (s : Int) := by omega
  clear h
  go_enter Try.func57, Try.ntmps57
  go_wp2_with fail
  go_quiet ((go_at_call 53; exact Calls.quiet_of_same (HL.out _)))
  go_wp2
  go_ret
  exact ⟨ret_bool (by first | (simp; done) | (simp; omega)), below_drewN (Below.refl _ _) _⟩
set_option maxHeartbeats 1000000 in
theorem px_isLinked {w : World} {x rr rb tr tb B S : Nat} {g : Nat → Nat} {T won lost : Nat} {lk : Int} (h : PxIs w x rr rb tr tb B S g T won lost lk) (s : Nat) (hs : s ≤ 2000) (hl : ∀ i, i < B + S → g (8 * i + 7) ≤ s) :
    Calls Try.prog 58 #[.pointer (some ⟨x, 0, none⟩), .int .i64 (s : Int)] w fun e w' => e = .returned (.bool false) ∧ Below w.heap.size w w' := by
  have hbs := h.bs
  have H := hide h
  have HL := hide hl
  have HA := hide (px_all (w := w) (x := x) (B := B) (S := S) h.c0 h.c1 (by omega))
  have HTO := hide (px_linkTo s hs)
  clear h hl
  generalize hm : B + S = m at *
  go_enter Try.func58, Try.ntmps58
  go_wp2_with fail
  refine HA.out.mono ?_
  rintro e y ⟨rfl, k, rfl⟩
  have hb0 := below_drewN (Below.refl w.heap.size w) k
  go_wp2
  go_loopw [8] (fun vi wr => ∃ i : Nat, i ≤ m ∧ vi = .int .i64 (i : Int) ∧ Below w.heap.size w wr) (fun vi _ => m - (intOf vi).toNat)
  case atStart => exact ⟨0, Nat.zero_le _, rfl, hb0⟩
  case round =>
    clear hb0
    obtain ⟨i, hi, rfl, hbel⟩ := hrel
    by_cases hlt : i < m
    · have hx := H.out.below hbel
      have c2 := hx.c2
      have hG := HL.out i hlt
      have HLO := hide (px_linkOf i (by omega))
      have HLD := hide (fun n => rload (w := wr.drewN n) (hx.row.drew n) (8 * i + 7) (by omega) (ixI g (8 * i + 7)) rfl)
      unfold ixI at HLD
      obtain ⟨G, hGG⟩ : ∃ G, g (8 * i + 7) = G := ⟨_, rfl⟩
      rw [hGG] at HLD hG
      clear hGG hx
      have hg : ((G : Int) == ((s + 1 : Nat) : Int)) = false := by rw [beq_eq_false_iff_ne]; omega
      generalize s + 1 = s1 at *
      go_wp2_with fail
      go_quiet ((first | (go_at_call 60; exact Calls.quiet_of_same (HLO.out _)) | (go_at_call 61; exact Calls.quiet_of_same (HTO.out _)) | (go_at_call 53; exact Calls.quiet_of_same (HLD.out _))))
      go_wp2
      go_roundw
      case rel => exact ⟨i + 1, by omega, by go_num, hbel.trans ((below_drewN (Below.refl _ _) _).mono hbel.size)⟩
      case measure => simp [intOf]; omega
    · have e : i = m := by omega
      subst e
      go_wp2
      go_ret
      exact ⟨rfl, hbel⟩
set_option maxHeartbeats 1000000 in
/-- slices.Index: where it isn't. -/
theorem sIndex_no {w : World} {q cap : Nat} {c : List Nat} (hc : ChnAt w q c) (hcl : c.length ≤ 2000) (a : Nat) (ha : ∀ j, j < c.length → c.getD j 0 ≠ a) :
    Calls Try.prog 83 #[.slice (some ⟨q, 0, none⟩) c.length cap, .int .i64 (a : Int)] w fun e w' => e = .returned (.int .i64 (-1)) ∧ w' = w := by
  have HC := hide hc
  have HA := hide ha
  clear hc ha
  go_enter Try.func83, Try.ntmps83
  go_wp2
  go_loopw [8] (fun vi wr => ∃ i : Nat, i ≤ c.length ∧ vi = .int .i64 (i : Int) ∧ wr = w) (fun vi _ => c.length - (intOf vi).toNat)
  case atStart => exact ⟨0, Nat.zero_le _, rfl, rfl⟩
  case round =>
    obtain ⟨i, hi, rfl, rfl⟩ := hrel
    by_cases hlt : i < c.length
    · have cq := HC.out i hlt
      have hne := HA.out i hlt
      generalize c.getD i 0 = u at *
      have hb : ((a : Int) == (u : Int)) = false := by rw [beq_eq_false_iff_ne]; omega
      go_wp2
      go_roundw
      case rel => exact ⟨i + 1, by omega, by go_num, by trivial⟩
      case measure => simp [intOf]; omega
    · have e : i = c.length := by omega
      subst e
      go_wp2
      go_ret
      exact ⟨rfl, rfl⟩
theorem sContains_no {w : World} {q cap : Nat} {c : List Nat} (hc : ChnAt w q c) (hcl : c.length ≤ 2000) (a : Nat) (ha : ∀ j, j < c.length → c.getD j 0 ≠ a) :
    Calls Try.prog 59 #[.slice (some ⟨q, 0, none⟩) c.length cap, .int .i64 (a : Int)] w fun e w' => e = .returned (.bool false) ∧ w' = w := by
  have HI := hide (sIndex_no (cap := cap) hc hcl a ha)
  clear hc ha
  go_enter Try.func59, Try.ntmps59
  go_wp2_with fail
  refine HI.out.mono ?_
  rintro e y ⟨rfl, rfl⟩
  go_wp2
  go_ret
  exact ⟨rfl, rfl⟩
end Go.Proofs.Ytmpnbaiolmkhlaa
