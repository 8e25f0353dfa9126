/- The program's index: Fill with noughts. -/
import Derived.Test.YtmpnbaiolmkhlaaJ0
import Derived.Test.YtmpnbaiolmkhlaaJ1
import Derived.Test.YtmpnbaiolmkhlaaIt
namespace Go.Proofs.Ytmpnbaiolmkhlaa
set_option maxRecDepth 20000
open Go.RowKit
/-- The words are others, and the count of spare buckets. -/
theorem PxIs.setTk {w w' : World} {x rr rb tr tb B S : Nat} {g : Nat → Nat} {T won lost : Nat} {lk : Int} (h : PxIs w x rr rb tr tb B S g T won lost lk) {T' : Nat} (hT : T' ≤ S) {c : Int} {v : Nat → Int} (hr : RowIs w' tr tb 1 v c 0) (hv : v 0 = (T' : Int)) (hk : Keeps (InRow tr tb) w w') : PxIs w' x rr rb tr tb B S g T' won lost lk ∧ Keeps (PxOwn x rr rb tr tb) w w' := by
  have n2 := h.n2
  have nx : ¬ InRow tr tb x := fun e => e.elim h.ne.2.2.1 h.ne.2.2.2
  have nt : ¬ InRow tr tb rr := fun e => e.elim (fun e => n2.1 e.symm) (fun e => n2.2.2.1 e.symm)
  have nb : ¬ InRow tr tb rb := fun e => e.elim (fun e => n2.2.1 e.symm) (fun e => n2.2.2.2 e.symm)
  obtain ⟨l1, l2, l3, l4, l5⟩ := h.lt
  refine ⟨⟨by rw [hk.cell l1 nx]; exact h.c0, by rw [hk.cell l1 nx]; exact h.c1, by rw [hk.cell l1 nx]; exact h.c2, by rw [hk.cell l1 nx]; exact h.c3, by rw [hk.cell l1 nx]; exact h.c4, by rw [hk.frozen l1 nx]; exact h.f4, h.row.keep hk nt nb, ⟨c, hr.same (fun i hi => by rw [show i = 0 by omega]; exact hv)⟩, h.ne, h.n2, h.bs, ?_⟩, hk.wider (fun i _ hi => hi.elim (fun e => .inr (.inr (.inr (.inl e)))) (fun e => .inr (.inr (.inr (.inr e)))))⟩
  have := h.few
  omega
theorem PxIs.setRow {w w' : World} {x rr rb tr tb B S : Nat} {g g' : Nat → Nat} {T won lost : Nat} {lk : Int} (h : PxIs w x rr rb tr tb B S g T won lost lk) (hr : RowIs w' rr rb (8 * (B + S)) (ixI g') (won : Int) (lost : Int)) (hk : Keeps (InRow rr rb) w w') : PxIs w' x rr rb tr tb B S g' T won lost lk ∧ Keeps (PxOwn x rr rb tr tb) w w' := by
  have n2 := h.n2
  have nx : ¬ InRow rr rb x := fun e => e.elim h.ne.1 h.ne.2.1
  have nt : ¬ InRow rr rb tr := fun e => e.elim n2.1 n2.2.1
  have nb : ¬ InRow rr rb tb := fun e => e.elim n2.2.2.1 n2.2.2.2
  obtain ⟨l1, l2, l3, l4, l5⟩ := h.lt
  exact ⟨⟨by rw [hk.cell l1 nx]; exact h.c0, by rw [hk.cell l1 nx]; exact h.c1, by rw [hk.cell l1 nx]; exact h.c2, by rw [hk.cell l1 nx]; exact h.c3, by rw [hk.cell l1 nx]; exact h.c4, by rw [hk.frozen l1 nx]; exact h.f4, hr, (by obtain ⟨c, k⟩ := h.tk; exact ⟨c, k.keep hk nt nb⟩), h.ne, h.n2, h.bs, h.few⟩, hk.wider (fun i _ hi => hi.elim (fun e => .inr (.inl e)) (fun e => .inr (.inr (.inl e))))⟩
set_option maxHeartbeats 2000000 in
theorem px_fill0 {w : World} {x rr rb tr tb B S : Nat} {g : Nat → Nat} {T won lost : Nat} {lk : Int} (h : PxIs w x rr rb tr tb B S g T won lost lk) (q n : Nat) (hn : n = 8 * (B + S) + 1) (hq : ¬ PxOwn x rr rb tr tb q) (hz : ∀ t, t < n → w.cell? ⟨q, t, none⟩ = some (.int .u64 0)) :
    Calls Try.prog 26 #[.pointer (some ⟨x, 0, none⟩), .slice (some ⟨q, 0, none⟩) n n] w fun e w' => e = .returned (.int .i64 0) ∧ PxIs w' x rr rb tr tb B S (fun _ => 0) 0 won lost lk ∧ Keeps (PxOwn x rr rb tr tb) w w' := by
  have hbs := h.bs
  have hfw := h.few
  have H := hide h
  have c1 := h.c1
  have c2 := h.c2
  have HLEN := hide (fun m => len_any rr _ _ _ (w.drewN m) (h.row.drew m).c0)
  obtain ⟨M, HM⟩ : ∃ M, Hid (8 * (B + S) = M) := ⟨_, rfl⟩
  rw [HM.out] at HLEN hn
  have hM := HM.out
  have d0 : IntKind.i64.wrap (1 + (M : Int)) = (n : Int) := by rw [IntWalk.i64_in _ (by omega)]; omega
  have d1 : ((n : Int) != (n : Int)) = false := by simp
  have d3 : decide ((S : Int) < 0) = false := decide_eq_false (by omega)
  have hn1 : (1 : Int) ≤ (n : Int) := by omega
  have d2 : IntKind.u64.wrap (S : Int) = (S : Int) := IntWalk.u64_in _ (by omega)
  have hS0 : ¬ (S : Int) < 0 := by omega
  have hql : q < w.heap.size := World.block_lt_of_cell? w _ (hz 0 (by omega))
  have z0 := hz 0 (by omega)
  have HZ := hide hz
  have HN := hide hn
  have hn0 : 0 < n := by omega
  have hnb : n ≤ 20000 := by omega
  clear h hz hn hM
  go_enter Try.func26, Try.ntmps26
  go_wp2_with fail
  go_quiet ((go_at_call 33; exact Calls.quiet_of_same (HLEN.out _)))
  have HX := hide (H.out.drew nq)
  have KX := hide (Below.keeps (S := PxOwn x rr rb tr tb) (below_drewN (Below.refl w.heap.size w) nq))
  have HZX : Hid (∀ t, t < n → (w.drewN nq).cell? ⟨q, t, none⟩ = some (.int .u64 0)) := HZ.out
  have hqX : q < (w.drewN nq).heap.size := hql
  clear c1 c2 z0 HLEN H HZ hql
  generalize w.drewN nq = X at *
  have c3 := HX.out.c3
  have z0 := HZX.out 0 hn0
  have hnt : ¬ InRow tr tb q := fun e => hq (e.elim (fun e => .inr (.inr (.inr (.inl e)))) (fun e => .inr (.inr (.inr (.inr e)))))
  have hnr : ¬ InRow rr rb q := fun e => hq (e.elim (fun e => .inr (.inl e)) (fun e => .inr (.inr (.inl e))))
  have hnx : ¬ InRow tr tb x := fun e => e.elim HX.out.ne.2.2.1 HX.out.ne.2.2.2
  have hxl := HX.out.lt.1
  obtain ⟨tc, htk⟩ := HX.out.tk
  have HST := hide (kstore (htk.drew 1) 0 (by omega) 0)
  clear htk
  go_wp2_with fail
  go_region_held3 (fun W => W.cell? ⟨x, 3, none⟩ = some (.pointer (some ⟨tr, 0, none⟩)) ∧ W.cell? ⟨q, 0, none⟩ = some (.int .u64 0)) (first | assumption | go_keep) (first | (go_at_call 67; refine HST.out.mono ?_; rintro e z ⟨rfl, q1, q2⟩; have q3 : z.cell? ⟨x, 3, none⟩ = some (.pointer (some ⟨tr, 0, none⟩)) ∧ z.cell? ⟨q, 0, none⟩ = some (.int .u64 0) := ⟨(q2.cell (p := ⟨x, 3, none⟩) hxl hnx).trans c3, (q2.cell (p := ⟨q, 0, none⟩) hqX hnt).trans z0⟩))
  obtain ⟨P2, k2⟩ := (HX.out.drew 1).setTk (T' := 0) (by omega) q1 (by unfold updV; rw [if_pos rfl]; rfl) q2
  have P3 := hide P2
  have K3 := hide ((KX.out.drewN 1).trans k2 (fun _ _ t => t))
  have HZ3 : Hid (∀ t, t < n → z.cell? ⟨q, t, none⟩ = some (.int .u64 0)) := fun t ht => (q2.cell (p := ⟨q, t, none⟩) hqX hnt).trans (HZX.out t ht)
  have hq3 : q < z.heap.size := Nat.lt_of_lt_of_le hqX q2.size
  clear c3 z0 hnx hxl HST q1 q2 q3 P2 k2 HX KX HZX hqX
  have c2 := P3.out.c2
  have hM := HM.out
  have hN := HN.out
  have HFI := hide (rfill (cap := n - 1) (P3.out.drew 1).row (by omega) 0 (n - 1) (by omega) (some ⟨q, 1, none⟩) (fun _ => 0) (fun j hj => ⟨q, 1, rfl, HZ3.out (1 + j) (by omega)⟩) (fun _ g2 off e => by cases e; exact hnr))
  have HRES : Hid (∀ z', RowIs z' rr rb (8 * (B + S)) (fillV (ixI g) 0 (n - 1) (fun _ => 0)) (won : Int) (lost : Int) → Keeps (InRow rr rb) (z.drewN 1) z' → PxIs z' x rr rb tr tb B S (fun _ => 0) 0 won lost lk ∧ Keeps (PxOwn x rr rb tr tb) w z') := fun z' hr hk => by
    obtain ⟨a, b⟩ := (P3.out.drew 1).setRow (g' := fun _ => 0) (hr.same (fun i hi => by unfold fillV; rw [if_pos (by omega)]; rfl)) hk
    exact ⟨a, (K3.out.drewN 1).trans b (fun _ _ t => t)⟩
  have hn2 : ¬ n = 1 := by omega
  have hn3 : ¬ (n : Int) = 1 := by omega
  clear hM hN
  go_wp2_with fail
  go_region_held3 (fun W => W.cell? ⟨x, 2, none⟩ = some (.pointer (some ⟨rr, 0, none⟩))) (first | assumption | go_keep) (first | (go_at_call 68; refine HFI.out.mono ?_; rintro e z' ⟨rfl, r1, r2⟩; have HR := HRES.out z' r1 r2; have q4 := HR.1.c2))
  go_wp2
  go_ret
  exact ⟨rfl, HR.1, HR.2⟩
end Go.Proofs.Ytmpnbaiolmkhlaa
