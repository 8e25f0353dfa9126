/- The program's index: Link, under its lock. -/
import Derived.Test.YtmpnbaiolmkhlaaIs
import Derived.Defers
namespace Go.Proofs.Ytmpnbaiolmkhlaa
set_option maxRecDepth 20000
open Go.RowKit Go.MuLone
set_option maxHeartbeats 2000000 in
theorem px_link {w : World} {x rr rb tr tb B S : Nat} {g : Nat → Nat} {T won lost : Nat} (h : PxIs w x rr rb tr tb B S g (T + 1) won lost 0) (la s : Nat) (hla : la < B + S) (hs : s = B + T) (hT : T < S) (hne : s ≠ la) (hl : ∀ i, i < B + S → g (8 * i + 7) ≤ s) (hz : g (8 * s + 7) = 0) (hbz : g (8 * la + 7) = 0) (hw : won < 1000000) :
    Calls Try.prog 20 #[.pointer (some ⟨x, 0, none⟩), .int .i64 (la : Int), .int .i64 (s : Int)] w fun e w' => e = .returned (.tuple #[.bool true, .int .i64 0]) ∧ PxIs w' x rr rb tr tb B S (ixUpd g (8 * la + 7) (s + 1)) (T + 1) (won + 1) lost 0 ∧ Keeps (PxOwn x rr rb tr tb) w w' := by
  have hbs := h.bs
  have hsn : s < B + S := by omega
  have HC : Hid (∀ Z : World, PxIs Z x rr rb tr tb B S g (T + 1) won lost 1 → _) := fun Z hZ => px_cas hZ (8 * la + 7) 0 (s + 1) (by omega) hbz hw
  have HCH : Hid (∀ Z : World, PxIs Z x rr rb tr tb B S g (T + 1) won lost 1 → _) := fun Z hZ => px_chain (l := [s]) hZ (.last hz) (by simp; omega) (by simp; omega)
  have HHA : Hid (∀ Z : World, PxIs Z x rr rb tr tb B S g (T + 1) won lost 1 → _) := fun Z hZ => px_has hZ la hla
  have HTA : Hid (∀ Z : World, PxIs Z x rr rb tr tb B S g (T + 1) won lost 1 → _) := fun Z hZ => px_isTaken hZ s (by omega) (by omega)
  have HLI : Hid (∀ Z : World, PxIs Z x rr rb tr tb B S g (T + 1) won lost 1 → _) := fun Z hZ => px_isLinked hZ s (by omega) hl
  have HLO := hide (px_linkOf la (by omega))
  have HTO := hide (px_linkTo s (by omega))
  obtain ⟨hp1, hk1⟩ := h.setLk 1
  have P1 := hide hp1
  have K1 := hide hk1
  have h4 := h.c4
  have z4 := h.f4
  clear h hz hbz hl hp1 hk1 hs
  go_enter_defers Try.func20, Try.ntmps20
  go_wp2_with (go_at_call 54; refine (lock_free muLib ⟨x, 4, none⟩ _ h4 z4).mono ?_; rintro e w' ⟨rfl, rfl⟩)
  generalize w.setCell ⟨x, 4, none⟩ (.int .i32 1) = Z at *
  refine (HHA.out _ P1.out).mono ?_
  rintro e y1 ⟨rfl, k, rfl⟩
  have B1 := below_drewN (Below.refl Z.heap.size Z) k
  have P2 := hide (P1.out.below B1)
  generalize Z.drewN k = Z1 at *
  go_wp2_with fail
  refine (HTA.out _ P2.out).mono ?_
  rintro e y2 ⟨rfl, b2⟩
  have P3 := hide (P2.out.below b2)
  have B2 := B1.trans (b2.mono B1.size)
  go_wp2_with fail
  refine (HLI.out _ P3.out).mono ?_
  rintro e y3 ⟨rfl, b3⟩
  have P4 := hide (P3.out.below b3)
  have B3 := B2.trans (b3.mono B2.size)
  go_wp2_with fail
  refine (HCH.out _ P4.out).mono ?_
  rintro e y4 ⟨v, rfl, ho, b4⟩
  obtain ⟨q, capq, rfl, hq1, hq2, hqc⟩ := own_slI ho (by simp)
  have P5 := hide (P4.out.below b4)
  have B4 := B3.trans (b4.mono B3.size)
  have HCO := hide (sContains_no (w := y4) (q := q) (cap := capq) (c := [s]) hqc (by simp) la (fun j hj => by
    have : j = 0 := by simpa using hj
    subst this
    exact hne))
  have K4 := hide (K1.out.trans (Below.keeps (S := PxOwn x rr rb tr tb) B4) (fun _ _ t => t))
  have c2 := P5.out.c2
  clear ho hq1 hqc b2 b3 b4 B1 B2 B3 B4 P1 P2 P3 P4 K1 HCH HHA HTA HLI
  go_wp2_with fail
  refine HCO.out.mono ?_
  rintro e y5 ⟨rfl, rfl⟩
  have P6 := hide (P5.out.drew 1)
  have K6 := hide (K4.out.drewN 1)
  have HC6 := hide (HC.out _ P6.out)
  clear HCO HC P5 K4
  go_wp2_with fail
  go_region_held3 (fun W => W.cell? ⟨x, 2, none⟩ = some (.pointer (some ⟨rr, 0, none⟩))) (first | assumption | go_keep) (first | (go_at_call 60; refine (HLO.out _).mono ?_; rintro e z1 ⟨rfl, rfl⟩) | (go_at_call 61; refine (HTO.out _).mono ?_; rintro e z2 ⟨rfl, rfl⟩) | (go_at_call 51; refine HC6.out.mono ?_; rintro e z3 ⟨rfl, q1, q2⟩; have q3 := q1.c2))
  have K7 := hide (K6.out.trans q2 (fun _ _ t => t))
  obtain ⟨P8, k8⟩ := q1.setLk 0
  have K8 := K7.out.trans k8 (fun _ _ t => t)
  have h44 := q1.c4
  have z44 := q1.f4
  clear K7 k8 K6 P6 HC6 q1 q2 q3
  go_wp2
  refine leaves_cons (f := 55) (args := #[.pointer (some ⟨x, 4, none⟩)]) (by simp) (by simp [go_sem]) ?_
  refine (unlock_deferred muLib ⟨x, 4, none⟩ .returning _ h44 z44).mono ?_
  rintro e u' w'' ⟨rfl, rfl, rfl⟩
  exact ⟨_, results_tmp2 rfl _ _ _, rfl, P8, K8⟩
end Go.Proofs.Ytmpnbaiolmkhlaa
