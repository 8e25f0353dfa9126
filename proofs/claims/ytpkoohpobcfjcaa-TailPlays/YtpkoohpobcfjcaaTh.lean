/- The reference's tail: four numbers in a block; both sides, apart from each other. -/
import Derived.Test.YtpkoohpobcfjcaaTg
import Derived.Deep.RegionHeld3
namespace Go.Proofs.Ytpkoohpobcfjcaa
open Go.RowKit
/-- The reference's tail in block m. -/
structure RtIs (w : World) (m S sp P O : Nat) : Prop where
  c0 : w.cell? ⟨m, 0, none⟩ = some (.int .i64 (S : Int))
  c1 : w.cell? ⟨m, 1, none⟩ = some (.int .i64 (sp : Int))
  c2 : w.cell? ⟨m, 2, none⟩ = some (.int .i64 (P : Int))
  c3 : w.cell? ⟨m, 3, none⟩ = some (.int .i64 (O : Int))
  f2 : w.frozen? ⟨m, 2, none⟩ = false
  f3 : w.frozen? ⟨m, 3, none⟩ = false
theorem RtIs.lt {w : World} {m S sp P O : Nat} (h : RtIs w m S sp P O) : m < w.heap.size := World.block_lt_of_cell? w _ h.c0
theorem RtIs.keep {w w' : World} {T : Nat → Prop} {m S sp P O : Nat} (h : RtIs w m S sp P O) (hk : Keeps T w w') (hm : ¬ T m) : RtIs w' m S sp P O :=
  ⟨by rw [hk.cell h.lt hm]; exact h.c0, by rw [hk.cell h.lt hm]; exact h.c1, by rw [hk.cell h.lt hm]; exact h.c2, by rw [hk.cell h.lt hm]; exact h.c3, by rw [hk.frozen h.lt hm]; exact h.f2, by rw [hk.frozen h.lt hm]; exact h.f3⟩
theorem RtIs.below {w w' : World} {m S sp P O : Nat} (h : RtIs w m S sp P O) (hb : Below w.heap.size w w') : RtIs w' m S sp P O := h.keep (Below.keeps (S := fun _ => False) hb) id
theorem RtIs.setO {w : World} {m S sp P O : Nat} (h : RtIs w m S sp P O) (o : Nat) : RtIs (w.setCell ⟨m, 3, none⟩ (.int .i64 (o : Int))) m S sp P o :=
  ⟨by rw [cell_set_off _ _ _ _ (by decide)]; exact h.c0, by rw [cell_set_off _ _ _ _ (by decide)]; exact h.c1, by rw [cell_set_off _ _ _ _ (by decide)]; exact h.c2, World.cell?_setCell_same _ _ _ h.c3, by rw [World.frozen?_setCell]; exact h.f2, by rw [World.frozen?_setCell]; exact h.f3⟩
theorem RtIs.setP {w : World} {m S sp P O : Nat} (h : RtIs w m S sp P O) (p : Nat) : RtIs (w.setCell ⟨m, 2, none⟩ (.int .i64 (p : Int))) m S sp p O :=
  ⟨by rw [cell_set_off _ _ _ _ (by decide)]; exact h.c0, by rw [cell_set_off _ _ _ _ (by decide)]; exact h.c1, World.cell?_setCell_same _ _ _ h.c2, by rw [cell_set_off _ _ _ _ (by decide)]; exact h.c3, by rw [World.frozen?_setCell]; exact h.f2, by rw [World.frozen?_setCell]; exact h.f3⟩
theorem keep_m {w : World} {m i : Nat} {v : Value} : Keeps (fun k => k = m) w (w.setCell ⟨m, i, none⟩ v) := (Keeps.refl (fun k => k = m) w).setCell ⟨m, i, none⟩ (fun _ => rfl) _
theorem keep_m2 {w : World} {m i j : Nat} {u v : Value} : Keeps (fun k => k = m) w ((w.setCell ⟨m, i, none⟩ u).setCell ⟨m, j, none⟩ v) := ((Keeps.refl (fun k => k = m) w).setCell ⟨m, i, none⟩ (fun _ => rfl) _).setCell ⟨m, j, none⟩ (fun _ => rfl) _
theorem RtIs.drew {w : World} {m S sp P O : Nat} (h : RtIs w m S sp P O) (k : Nat) : RtIs (w.drewN k) m S sp P O := h.below (below_drewN (Below.refl _ _) k)
theorem keep_d {S : Nat → Prop} {w : World} {k : Nat} : Keeps S w (w.drewN k) := (Keeps.refl S w).drewN k
section
variable {w : World} {m S sp P O : Nat}
set_option maxHeartbeats 1000000 in
theorem rLast (h : RtIs w m S sp P O) (hp : P ≤ 1000) :
    Calls Try.prog 22 #[.pointer (some ⟨m, 0, none⟩)] w fun e w' => e = .returned (.bool (decide (sp ≤ P + 1))) ∧ ∃ k, w' = w.drewN k := by
  have c1 := h.c1
  have c2 := h.c2
  have hx : (P : Int) + 1 = ((P + 1 : Nat) : Int) := by omega
  obtain ⟨Q, hQ⟩ : ∃ Q, Q = P + 1 := ⟨_, rfl⟩
  rw [← hQ] at hx ⊢
  have hQb : Q ≤ 1001 := by omega
  clear hQ h hp
  go_enter Try.func22, Try.ntmps22
  go_wp2
  go_quiet (fail)
  go_wp2
  go_ret
  exact ⟨ret_bool (by simp), _, rfl⟩
set_option maxHeartbeats 1000000 in
theorem rTake (h : RtIs w m S sp P O) (hS : S ≤ 512) (hp : P < sp) (hs : sp ≤ 64) (ho : O ≤ 1024) (n : Int) :
    Calls Try.prog 10 #[.pointer (some ⟨m, 0, none⟩), .int .i64 n] w fun e w' => e = .returned (.tuple #[.int .u64 (takeA S P O n : Int), .int .i64 (takeK S sp P O n : Int), .int .i64 (takeE S n)]) ∧ RtIs w' m S sp P (takeO S O n) ∧ Keeps (fun k => k = m) w w' := by
  have c0 := h.c0
  have c2 := h.c2
  have c3 := h.c3
  have f3 := h.f3
  by_cases n1 : n < 1
  · have e1 : takeA S P O n = 0 := by unfold takeA; rw [if_pos (.inl n1)]
    have e2 : takeK S sp P O n = 0 := by unfold takeK; rw [if_pos (.inl n1)]
    have e3 : takeE S n = 1 := by unfold takeE; rw [if_pos n1]
    have e4 : takeO S O n = O := by unfold takeO; rw [if_pos (.inl n1)]
    rw [e1, e2, e3, e4]
    clear e1 e2 e3 e4
    go_enter Try.func10, Try.ntmps10
    go_wp2
    go_ret3
    exact ⟨rfl, h, Keeps.refl _ _⟩
  by_cases n2 : (S : Int) < n
  · have e1 : takeA S P O n = 0 := by unfold takeA; rw [if_pos (.inr n2)]
    have e2 : takeK S sp P O n = 0 := by unfold takeK; rw [if_pos (.inr n2)]
    have e3 : takeE S n = 5 := by unfold takeE; rw [if_neg n1, if_pos n2]
    have e4 : takeO S O n = O := by unfold takeO; rw [if_pos (.inr (.inl n2))]
    rw [e1, e2, e3, e4]
    clear e1 e2 e3 e4
    go_enter Try.func10, Try.ntmps10
    go_wp2
    go_ret3
    exact ⟨rfl, h, Keeps.refl _ _⟩
  obtain ⟨N, rfl⟩ := Int.eq_ofNat_of_zero_le (show 0 ≤ n by omega)
  have e3 : takeE S (N : Int) = 0 := by unfold takeE; rw [if_neg n1, if_neg n2]
  have eK : takeK S sp P O (N : Int) = roomK S sp P O N := by unfold takeK; rw [if_neg (by omega), Int.toNat_natCast]
  have eA : takeA S P O (N : Int) = roomA S P O N := by unfold takeA; rw [if_neg (by omega), Int.toNat_natCast]
  rw [e3, eK, eA]
  clear e3 eK eA
  have hla := fun (x : World) (o : Nat) (hx : RtIs x m S sp P o) => rLast hx (by omega)
  by_cases hov : S < O
  · have e4 : takeO S O (N : Int) = O := by unfold takeO; rw [if_pos (by omega)]
    have e1 : roomA S P O N = 0 := by unfold roomA; rw [if_neg (by omega)]
    rw [e4, e1]
    by_cases hl : sp ≤ P + 1
    · have e2 : roomK S sp P O N = 4 := by unfold roomK; rw [if_neg (by omega), if_pos hl]
      rw [e2]
      rw [show decide (sp ≤ P + 1) = true by simp; omega] at hla
      clear e1 e2 e4
      go_enter Try.func10, Try.ntmps10
      go_wp2
      go_quiet (fail)
      go_wp2_with fail
      refine (hla _ _ (h.drew _)).mono ?_
      rintro e y ⟨rfl, q, rfl⟩
      go_wp2
      go_ret3
      first | exact ⟨rfl, h.drew _, keep_d⟩ | exact ⟨rfl, (h.drew _).drew _, keep_d.drewN _⟩
    · have e2 : roomK S sp P O N = 3 := by unfold roomK; rw [if_neg (by omega), if_neg hl, if_pos hov]
      rw [e2]
      rw [show decide (sp ≤ P + 1) = false by simp; omega] at hla
      clear e1 e2 e4
      go_enter Try.func10, Try.ntmps10
      go_wp2
      go_quiet (fail)
      go_wp2_with fail
      refine (hla _ _ (h.drew _)).mono ?_
      rintro e y ⟨rfl, q, rfl⟩
      go_wp2
      go_ret3
      first | exact ⟨rfl, h.drew _, keep_d⟩ | exact ⟨rfl, (h.drew _).drew _, keep_d.drewN _⟩
  have e4 : takeO S O (N : Int) = O + N := by unfold takeO; rw [if_neg (by omega), Int.toNat_natCast]
  rw [e4]
  obtain ⟨C, hC⟩ : ∃ C, C = O + N := ⟨_, rfl⟩
  have hCI : (O : Int) + (N : Int) = (C : Int) := by omega
  have hov' : decide (S < O) = false := by simp; omega
  have h2 := fun q : Nat => (h.drew q).setO C
  have k2 := fun q : Nat => (keep_d (S := fun k => k = m) (w := w) (k := q)).setCell ⟨m, 3, none⟩ (fun _ => rfl) (.int .i64 (C : Int))
  by_cases h3 : O + N ≤ S
  · have e1 : roomA S P O N = P * S + O := by unfold roomA; rw [if_pos h3]
    have e2 : roomK S sp P O N = 1 := by unfold roomK; rw [if_pos h3]
    rw [e1, e2]
    rw [← hC] at h3 ⊢
    have hm : P * S ≤ 64 * 512 := Nat.mul_le_mul (by omega) hS
    have hu := u64_of_nat (show P * S + O ≤ 9223372036854775807 by omega)
    have hPS : (P : Int) * (S : Int) = ((P * S : Nat) : Int) := by rw [Int.natCast_mul]
    generalize P * S = M at *
    have HH := hide h2
    have HK := hide k2
    clear e1 e2 e4 h2 hC h k2
    go_enter Try.func10, Try.ntmps10
    go_wp2
    go_quiet (fail)
    go_wp2
    have hz := HH.out nq
    have kz := HK.out nq
    generalize (w.drewN nq).setCell ⟨m, 3, none⟩ (.int .i64 (C : Int)) = y at *
    have d0 := hz.c0
    have d2 := hz.c2
    have d3 := hz.c3
    clear HH HK c0 c2 c3 f3 hla
    go_quiet (fail)
    go_wp2
    go_quiet (fail)
    go_wp2
    go_ret3
    first | exact ⟨rfl, hz.drew _, kz.drewN _⟩ | exact ⟨rfl, (hz.drew _).drew _, (kz.drewN _).drewN _⟩
  · have e1 : roomA S P O N = 0 := by unfold roomA; rw [if_neg h3]
    rw [e1]
    rw [← hC] at h3 ⊢
    have hcs : decide (C ≤ S) = false := by simp; omega
    by_cases hl : sp ≤ P + 1
    · have e2 : roomK S sp P O N = 4 := by unfold roomK; rw [if_neg (by omega), if_pos hl]
      rw [e2]
      rw [show decide (sp ≤ P + 1) = true by simp; omega] at hla
      have HH := hide h2
      have HK := hide k2
      clear e1 e2 e4 h2 hC h k2
      go_enter Try.func10, Try.ntmps10
      go_wp2
      go_quiet (fail)
      go_wp2
      have hz := HH.out nq
      have kz := HK.out nq
      generalize (w.drewN nq).setCell ⟨m, 3, none⟩ (.int .i64 (C : Int)) = y at *
      have d0 := hz.c0
      have d2 := hz.c2
      have d3 := hz.c3
      clear HH HK c0 c2 c3 f3
      go_quiet (fail)
      go_wp2_with fail
      refine (hla _ _ (hz.drew _)).mono ?_
      rintro e y5 ⟨rfl, q, rfl⟩
      go_wp2
      go_ret3
      first | exact ⟨rfl, hz.drew _, kz.drewN _⟩ | exact ⟨rfl, (hz.drew _).drew _, (kz.drewN _).drewN _⟩
    · have e2 : roomK S sp P O N = 2 := by unfold roomK; rw [if_neg (by omega), if_neg hl, if_neg hov]
      rw [e2]
      rw [show decide (sp ≤ P + 1) = false by simp; omega] at hla
      have HH := hide h2
      have HK := hide k2
      clear e1 e2 e4 h2 hC h k2
      go_enter Try.func10, Try.ntmps10
      go_wp2
      go_quiet (fail)
      go_wp2
      have hz := HH.out nq
      have kz := HK.out nq
      generalize (w.drewN nq).setCell ⟨m, 3, none⟩ (.int .i64 (C : Int)) = y at *
      have d0 := hz.c0
      have d2 := hz.c2
      have d3 := hz.c3
      clear HH HK c0 c2 c3 f3
      go_quiet (fail)
      go_wp2_with fail
      refine (hla _ _ (hz.drew _)).mono ?_
      rintro e y5 ⟨rfl, q, rfl⟩
      go_wp2
      go_ret3
      first | exact ⟨rfl, hz.drew _, kz.drewN _⟩ | exact ⟨rfl, (hz.drew _).drew _, (kz.drewN _).drewN _⟩
set_option maxHeartbeats 1000000 in
theorem rTurn (h : RtIs w m S sp P O) (hp : P < sp) (hs : sp ≤ 64) :
    Calls Try.prog 12 #[.pointer (some ⟨m, 0, none⟩)] w fun e w' => e = .returned (.int .i64 (turnE S sp P O)) ∧ RtIs w' m S sp (turnP S sp P O) (turnO S sp P O) ∧ Keeps (fun k => k = m) w w' := by
  have c0 := h.c0
  have c2 := h.c2
  have c3 := h.c3
  have f2 := h.f2
  have f3 := h.f3
  unfold turnE turnP turnO
  by_cases g1 : O ≤ S
  · rw [if_pos g1, if_pos (.inl g1), if_pos (.inl g1)]
    go_enter Try.func12, Try.ntmps12
    go_wp2
    go_quiet (fail)
    go_wp2
    go_ret
    exact ⟨rfl, h.drew _, keep_d⟩
  have g1' : decide (O ≤ S) = false := by simp; omega
  have hla := fun (q : Nat) => rLast (h.drew q) (by omega)
  by_cases g2 : sp ≤ P + 1
  · rw [if_neg g1, if_pos g2, if_pos (.inr g2), if_pos (.inr g2)]
    rw [show decide (sp ≤ P + 1) = true by simp; omega] at hla
    go_enter Try.func12, Try.ntmps12
    go_wp2
    go_quiet (fail)
    go_wp2_with fail
    refine (hla _).mono ?_
    rintro e y ⟨rfl, q, rfl⟩
    go_wp2
    go_ret
    first | exact ⟨rfl, h.drew _, keep_d⟩ | exact ⟨rfl, (h.drew _).drew _, keep_d.drewN _⟩
  · rw [if_neg g1, if_neg g2, if_neg (by omega), if_neg (by omega)]
    rw [show decide (sp ≤ P + 1) = false by simp; omega] at hla
    have hx : (P : Int) + 1 = ((P + 1 : Nat) : Int) := by omega
    have hH := fun (q : Nat) => ((h.drew q).setP (P + 1)).setO 0
    have hK := fun (q : Nat) => ((keep_d (S := fun k => k = m) (w := w) (k := q)).setCell ⟨m, 2, none⟩ (fun _ => rfl) (.int .i64 ((P + 1 : Nat) : Int))).setCell ⟨m, 3, none⟩ (fun _ => rfl) (.int .i64 ((0 : Nat) : Int))
    obtain ⟨Q, hQ⟩ : ∃ Q, Q = P + 1 := ⟨_, rfl⟩
    rw [← hQ] at hx hH hK ⊢
    have hQb : Q ≤ 1001 := by omega
    have HH := hide hH
    have HK := hide hK
    clear hQ hH hK h
    go_enter Try.func12, Try.ntmps12
    go_wp2
    go_quiet (fail)
    go_wp2_with fail
    refine (hla _).mono ?_
    rintro e y ⟨rfl, q, rfl⟩
    go_wp2
    go_ret
    exact ⟨rfl, HH.out _, HK.out _⟩
set_option maxHeartbeats 1000000 in
theorem rClose (h : RtIs w m S sp P O) (hp : P < sp) (hs : sp ≤ 64) :
    Calls Try.prog 14 #[.pointer (some ⟨m, 0, none⟩)] w fun e w' => e = .returned (.int .i64 (closeE sp P O)) ∧ RtIs w' m S sp (closeP sp P O) (closeO sp P O) ∧ Keeps (fun k => k = m) w w' := by
  have c2 := h.c2
  have c3 := h.c3
  have f2 := h.f2
  have f3 := h.f3
  unfold closeE closeP closeO
  by_cases g1 : O = 0
  · rw [if_pos g1, if_pos (.inl g1), if_pos (.inl g1)]
    have z0 : ((O : Int) == 0) = true := by simp; omega
    clear g1
    go_enter Try.func14, Try.ntmps14
    go_wp2
    go_ret
    exact ⟨rfl, h, Keeps.refl _ _⟩
  have z0 : ((O : Int) == 0) = false := by simp; omega
  have hla := rLast h (by omega)
  by_cases g2 : sp ≤ P + 1
  · rw [if_neg g1, if_pos g2, if_pos (.inr g2), if_pos (.inr g2)]
    rw [show decide (sp ≤ P + 1) = true by simp; omega] at hla
    go_enter Try.func14, Try.ntmps14
    go_wp2_with fail
    refine hla.mono ?_
    rintro e y ⟨rfl, q, rfl⟩
    go_wp2
    go_ret
    exact ⟨rfl, h.drew _, keep_d⟩
  · rw [if_neg g1, if_neg g2, if_neg (by omega), if_neg (by omega)]
    rw [show decide (sp ≤ P + 1) = false by simp; omega] at hla
    have hx : (P : Int) + 1 = ((P + 1 : Nat) : Int) := by omega
    have hH := fun (q : Nat) => ((h.drew q).setP (P + 1)).setO 0
    have hK := fun (q : Nat) => ((keep_d (S := fun k => k = m) (w := w) (k := q)).setCell ⟨m, 2, none⟩ (fun _ => rfl) (.int .i64 ((P + 1 : Nat) : Int))).setCell ⟨m, 3, none⟩ (fun _ => rfl) (.int .i64 ((0 : Nat) : Int))
    obtain ⟨Q, hQ⟩ : ∃ Q, Q = P + 1 := ⟨_, rfl⟩
    rw [← hQ] at hx hH hK ⊢
    have hQb : Q ≤ 1001 := by omega
    have HH := hide hH
    have HK := hide hK
    clear hQ hH hK h
    go_enter Try.func14, Try.ntmps14
    go_wp2_with fail
    refine hla.mono ?_
    rintro e y ⟨rfl, q, rfl⟩
    go_wp2
    go_ret
    exact ⟨rfl, HH.out _, HK.out _⟩
set_option maxHeartbeats 1000000 in
theorem rBegin (h : RtIs w m S sp P O) (p : Int) :
    Calls Try.prog 16 #[.pointer (some ⟨m, 0, none⟩), .int .i64 p] w fun e w' => e = .returned (.int .i64 (tbegE sp p)) ∧ RtIs w' m S sp (tbegP sp P p) (tbegO sp O p) ∧ Keeps (fun k => k = m) w w' := by
  have c1 := h.c1
  have c2 := h.c2
  have c3 := h.c3
  have f2 := h.f2
  have f3 := h.f3
  unfold tbegE tbegP tbegO
  by_cases g0 : p < 0
  · rw [if_pos (.inl g0), if_pos (.inl g0), if_pos (.inl g0)]
    go_enter Try.func16, Try.ntmps16
    go_wp2
    go_ret
    exact ⟨rfl, h, Keeps.refl _ _⟩
  obtain ⟨p, rfl⟩ := Int.eq_ofNat_of_zero_le (show 0 ≤ p by omega)
  by_cases g1 : (sp : Int) ≤ p
  · rw [if_pos (.inr g1), if_pos (.inr g1), if_pos (.inr g1)]
    have g1' : decide (sp ≤ p) = true := by simp; omega
    go_enter Try.func16, Try.ntmps16
    go_wp2
    go_ret
    exact ⟨rfl, h, Keeps.refl _ _⟩
  rw [if_neg (by omega), if_neg (by omega), if_neg (by omega)]
  simp only [Int.toNat_natCast]
  have g1' : decide (sp ≤ p) = false := by simp; omega
  by_cases g2 : p = 0
  · subst g2
    rw [if_pos rfl]
    have hH := ((h.setP 0).setO 0).setO 1
    have hK : Keeps (fun k => k = m) w (((w.setCell ⟨m, 2, none⟩ (.int .i64 ((0 : Nat) : Int))).setCell ⟨m, 3, none⟩ (.int .i64 ((0 : Nat) : Int))).setCell ⟨m, 3, none⟩ (.int .i64 ((1 : Nat) : Int))) := (keep_m2).setCell ⟨m, 3, none⟩ (fun _ => rfl) _
    have HH := hide hH
    have HK := hide hK
    clear hH hK h
    go_enter Try.func16, Try.ntmps16
    go_wp2
    go_ret
    exact ⟨rfl, HH.out, HK.out⟩
  · rw [if_neg g2]
    have z0 : ((p : Int) == 0) = false := by simp; omega
    have z1 : decide (p = 0) = false := by simp; omega
    have hH := (h.setP p).setO 0
    have hK : Keeps (fun k => k = m) w ((w.setCell ⟨m, 2, none⟩ (.int .i64 (p : Int))).setCell ⟨m, 3, none⟩ (.int .i64 ((0 : Nat) : Int))) := keep_m2
    have HH := hide hH
    have HK := hide hK
    clear hH hK h
    go_enter Try.func16, Try.ntmps16
    go_wp2
    go_ret
    exact ⟨rfl, HH.out, HK.out⟩
end
set_option maxHeartbeats 1000000 in
theorem rNew_no (bs sp : Int) (h : ¬ ((5 ≤ bs ∧ bs ≤ 9) ∧ 1 ≤ sp ∧ sp ≤ 64)) (w : World) :
    Calls Try.prog 8 #[.int .i64 bs, .int .i64 sp] w fun e w' => e = .returned (.tuple #[.pointer none, .int .i64 1]) ∧ Below w.heap.size w w' := by
  by_cases hb : 5 ≤ bs ∧ bs ≤ 9
  · have hq := sizeN_pos hb
    have hz : ((sizeN bs : Int) == 0) = false := by simp; omega
    have hr := fun (x : World) => rsize_any bs x
    generalize sizeN bs = S at *
    by_cases h1 : 1 ≤ sp
    · have h2 : 64 < sp := by omega
      clear h
      go_enter Try.func8, Try.ntmps8
      go_wp2_with fail
      refine (hr _).mono ?_
      rintro e y ⟨rfl, rfl⟩
      go_wp2
      go_ret2
      exact ⟨rfl, Below.refl _ _⟩
    · clear h
      go_enter Try.func8, Try.ntmps8
      go_wp2_with fail
      refine (hr _).mono ?_
      rintro e y ⟨rfl, rfl⟩
      go_wp2
      go_ret2
      exact ⟨rfl, Below.refl _ _⟩
  · have hr := fun (x : World) => rsize_any bs x
    rw [sizeN_no hb] at hr
    clear h
    go_enter Try.func8, Try.ntmps8
    go_wp2_with fail
    refine (hr _).mono ?_
    rintro e y ⟨rfl, rfl⟩
    go_wp2
    go_ret2
    exact ⟨rfl, Below.refl _ _⟩
set_option maxHeartbeats 1000000 in
theorem rNew_yes (bs : Int) (sp : Nat) (hb : 5 ≤ bs ∧ bs ≤ 9) (hs : 1 ≤ sp ∧ sp ≤ 64) (w : World) :
    Calls Try.prog 8 #[.int .i64 bs, .int .i64 (sp : Int)] w fun e w' => e = .returned (.tuple #[.pointer (some ⟨w.heap.size, 0, none⟩), .int .i64 0]) ∧ RtIs w' w.heap.size (sizeN bs) sp 0 1 ∧ Below w.heap.size w w' := by
  have hq := sizeN_pos hb
  have hz : ((sizeN bs : Int) == 0) = false := by simp; omega
  have hr := fun (x : World) => rsize_any bs x
  have hs1 : ¬ (sp : Int) < 1 := by omega
  have hs2 : ¬ (64 : Int) < (sp : Int) := by omega
  generalize sizeN bs = S at *
  go_enter Try.func8, Try.ntmps8
  go_wp2_with fail
  refine (hr _).mono ?_
  rintro e y ⟨rfl, rfl⟩
  go_wp2
  go_ret2
  exact ⟨rfl, ⟨by simp, by simp, by simp, by simp, by simp, by simp⟩, (Below.refl _ _).alloc (Nat.le_refl _) _⟩
end Go.Proofs.Ytpkoohpobcfjcaa
