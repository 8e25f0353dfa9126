/- The reference's marks: five numbers in a block. -/
import Derived.Test.YtpnomcaionodjaaKb
namespace Go.Proofs.Ytpnomcaionodjaa
open Go.RowKit
/-- The reference's marks in block m. -/
structure RfIs (w : World) (m : Nat) (v : Nat → Nat) : Prop where
  c : ∀ i, i < 5 → w.cell? ⟨m, i, none⟩ = some (.int .i64 (v i : Int))
  f : ∀ i, i < 5 → w.frozen? ⟨m, i, none⟩ = false
theorem RfIs.keep {w w' : World} {T : Nat → Prop} {m : Nat} {v : Nat → Nat} (h : RfIs w m v) (hk : Keeps T w w') (hm : ¬ T m) : RfIs w' m v :=
  ⟨fun i hi => by rw [hk.cell (World.block_lt_of_cell? w _ (h.c i hi)) hm]; exact h.c i hi, fun i hi => by rw [hk.frozen (World.block_lt_of_cell? w _ (h.c i hi)) hm]; exact h.f i hi⟩
theorem RfIs.below {w w' : World} {m : Nat} {v : Nat → Nat} (h : RfIs w m v) (hb : Below w.heap.size w w') : RfIs w' m v := h.keep (Below.keeps (S := fun _ => False) hb) id
theorem RfIs.word {w : World} {m : Nat} {v : Nat → Nat} (h : RfIs w m v) (i y : Nat) (hi : i < 5) : RfIs (w.setCell ⟨m, i, none⟩ (.int .i64 (y : Int))) m (upM v i y) := by
  refine ⟨fun j hj => ?_, fun j hj => by rw [World.frozen?_setCell]; exact h.f j hj⟩
  by_cases e : j = i
  · subst e
    rw [World.cell?_setCell_same _ _ _ (h.c _ hj), upM_same]
  · rw [cell_set_off _ _ _ _ (fun c => e c.symm), upM_other _ _ _ _ e]; exact h.c j hj
set_option maxHeartbeats 1000000 in
theorem rraise {w : World} {m : Nat} {v : Nat → Nat} (h : RfIs w m v) (i to T : Int) :
    Calls Try.prog 11 #[.pointer (some ⟨m, 0, none⟩), .int .i64 i, .int .i64 to, .int .i64 T] w fun e w' => e = .returned (.int .i64 (raiseE v i to T)) ∧ RfIs w' m (raiseV v i to T) ∧ Keeps (fun k => k = m) w w' := by
  by_cases hi : i < 0 ∨ 5 ≤ i
  · have e1 : raiseE v i to T = 1 := by rw [raiseE, if_pos hi]
    have e2 : raiseV v i to T = v := by rw [raiseV, e1]; rfl
    rw [e1, e2]
    clear e1 e2
    rcases hi with hi | hi
    · go_enter Try.func11, Try.ntmps11
      go_wp2
      go_ret
      exact ⟨rfl, h, Keeps.refl _ _⟩
    · have d0 : decide (i < 0) = false := by simp; omega
      go_enter Try.func11, Try.ntmps11
      go_wp2
      go_ret
      exact ⟨rfl, h, Keeps.refl _ _⟩
  obtain ⟨j, rfl⟩ := Int.eq_ofNat_of_zero_le (show 0 ≤ i by omega)
  have hj : j < 5 := by omega
  have c0 := h.c j hj
  by_cases hle : to ≤ (v j : Int)
  · have e1 : raiseE v j to T = 8 := by rw [raiseE, if_neg hi, if_pos (by simpa using hle)]
    have e2 : raiseV v j to T = v := by rw [raiseV, e1]; rfl
    rw [e1, e2]
    generalize v j = x at *
    clear hi e1 e2
    go_enter Try.func11, Try.ntmps11
    go_wp2
    go_ret
    exact ⟨rfl, h, Keeps.refl _ _⟩
  have hmost : mostN v j T = if j = 0 then T else (v (j - 1) : Int) := rfl
  by_cases hov : mostN v j T < to
  · have e1 : raiseE v j to T = 13 := by rw [raiseE, if_neg hi, if_neg (by simpa using hle), if_pos (by simpa using hov)]
    have e2 : raiseV v j to T = v := by rw [raiseV, e1]; rfl
    rw [e1, e2]
    by_cases h0 : j = 0
    · subst h0
      rw [if_pos rfl] at hmost
      rw [hmost] at hov
      generalize v 0 = x at *
      clear hi e1 e2 hmost
      go_enter Try.func11, Try.ntmps11
      go_wp2
      go_ret
      exact ⟨rfl, h, Keeps.refl _ _⟩
    · rw [if_neg h0] at hmost
      rw [hmost] at hov
      have c1 := h.c (j - 1) (by omega)
      have hx : (j : Int) - 1 = ((j - 1 : Nat) : Int) := by omega
      have hq : j - 1 < 5 := by omega
      have hjp : (0 : Int) < (j : Int) := by omega
      generalize v j = x at *
      generalize v (j - 1) = y at *
      generalize j - 1 = q at *
      clear hi e1 e2 hmost
      go_enter Try.func11, Try.ntmps11
      go_wp2
      go_ret
      exact ⟨rfl, h, Keeps.refl _ _⟩
  · have e1 : raiseE v j to T = 0 := by rw [raiseE, if_neg hi, if_neg (by simpa using hle), if_neg (by simpa using hov)]
    obtain ⟨y, rfl⟩ := Int.eq_ofNat_of_zero_le (show 0 ≤ to by omega)
    have e2 : raiseV v j y T = upM v j y := by rw [raiseV, if_pos e1]; rfl
    rw [e1, e2]
    have hwd := hide (h.word j y hj)
    have hf := h.f j hj
    by_cases h0 : j = 0
    · subst h0
      rw [if_pos rfl] at hmost
      rw [hmost] at hov
      generalize v 0 = x at *
      clear hi e1 e2 hmost h
      go_enter Try.func11, Try.ntmps11
      go_wp2
      go_ret
      exact ⟨rfl, hwd.out, (Keeps.refl (fun k => k = m) _).setCell _ (fun _ => rfl) _⟩
    · rw [if_neg h0] at hmost
      rw [hmost] at hov
      have c1 := h.c (j - 1) (by omega)
      have hx : (j : Int) - 1 = ((j - 1 : Nat) : Int) := by omega
      have hq : j - 1 < 5 := by omega
      have hjp : (0 : Int) < (j : Int) := by omega
      generalize v j = x at *
      generalize v (j - 1) = z at *
      generalize j - 1 = q at *
      clear hi e1 e2 hmost h
      go_enter Try.func11, Try.ntmps11
      go_wp2
      go_ret
      exact ⟨rfl, hwd.out, (Keeps.refl (fun k => k = m) _).setCell _ (fun _ => rfl) _⟩
set_option maxHeartbeats 1000000 in
theorem rregion {w : World} {m : Nat} {v : Nat → Nat} (h : RfIs w m v) (p T : Int) :
    Calls Try.prog 16 #[.pointer (some ⟨m, 0, none⟩), .int .i64 p, .int .i64 T] w fun e w' => e = .returned (.int .i64 (regionN v p T)) ∧ w' = w := by
  have c0 := h.c 0 (by decide)
  have c1 := h.c 1 (by decide)
  have c3 := h.c 3 (by decide)
  unfold regionN
  generalize v 0 = x0 at *
  generalize v 1 = x1 at *
  generalize v 3 = x3 at *
  clear h
  by_cases g0 : p < 0
  · rw [if_pos (.inl g0)]
    go_enter Try.func16, Try.ntmps16
    go_wp2
    go_ret
    exact ⟨rfl, rfl⟩
  by_cases g1 : T < p
  · rw [if_pos (.inr g1)]
    go_enter Try.func16, Try.ntmps16
    go_wp2
    go_ret
    exact ⟨rfl, rfl⟩
  rw [if_neg (by omega)]
  by_cases g2 : (x0 : Int) ≤ p
  · rw [if_pos g2]
    go_enter Try.func16, Try.ntmps16
    go_wp2
    go_ret
    exact ⟨rfl, rfl⟩
  rw [if_neg g2]
  by_cases g3 : (x1 : Int) ≤ p
  · rw [if_pos g3]
    go_enter Try.func16, Try.ntmps16
    go_wp2
    go_ret
    exact ⟨rfl, rfl⟩
  rw [if_neg g3]
  by_cases g4 : (x3 : Int) ≤ p
  · rw [if_pos g4]
    go_enter Try.func16, Try.ntmps16
    go_wp2
    go_ret
    exact ⟨rfl, rfl⟩
  · rw [if_neg g4]
    go_enter Try.func16, Try.ntmps16
    go_wp2
    go_ret
    exact ⟨rfl, rfl⟩
/-- They keep their order: all are at most the first one, and so on. -/
def OrdM (v : Nat → Nat) : Prop := v 1 ≤ v 0 ∧ v 2 ≤ v 1 ∧ v 3 ≤ v 2 ∧ v 4 ≤ v 3
set_option maxHeartbeats 1000000 in
theorem rbegin {w : World} {m : Nat} {v : Nat → Nat} (h : RfIs w m v) (ho : OrdM v) (p : Int) :
    Calls Try.prog 9 #[.pointer (some ⟨m, 0, none⟩), .int .i64 p] w fun e w' => e = .returned (.int .i64 (beginE v p)) ∧ RfIs w' m (beginV v p) ∧ Keeps (fun k => k = m) w w' := by
  by_cases g0 : p < 0
  · have e1 : beginE v p = 1 := by rw [beginE, if_pos g0]
    have e2 : beginV v p = v := by rw [beginV, e1]; rfl
    rw [e1, e2]
    go_enter Try.func9, Try.ntmps9
    go_wp2
    go_ret
    exact ⟨rfl, h, Keeps.refl _ _⟩
  by_cases g1 : v 0 = 0
  · have e1 : beginE v p = 0 := by rw [beginE, if_neg g0, if_pos g1]
    obtain ⟨y, rfl⟩ := Int.eq_ofNat_of_zero_le (show 0 ≤ p by omega)
    have e2 : beginV v y = fun _ => y := by rw [beginV, if_pos e1]; rfl
    rw [e1, e2]
    have hz : ∀ i, i < 5 → v i = 0 := fun i hi => by
      obtain ⟨o1, o2, o3, o4⟩ := ho
      have hi' : i = 0 ∨ i = 1 ∨ i = 2 ∨ i = 3 ∨ i = 4 := by omega
      rcases hi' with rfl | rfl | rfl | rfl | rfl <;> omega
    have HH := hide h
    have HZ := hide hz
    clear e1 e2 g1 hz
    go_enter Try.func9, Try.ntmps9
    go_wp2
    clear h
    go_loop [5] (fun i => ∃ k : Nat, k ≤ 5 ∧ i = .int .i64 k) (fun i => 5 - (intOf i).toNat)
    case atStart => exact ⟨0, Nat.zero_le _, rfl⟩
    case round =>
      obtain ⟨k, hk, rfl⟩ := hrel
      by_cases hlt : k < 5
      · have c0 := HH.out.c k hlt
        rw [HZ.out k hlt] at c0
        go_wp2
        go_round
        case rel => exact ⟨k + 1, by omega, by go_num⟩
        case measure => simp [intOf]; omega
      · go_wp2
        go_loopw [6] (fun i wr => ∃ k : Nat, k ≤ 5 ∧ i = .int .i64 k ∧ RfIs wr m (fun j => if j < k then y else v j) ∧ Keeps (fun k => k = m) w wr) (fun i _ => 5 - (intOf i).toNat)
        case atStart => exact ⟨0, Nat.zero_le _, rfl, HH.out, Keeps.refl _ _⟩
        case round =>
          obtain ⟨k, hk, rfl, hR, hK⟩ := hrel
          have HK := hide hK
          by_cases hlt : k < 5
          · have c0 := hR.c k hlt
            have f0 := hR.f k hlt
            have HW : Hid (RfIs (wr.setCell ⟨m, k, none⟩ (.int .i64 (y : Int))) m (fun j => if j < k + 1 then y else v j)) := by
              have h1 := hR.word k y hlt
              have h2 : upM (fun j => if j < k then y else v j) k y = fun j => if j < k + 1 then y else v j := by
                funext j
                unfold upM
                by_cases e : j = k
                · rw [if_pos e, if_pos (by omega)]
                · rw [if_neg e]
                  show (if j < k then y else v j) = _
                  by_cases e2 : j < k
                  · rw [if_pos e2, if_pos (by omega)]
                  · rw [if_neg e2, if_neg (by omega)]
              rw [h2] at h1
              exact h1
            have HK2 : Hid (Keeps (fun k => k = m) w (wr.setCell ⟨m, k, none⟩ (.int .i64 (y : Int)))) := hK.setCell _ (fun _ => rfl) _
            rw [if_neg (Nat.lt_irrefl _)] at c0
            generalize v k = vk at *
            clear hR hK
            go_wp2
            go_roundw
            case rel => exact ⟨k + 1, by omega, by go_num, HW.out, HK2.out⟩
            case measure => simp [intOf]; omega
          · go_wp2
            go_ret
            have e : k = 5 := by omega
            subst e
            exact ⟨rfl, ⟨fun i hi => by rw [hR.c i hi, if_pos hi], hR.f⟩, HK.out⟩
  · have e1 : beginE v p = 8 := by rw [beginE, if_neg g0, if_neg g1]
    have e2 : beginV v p = v := by rw [beginV, e1]; rfl
    rw [e1, e2]
    have c0 := h.c 0 (by decide)
    generalize v 0 = x at *
    have d0 : ((x : Int) != 0) = true := by simp; omega
    clear e1 e2
    go_enter Try.func9, Try.ntmps9
    go_wp2
    go_loopw [5] (fun i wr => i = .int .i64 0 ∧ wr = w) (fun i _ => 0)
    case atStart => exact ⟨rfl, rfl⟩
    case round =>
      obtain ⟨rfl, rfl⟩ := hrel
      go_wp2
      go_ret
      exact ⟨rfl, h, Keeps.refl _ _⟩
end Go.Proofs.Ytpnomcaionodjaa
