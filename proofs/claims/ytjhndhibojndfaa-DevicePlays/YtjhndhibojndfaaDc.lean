/- Package device: New, power, refuses, Start, On, Peek. -/
import Derived.Test.YtjhndhibojndfaaDb
import Derived.Deep.RegionHeld3
import Derived.Deep.RegionLaw
namespace Go.Proofs.Ytjhndhibojndfaa
open Go.RowKit Go.Maps
def dv0 : Dv := ⟨false, [], []⟩
theorem good0 : Good dv0 := ⟨List.Pairwise.nil, fun p hp => by simp [dv0] at hp, fun p hp => by simp [dv0] at hp, by decide, by decide, fun p hp => by simp [dv0] at hp⟩
theorem device_new (w : World) :
    Calls Try.prog 7 #[] w fun e w' => e = .returned (.pointer (some ⟨w.heap.size + 3, 0, none⟩)) ∧ w'.heap.size = w.heap.size + 4 ∧ DvIs w' w.heap.size dv0 ∧ Below w.heap.size w w' := by
  have hmm := @run_makeMap Try.prog
  go_enter Try.func7, Try.ntmps7
  go_wp2
  go_ret
  have a1 := (MapAs.made (M := MB) w).alloc (.map #[] 0)
  have a2 := a1.alloc (.map #[] 0)
  have b1 := MapAs.made (M := MF) (w.alloc (.map #[] 0))
  have b2 := b1.alloc (.map #[] 0)
  have c1 := MapAs.made (M := MA) ((w.alloc (.map #[] 0)).alloc (.map #[] 0))
  have e1 : (w.alloc (.map #[] 0)).heap.size = w.heap.size + 1 := by simp
  have e2 : ((w.alloc (.map #[] 0)).alloc (.map #[] 0)).heap.size = w.heap.size + 2 := by simp
  have e3 : (((w.alloc (.map #[] 0)).alloc (.map #[] 0)).alloc (.map #[] 0)).heap.size = w.heap.size + 3 := by simp
  rw [e1] at b2
  rw [e2] at c1
  have hb := ((((Below.refl w.heap.size w).alloc (Nat.le_refl _) (.map #[] 0)).alloc (by simp) (.map #[] 0)).alloc (by rw [e2]; omega) (.map #[] 0))
  generalize (((w.alloc (.map #[] 0)).alloc (.map #[] 0)).alloc (.map #[] 0)) = x at *
  refine ⟨rfl, by simp [e3], ⟨?_, ?_, ?_, ?_, ?_, ?_, ?_, (a2.alloc _).eq (fun x _ => rfl), (b2.alloc _).eq (fun x _ => ?_), (c1.alloc _).eq (fun x _ => ?_), good0⟩, ?_⟩
  · rw [← e3]; simp [dv0]
  · rw [← e3]; simp [dv0]
  · rw [← e3]; simp
  · rw [← e3]; simp
  · rw [← e3]; simp
  · rw [← e3]; simp
  · rw [← e3]; simp
  · simp [fl, jobAt, dv0]
  · simp [an, jobAt, dv0]
  · exact hb.alloc (by omega) _
def powE (d : Dv) : Int := if d.off = true then 6 else 0
theorem device_power {w : World} {t : Nat} {d : Dv} (h : DvIs w t d) :
    Calls Try.prog 33 #[.pointer (some ⟨t + 3, 0, none⟩)] w fun e w' => e = .returned (.int .i64 (powE d)) ∧ w' = w := by
  have h1 := h.c0
  cases ho : d.off <;> rw [ho] at h1
  all_goals
    simp only [Bool.not_false, Bool.not_true] at h1
    have hp : powE d = if d.off = true then 6 else 0 := rfl
    rw [ho] at hp
    simp at hp
    rw [hp]
    clear h hp
    go_enter Try.func33, Try.ntmps33
    go_wp2
    go_ret
    exact ⟨rfl, rfl⟩
def refE (d : Dv) (b : Bk) : Int := if d.off = true then 6 else if okB b = false then 1 else 0
theorem device_refuses {w : World} {t : Nat} {d : Dv} (h : DvIs w t d) (b : Bk) :
    Calls Try.prog 30 #[.pointer (some ⟨t + 3, 0, none⟩), bkV b] w fun e w' => e = .returned (.int .i64 (refE d b)) ∧ Below w.heap.size w w' := by
  obtain ⟨a, n⟩ := b
  simp only [bkV]
  have hp := device_power (h.alloc (.cells #[.int .i64 a, .int .i64 n] 32))
  have hP : powE d = if d.off = true then 6 else 0 := rfl
  have hR : refE d (a, n) = if d.off = true then 6 else if okB (a, n) = false then 1 else 0 := rfl
  generalize refE d (a, n) = r at *
  generalize powE d = q at *
  cases ho : d.off with
  | true =>
    rw [ho] at hP hR
    simp at hP hR
    subst hP hR
    clear h ho
    go_enter Try.func30, Try.ntmps30
    go_wp2_with fail
    refine hp.mono ?_
    rintro e x ⟨rfl, rfl⟩
    go_wp2
    go_ret
    exact ⟨rfl, (Below.refl _ _).alloc (Nat.le_refl _) _⟩
  | false =>
    rw [ho] at hP hR
    simp only [Bool.false_eq_true, if_false] at hP hR
    subst hP
    have hk : okB (a, n) = true ↔ 0 ≤ a ∧ a ≤ 2 ∧ 0 ≤ n ∧ n ≤ 63 := okB_iff
    have HR := hide hR
    have HK := hide hk
    clear h ho hR hk
    by_cases h1 : a < 0
    · go_enter Try.func30, Try.ntmps30
      go_wp2_with fail
      refine hp.mono ?_
      rintro e x ⟨rfl, rfl⟩
      go_wp2
      go_ret
      refine ⟨ret_int ?_, (Below.refl _ _).alloc (Nat.le_refl _) _⟩
      rw [HR.out, if_pos (by rw [Bool.eq_false_iff]; intro h; have := HK.out.1 h; omega)]
    by_cases h2 : 2 < a
    · go_enter Try.func30, Try.ntmps30
      go_wp2_with fail
      refine hp.mono ?_
      rintro e x ⟨rfl, rfl⟩
      go_wp2
      go_ret
      refine ⟨ret_int ?_, (Below.refl _ _).alloc (Nat.le_refl _) _⟩
      rw [HR.out, if_pos (by rw [Bool.eq_false_iff]; intro h; have := HK.out.1 h; omega)]
    by_cases h3 : n < 0
    · go_enter Try.func30, Try.ntmps30
      go_wp2_with fail
      refine hp.mono ?_
      rintro e x ⟨rfl, rfl⟩
      go_wp2
      go_ret
      refine ⟨ret_int ?_, (Below.refl _ _).alloc (Nat.le_refl _) _⟩
      rw [HR.out, if_pos (by rw [Bool.eq_false_iff]; intro h; have := HK.out.1 h; omega)]
    by_cases h4 : 64 ≤ n
    · go_enter Try.func30, Try.ntmps30
      go_wp2_with fail
      refine hp.mono ?_
      rintro e x ⟨rfl, rfl⟩
      go_wp2
      go_ret
      refine ⟨ret_int ?_, (Below.refl _ _).alloc (Nat.le_refl _) _⟩
      rw [HR.out, if_pos (by rw [Bool.eq_false_iff]; intro h; have := HK.out.1 h; omega)]
    · go_enter Try.func30, Try.ntmps30
      go_wp2_with fail
      refine hp.mono ?_
      rintro e x ⟨rfl, rfl⟩
      go_wp2
      go_ret
      refine ⟨ret_int ?_, (Below.refl _ _).alloc (Nat.le_refl _) _⟩
      rw [HR.out, if_neg (by rw [HK.out.2 (by omega)]; simp)]
theorem device_on {w : World} {t : Nat} {d : Dv} (h : DvIs w t d) :
    Calls Try.prog 13 #[.pointer (some ⟨t + 3, 0, none⟩)] w fun e w' => e = .returned (.bool (!d.off)) ∧ w' = w := by
  have h1 := h.c0
  clear h
  generalize (!d.off) = o at *
  go_enter Try.func13, Try.ntmps13
  go_wp2
  go_ret
  exact ⟨rfl, rfl⟩
theorem device_start {w : World} {t : Nat} {d : Dv} (h : DvIs w t d) :
    Calls Try.prog 21 #[.pointer (some ⟨t + 3, 0, none⟩)] w fun e w' => e = .returned (.int .i64 (startE d)) ∧ DvIs w' t (startD d) ∧ Keeps (InD t) w w' := by
  have h1 := h.c0
  have h2 := h.f0
  have hE : startE d = if d.off = true then 0 else 10 := rfl
  cases ho : d.off with
  | false =>
    rw [ho] at h1 hE
    simp at h1 hE
    rw [hE]
    have hd : startD d = d := by unfold startD; cases d; simp at ho; subst ho; rfl
    rw [hd]
    have H := hide h
    clear h hE hd
    go_enter Try.func21, Try.ntmps21
    go_wp2
    go_ret
    exact ⟨rfl, H.out, Keeps.refl _ _⟩
  | true =>
    rw [ho] at h1 hE
    simp at h1 hE
    rw [hE]
    have K : Keeps (fun k => k = t + 3) w (w.setCell ⟨t + 3, 0, none⟩ (.bool true)) := (Keeps.refl (fun k => k = t + 3) w).setCell ⟨t + 3, 0, none⟩ (fun _ => rfl) (.bool true)
    have hd : DvIs (w.setCell ⟨t + 3, 0, none⟩ (.bool true)) t (startD d) := by
      refine ⟨?_, ?_, ?_, ?_, ?_, ?_, ?_, h.mb.keep K (by simp), h.mf.keep K (by simp), h.ma.keep K (by simp), h.good.start⟩
      · rw [World.cell?_setCell_same _ _ _ h.c0]; rfl
      · rw [World.cell?_setCell_other _ _ _ _ (by simp)]; exact h.c1
      · rw [World.cell?_setCell_other _ _ _ _ (by simp)]; exact h.c2
      · rw [World.cell?_setCell_other _ _ _ _ (by simp)]; exact h.c3
      · rw [World.cell?_setCell_other _ _ _ _ (by simp)]; exact h.c4
      · rw [World.frozen?_setCell]; exact h.f0
      · rw [World.frozen?_setCell]; exact h.f1
    have H := hide hd
    have HK := hide (K.wider (T := InD t) (fun k _ e => by rw [e]; exact ⟨by omega, by omega⟩))
    clear h hE hd K
    go_enter Try.func21, Try.ntmps21
    go_wp2
    go_ret
    exact ⟨rfl, H.out, HK.out⟩
end Go.Proofs.Ytjhndhibojndfaa
