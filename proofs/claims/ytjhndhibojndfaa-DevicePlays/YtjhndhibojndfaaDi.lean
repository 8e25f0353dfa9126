/- Package device: Do of a read. -/
import Derived.Test.YtjhndhibojndfaaDh
namespace Go.Proofs.Ytjhndhibojndfaa
open Go.RowKit Go.Maps
theorem set_new (x : World) (u v : Value) (T : TypeId) : ((x.alloc (.cells #[u] T)).drewN 1).setCell ⟨x.heap.size, 0, none⟩ v = (x.alloc (.cells #[v] T)).drewN 1 := by
  have := World.setCell_alloc_at (w := x) #[u] T x.heap.size 0 v rfl
  show ((x.alloc (.cells #[u] T)).setCell ⟨x.heap.size, 0, none⟩ v).drewN 1 = _
  rw [this]
  rfl
set_option maxHeartbeats 1000000 in
set_option maxRecDepth 10000 in
theorem device_do_read {w : World} {t : Nat} {d : Dv} (h : DvIs w t d) (x : Int) (hx : okI x) (ho : d.off = false) {r : Rq} (hf : fl d.jobs x = some r) (hw : r.wr = false) :
    Calls Try.prog 16 #[.pointer (some ⟨t + 3, 0, none⟩), .int .i64 x] w fun e w' => e = .returned (.int .i64 0) ∧ DvIs w' t (doD d x) ∧ Keeps (InD t) w w' := by
  have hp := device_power h
  have e1 : powE d = 0 := by simp [powE, ho]
  rw [e1] at hp
  have hl := h.mf.look hx
  have c3 := h.c3
  simp only [MF] at hl
  rw [hf] at hl
  obtain ⟨t1, t2, t3, t4, t5⟩ := doD_some h.good ho hf
  obtain ⟨j, hj, hst, hrj⟩ := fl_some hf
  have hjb := h.good.jb j (jobAt_mem hj)
  have hbk : okK r.b := okB_okK (by rw [hrj]; exact hjb.1)
  clear hrj hj hst hjb
  obtain ⟨⟨a, n⟩, wr, s⟩ := r
  simp only [Option.getD_some, Option.isSome_some, rqV] at hl t2 t5 hw hbk
  subst hw
  simp only [Bool.false_eq_true, if_false] at t2 t5
  have ht := h.lt
  obtain ⟨w2, hr2, k2, m2, z2⟩ := do_struck h x hx (.cells #[.int .i64 a, .int .i64 n, .bool false, .string s] 67)
  have h1 := h.alloc (.cells #[.int .i64 a, .int .i64 n, .bool false, .string s] 67)
  have c3' := h1.c3
  obtain ⟨y0, y1, y2, y3⟩ := cells4 k2 (by omega)
  have d2 : w2.cell? ⟨t + 3, 2, none⟩ = some (.map (some t)) := by rw [k2.cell h1.lt (by simp)]; exact h1.c2
  have d4 : w2.cell? ⟨t + 3, 4, none⟩ = some (.map (some (t + 2))) := by rw [k2.cell h1.lt (by simp)]; exact h1.c4
  have d2' := cell_alloc d2 (.cells #[.string ⟨#[]⟩] 75)
  have y0' := cell_alloc y0 (.cells #[.string ⟨#[]⟩] 75)
  have y1' := cell_alloc y1 (.cells #[.string ⟨#[]⟩] 75)
  have mb2 := h1.mb.keep k2 (by simp)
  have ma2 := h1.ma.keep k2 (by simp)
  have hl1 := (mb2.drew 1).look hbk
  have hl2 := ((mb2.alloc (.cells #[.string ⟨#[]⟩] 75)).drew 1).look hbk
  simp only [MB, bkV, coV] at hl1 hl2
  change Sem.run _ _ (World.drew _) = _ at hl1
  change Sem.run _ _ (World.drew _) = _ at hl2
  have K2 : Keeps (fun k => t ≤ k ∧ k ≤ t + 2) (w.alloc (.cells #[.int .i64 a, .int .i64 n, .bool false, .string s] 67)) w2 := k2.wider (T := fun k => t ≤ k ∧ k ≤ t + 2) (fun k _ e => by omega)
  have KA : Keeps (InD t) w (w.alloc (.cells #[.int .i64 a, .int .i64 n, .bool false, .string s] 67)) := (Keeps.refl (InD t) w).alloc _
  cases hk : lookL d.items (a, n) with
  | none =>
    rw [hk] at hl1 hl2 t5
    simp only [Option.getD_none, Option.isSome_none] at hl1 hl2
    have hD : DvIs w2 t (doD d x) := h1.maps K2 t1 t3 (by rw [t2]; exact mb2) (m2.eq (fun y _ => t4 y)) (ma2.eq (fun y _ => by
      rw [t5]
      split
      · rename_i e
        subst e
        obtain ⟨j, hj, hst, -⟩ := fl_some hf
        simp [an, hj, hst]
      · rfl)) (h.good.done x)
    have hK := KA.trans (keeps_in K2) (fun _ _ h => h)
    have H := hide hD
    have HK := hide hK
    clear hD hK K2 k2 KA m2 t1 t2 t3 t4 t5 h1 h hf ho hbk e1 mb2 ma2 hk
    go_enter Try.func16, Try.ntmps16
    go_wp2_with fail
    refine hp.mono ?_
    rintro e w1 ⟨rfl, rfl⟩
    go_wp2
    go_region_law (fail)
    all_goals
      go_wp2
      go_ret
      first
        | exact ⟨rfl, (H.out.alloc _).drew 1, (HK.out.alloc _).drewN 1⟩
        | (rw [← z2, set_new]; exact ⟨rfl, (H.out.alloc _).drew 1, (HK.out.alloc _).drewN 1⟩)
  | some u =>
    rw [hk] at hl1 hl2 t5
    simp only [Option.getD_some, Option.isSome_some] at hl1 hl2
    have hy : ∃ y, y = (w2.alloc (.cells #[.string u] 75)).drewN 1 ∧ (y.cell? ⟨w2.heap.size, 0, none⟩ = some (.string u)) ∧ y.cell? ⟨t + 3, 4, none⟩ = some (.map (some (t + 2))) ∧
        ∃ w5, (Instr.mapUpdate 59 (.map (some (t + 2))) (.int .i64 x) (.agg #[.string u])).run Try.prog y.drew = .ok () w5 ∧ DvIs w5 t (doD d x) ∧ Keeps (InD t) w w5 := by
      refine ⟨_, rfl, by simp, cell_alloc d4 _, ?_⟩
      obtain ⟨w5, hr5, m5, tu5⟩ := (((ma2.alloc (.cells #[.string u] 75)).drew 1).drew 1).store _ (fun y _ hy => an_keys hy) (an_few h.good) hx u
      have k5 := Keeps.turned tu5
      have K5 : Keeps (fun k => t ≤ k ∧ k ≤ t + 2) (w.alloc (.cells #[.int .i64 a, .int .i64 n, .bool false, .string s] 67)) w5 :=
        (((K2.alloc (.cells #[.string u] 75)).drewN 1).drewN 1).trans k5 (fun k _ e => by omega)
      simp only [MA, coV] at hr5
      refine ⟨w5, hr5, h1.maps K5 t1 t3 (by rw [t2]; exact (((mb2.alloc _).drew 1).drew 1).keep k5 (by simp)) (((((m2.alloc _).drew 1).drew 1).keep k5 (by simp)).eq (fun y _ => t4 y)) (m5.eq (fun y _ => t5 y)) (h.good.done x), KA.trans (keeps_in K5) (fun _ _ h => h)⟩
    obtain ⟨y, hy, q1, q2, w5, hr5, hD, hK⟩ := hy
    have H := hide hD
    have HK := hide hK
    have HY := hide hy
    clear hy hD hK K2 k2 KA m2 t1 t2 t3 t4 t5 h1 h hf ho hbk e1 mb2 ma2 hk
    rw [z2] at q1
    go_enter Try.func16, Try.ntmps16
    go_wp2_with fail
    refine hp.mono ?_
    rintro e w1 ⟨rfl, rfl⟩
    go_wp2
    go_region_law (fail)
    all_goals
      first
        | rw [show (w2.drewN 1).alloc (.cells #[.string u] 75) = y from HY.out.symm]
        | rw [show ((w2.alloc (.cells #[.string ⟨#[]⟩] 75)).drewN 1).setCell ⟨w1.heap.size + 1, 0, none⟩ (.string u) = y from by rw [← z2, set_new]; exact HY.out.symm]
      go_wp2
      go_region_law (fail)
      all_goals
        go_wp2
        go_ret
        exact ⟨rfl, H.out, HK.out⟩
/-- Do. -/
theorem device_do {w : World} {t : Nat} {d : Dv} (h : DvIs w t d) (x : Int) (hx : okI x) :
    Calls Try.prog 16 #[.pointer (some ⟨t + 3, 0, none⟩), .int .i64 x] w fun e w' => e = .returned (.int .i64 (doE d x)) ∧ DvIs w' t (doD d x) ∧ Keeps (InD t) w w' := by
  by_cases hq : d.off = true ∨ fl d.jobs x = none
  · refine (device_do_not h x hx hq).mono ?_
    rintro e w' ⟨rfl, hb⟩
    have e : doD d x = d := by
      rcases hq with hq | hq
      · simp [doD, hq]
      · exact doD_none hq
    rw [e]
    exact ⟨rfl, h.below hb, Below.keeps hb⟩
  · have ho : d.off = false := by
      cases e : d.off
      · rfl
      · exact absurd (.inl e) hq
    cases hf : fl d.jobs x with
    | none => exact absurd (.inr hf) hq
    | some r =>
      have e : doE d x = 0 := by simp [doE, ho, hf]
      rw [e]
      cases hw : r.wr
      · exact device_do_read h x hx ho hf hw
      · exact device_do_write h x hx ho hf hw
end Go.Proofs.Ytjhndhibojndfaa
