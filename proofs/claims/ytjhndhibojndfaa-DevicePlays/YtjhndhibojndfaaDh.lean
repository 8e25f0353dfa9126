/- Package device: Do. -/
import Derived.Test.YtjhndhibojndfaaDg
namespace Go.Proofs.Ytjhndhibojndfaa
open Go.RowKit Go.Maps
theorem items_keys {d : Dv} (g : Good d) : (d.items.map Prod.fst).length < 4611686018427387904 := by
  have := items_few g.rise (fun p hp => (g.it p hp).1)
  simp; omega
theorem an_few {d : Dv} (g : Good d) : ((List.range (d.jobs.length + 1)).map fun (n : Nat) => (n : Int)).length < 4611686018427387904 := by
  have := g.few
  simp; omega
theorem cells4 {w w' : World} {a b c d : Value} {T : TypeId} {S : Nat → Prop} (hk : Keeps S (w.alloc (.cells #[a, b, c, d] T)) w') (hS : ¬ S w.heap.size) :
    w'.cell? ⟨w.heap.size, 0, none⟩ = some a ∧ w'.cell? ⟨w.heap.size, 1, none⟩ = some b ∧ w'.cell? ⟨w.heap.size, 2, none⟩ = some c ∧ w'.cell? ⟨w.heap.size, 3, none⟩ = some d := by
  refine ⟨?_, ?_, ?_, ?_⟩ <;> rw [hk.cell (by simp) hS] <;> simp
set_option maxHeartbeats 1000000 in
set_option maxRecDepth 10000 in
theorem device_do_not {w : World} {t : Nat} {d : Dv} (h : DvIs w t d) (x : Int) (hx : okI x) (hq : d.off = true ∨ fl d.jobs x = none) :
    Calls Try.prog 16 #[.pointer (some ⟨t + 3, 0, none⟩), .int .i64 x] w fun e w' => e = .returned (.int .i64 (doE d x)) ∧ Below w.heap.size w w' := by
  have hp := device_power h
  cases ho : d.off with
  | true =>
    have e1 : powE d = 6 := by simp [powE, ho]
    have e2 : doE d x = 6 := by simp [doE, ho]
    rw [e2]
    rw [e1] at hp
    clear h ho e1 e2 hq
    go_enter Try.func16, Try.ntmps16
    go_wp2_with fail
    refine hp.mono ?_
    rintro e w1 ⟨rfl, rfl⟩
    go_wp2
    go_ret
    exact ⟨rfl, Below.refl _ _⟩
  | false =>
    have hf : fl d.jobs x = none := by
      rcases hq with h | h
      · rw [ho] at h; cases h
      · exact h
    have e1 : powE d = 0 := by simp [powE, ho]
    have e2 : doE d x = 7 := by simp [doE, ho, hf]
    rw [e2]
    rw [e1] at hp
    have hl := h.mf.look hx
    have c3 := h.c3
    simp only [MF] at hl
    rw [hf] at hl
    simp only [Option.getD_none, Option.isSome_none, rqV] at hl
    clear h ho e1 e2 hf hq
    go_enter Try.func16, Try.ntmps16
    go_wp2_with fail
    refine hp.mono ?_
    rintro e w1 ⟨rfl, rfl⟩
    go_wp2
    go_ret
    exact ⟨rfl, (Below.refl _ _).alloc (Nat.le_refl _) _⟩
/-- What is under way is struck off the map. -/
theorem do_struck {w : World} {t : Nat} {d : Dv} (h : DvIs w t d) (x : Int) (hx : okI x) (o : Obj) :
    ∃ w2, (∀ ty, (Builtin.delete_ #[58, 3] ty #[.map (some (t + 1)), .int .i64 x]).run Try.prog (w.alloc o) = .ok (.tuple #[]) w2) ∧ Keeps (fun k => k = t + 1) (w.alloc o) w2 ∧ MapAs MF w2 (t + 1) (fun y => if y = x then none else fl d.jobs y) ∧ w2.heap.size = w.heap.size + 1 := by
  obtain ⟨w2, hr, hm, htu⟩ := (h.alloc o).mf.drop hx 0
  exact ⟨w2, fun ty => hr, Keeps.turned htu, hm, by rw [turned_size htu]; simp⟩
set_option maxHeartbeats 1000000 in
set_option maxRecDepth 10000 in
theorem device_do_write {w : World} {t : Nat} {d : Dv} (h : DvIs w t d) (x : Int) (hx : okI x) (ho : d.off = false) {r : Rq} (hf : fl d.jobs x = some r) (hw : r.wr = true) :
    Calls Try.prog 16 #[.pointer (some ⟨t + 3, 0, none⟩), .int .i64 x] w fun e w' => e = .returned (.int .i64 0) ∧ DvIs w' t (doD d x) ∧ Keeps (InD t) w w' := by
  have hp := device_power h
  have e1 : powE d = 0 := by simp [powE, ho]
  rw [e1] at hp
  have hl := h.mf.look hx
  have c3 := h.c3
  simp only [MF] at hl
  rw [hf] at hl
  obtain ⟨t1, t2, t3, t4, t5⟩ := doD_some h.good ho hf
  obtain ⟨j, hj, hst, hrj⟩ := fl_some hf
  have hjb := h.good.jb j (jobAt_mem hj)
  have hbk : okK r.b := okB_okK (by rw [hrj]; exact hjb.1)
  clear hrj hj hst hjb
  obtain ⟨⟨a, n⟩, wr, s⟩ := r
  simp only [Option.getD_some, Option.isSome_some, rqV] at hl t2 t5 hw hbk
  subst hw
  simp only [if_true] at t2 t5
  have ht := h.lt
  obtain ⟨w2, hr2, k2, m2, z2⟩ := do_struck h x hx (.cells #[.int .i64 a, .int .i64 n, .bool true, .string s] 67)
  have h1 := h.alloc (.cells #[.int .i64 a, .int .i64 n, .bool true, .string s] 67)
  have c3' := h1.c3
  obtain ⟨y0, y1, y2, y3⟩ := cells4 k2 (by omega)
  have d2 : w2.cell? ⟨t + 3, 2, none⟩ = some (.map (some t)) := by rw [k2.cell h1.lt (by simp)]; exact h1.c2
  obtain ⟨w3, hr3, m3, tu3⟩ := ((h1.mb.keep k2 (by simp)).drew 1).store (d.items.map Prod.fst) (fun y _ hy => lookL_mem.1 hy) (items_keys h.good) hbk s
  have k3 := Keeps.turned tu3
  simp only [MB, bkV, coV] at hr3
  change Sem.run _ _ (World.drew _) = _ at hr3
  have K3 : Keeps (fun k => t ≤ k ∧ k ≤ t + 2) (w.alloc (.cells #[.int .i64 a, .int .i64 n, .bool true, .string s] 67)) w3 :=
    ((k2.drewN 1).wider (T := fun k => t ≤ k ∧ k ≤ t + 2) (fun k _ e => by omega)).trans k3 (fun k _ e => by omega)
  have d4 : w3.cell? ⟨t + 3, 4, none⟩ = some (.map (some (t + 2))) := by rw [K3.cell h1.lt (by simp)]; exact h1.c4
  obtain ⟨w4, hr4, m4, tu4⟩ := (((h1.ma.keep k2 (by simp)).drew 1).keep k3 (by simp)).store _ (fun y _ hy => an_keys hy) (an_few h.good) hx ⟨#[]⟩
  have k4 := Keeps.turned tu4
  simp only [MA, coV] at hr4
  have K4 := K3.trans k4 (fun k _ e => by omega)
  have hD : DvIs w4 t (doD d x) := h1.maps K4 t1 t3 ((m3.keep k4 (by simp)).eq (fun y _ => by rw [t2, lookL_lay])) ((((m2.drew 1).keep k3 (by simp)).keep k4 (by simp)).eq (fun y _ => t4 y)) (m4.eq (fun y _ => t5 y)) (h.good.done x)
  have hK : Keeps (InD t) w w4 := ((Keeps.refl (InD t) w).alloc _).trans (keeps_in K4) (fun _ _ h => h)
  have H := hide hD
  have HK := hide hK
  clear hD hK K4 K3 k4 k3 k2 m4 m3 m2 tu3 tu4 t1 t2 t3 t4 t5 h1 h hf ho hbk e1 z2
  go_enter Try.func16, Try.ntmps16
  go_wp2_with fail
  refine hp.mono ?_
  rintro e w1 ⟨rfl, rfl⟩
  go_wp2
  go_region_law (fail)
  all_goals
    go_wp2
    go_ret
    exact ⟨rfl, H.out, HK.out⟩
end Go.Proofs.Ytjhndhibojndfaa
