/- Package device: leave. -/
import Derived.Test.YtjhndhibojndfaaDi
namespace Go.Proofs.Ytjhndhibojndfaa
open Go.RowKit Go.Maps
theorem field_co (w : World) (s : ByteArray) : (Instr.field 75 (.agg #[.string s]) 0).run Try.prog w = .ok (.string s) w := by kernel_rfl
/-- A block is laid. -/
theorem lay_store {w : World} {t : Nat} {d : Dv} (h : DvIs w t d) {b : Bk} {s : ByteArray} (hb : okB b = true) (hs : s.size ≤ 131072) :
    ∃ w3, (Instr.mapUpdate 57 (.map (some t)) (.agg #[.int .i64 b.1, .int .i64 b.2]) (.agg #[.string s])).run Try.prog w = .ok () w3 ∧ DvIs w3 t { d with items := lay b s d.items } ∧ Keeps (InD t) w w3 := by
  obtain ⟨w3, hr3, m3, tu3⟩ := h.mb.store (d.items.map Prod.fst) (fun y _ hy => lookL_mem.1 hy) (items_keys h.good) (okB_okK hb) s
  have k3 := Keeps.turned tu3
  have K3 := k3.wider (T := fun k => t ≤ k ∧ k ≤ t + 2) (fun k _ e => by omega)
  exact ⟨w3, hr3, h.maps K3 rfl rfl (m3.eq (fun y _ => lookL_lay _ _ _ y)) (h.mf.keep k3 (by simp)) (h.ma.keep k3 (by simp)) ⟨lay_rising h.good.rise, lay_good hb hs h.good.it, h.good.jb, h.good.fly, h.good.few, h.good.nn⟩, keeps_in K3⟩
set_option maxHeartbeats 1000000 in
set_option maxRecDepth 10000 in
theorem device_leave {w : World} {t : Nat} {d : Dv} (h : DvIs w t d) (j : Job) (hj : okB j.b = true ∧ j.s.size ≤ 131072) (p : Int) (hp : p ≤ 9223372036854775807) :
    Calls Try.prog 35 #[.pointer (some ⟨t + 3, 0, none⟩), rqV j.rq, .int .i64 p] w fun e w' => e = .returned (.tuple #[]) ∧ DvIs w' t { d with items := leave p j d.items } ∧ Keeps (InD t) w w' := by
  obtain ⟨⟨a, n⟩, wr, s, no, st⟩ := j
  simp only [Job.rq, rqV] at *
  obtain ⟨hb, hs⟩ := hj
  have h1 := h.alloc (.cells #[.int .i64 a, .int .i64 n, .bool wr, .string s] 67)
  have K1 := (Keeps.refl (InD t) w).alloc (.cells #[.int .i64 a, .int .i64 n, .bool wr, .string s] 67)
  have c2 := h1.c2
  have ht := h.lt
  by_cases h0 : p ≤ 0
  · have e : leave p ⟨(a, n), wr, s, no, st⟩ d.items = d.items := by simp [leave, h0]
    rw [e]
    have H := hide h1
    have HK := hide K1
    clear h h1 K1 hb hs e
    go_enter Try.func35, Try.ntmps35
    go_wp2
    refine bodyPost_ret (results_none rfl _ _ _) rfl ?_
    exact ⟨rfl, H.out, HK.out⟩
  · by_cases hp1 : p = 1
    · subst hp1
      have e : leave 1 ⟨(a, n), wr, s, no, st⟩ d.items = lay (a, n) s d.items := by simp [leave]
      rw [e]
      obtain ⟨w3, hr, hD, hK⟩ := lay_store (h1.drew 1) hb hs
      change Sem.run _ _ (World.drew _) = _ at hr
      have H := hide hD
      have HK := hide ((K1.drewN 1).trans hK (fun _ _ h => h))
      clear h h1 K1 hb hs e hD hK
      go_enter Try.func35, Try.ntmps35
      go_wp2
      go_region_law (fail)
      all_goals
        go_wp2
        go_end0
        exact ⟨rfl, H.out, HK.out⟩
    · have e : leave p ⟨(a, n), wr, s, no, st⟩ d.items = lay (a, n) (tornS ((lookL d.items (a, n)).getD ⟨#[]⟩) s p) d.items := by simp [leave, h0, hp1]
      rw [e]
      have hsm := look_small h.good.it (a, n)
      have hl := fun k => (h1.mb.drew k).at (okB_okK hb)
      simp only [MB, bkV, coV] at hl
      have hfd := field_co
      have hst := fun m => lay_store (h1.drew m) (b := (a, n)) (s := tornS ((lookL d.items (a, n)).getD ⟨#[]⟩) s p) hb (tornS_size hsm hs)
      have HT := fun (x : World) => device_torn x ((lookL d.items (a, n)).getD ⟨#[]⟩) s p (by omega) hp hsm hs
      generalize tornS ((lookL d.items (a, n)).getD ⟨#[]⟩) s p = q at *
      generalize (lookL d.items (a, n)).getD ⟨#[]⟩ = had at *
      have HS := hide hst
      have HK := hide K1
      clear hst K1 h h1 e hb hs hsm
      have hp2 : ¬ p ≤ 0 := h0
      go_enter Try.func35, Try.ntmps35
      go_wp2
      go_quiet ((go_at_call 43; exact Calls.quiet_of (HT _)))
      obtain ⟨w3, hr, hD, hK⟩ := HS.out (nq + 1)
      have H := hide hD
      have HK2 := hide ((HK.out.drewN (nq + 1)).trans hK (fun _ _ h => h))
      clear hD hK HS HT hl hfd HK
      go_wp2
      go_region_law (fail)
      all_goals
        go_wp2
        go_end0
        exact ⟨rfl, H.out, HK2.out⟩
end Go.Proofs.Ytjhndhibojndfaa
