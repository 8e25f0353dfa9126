/- Package device: Take. -/
import Derived.Test.YtjhndhibojndfaaDf
namespace Go.Proofs.Ytjhndhibojndfaa
open Go.RowKit Go.Maps
theorem an_keys {l : List Job} {x : Int} (h : an l x ≠ none) : x ∈ (List.range (l.length + 1)).map fun (n : Nat) => (n : Int) := by
  unfold an at h
  cases e : jobAt l x with
  | none => rw [e] at h; exact absurd rfl h
  | some j =>
    have := jobAt_lt e
    exact List.mem_map.2 ⟨x.toNat, List.mem_range.2 (by omega), by omega⟩
set_option maxHeartbeats 1000000 in
set_option maxRecDepth 10000 in
theorem device_take {w : World} {t : Nat} {d : Dv} (h : DvIs w t d) (x : Int) (hx : okI x) :
    Calls Try.prog 17 #[.pointer (some ⟨t + 3, 0, none⟩), .int .i64 x] w fun e w' => e = .returned (.tuple #[.string (takeS d x), .int .i64 (takeE d x)]) ∧ DvIs w' t (takeD d x) ∧ Keeps (InD t) w w' := by
  have hp := device_power h
  cases ho : d.off with
  | true =>
    have e1 : powE d = 6 := by simp [powE, ho]
    have e2 : takeE d x = 6 := by simp [takeE, ho]
    have e3 : takeS d x = ⟨#[]⟩ := by simp [takeS, e2]
    have e4 : takeD d x = d := by simp [takeD, ho]
    rw [e2, e3, e4]
    rw [e1] at hp
    have H := hide h
    clear h ho e1 e2 e3 e4
    go_enter Try.func17, Try.ntmps17
    go_wp2_with fail
    refine hp.mono ?_
    rintro e w1 ⟨rfl, rfl⟩
    go_wp2
    go_ret2
    exact ⟨rfl, H.out, Keeps.refl _ _⟩
  | false =>
    have e1 : powE d = 0 := by simp [powE, ho]
    rw [e1] at hp
    have hl := h.mf.look hx
    have c3 := h.c3
    have c4 := h.c4
    simp only [MF] at hl
    cases hf : fl d.jobs x with
    | some r =>
      have e2 : takeE d x = 10 := by simp [takeE, ho, hf]
      have e3 : takeS d x = ⟨#[]⟩ := by simp [takeS, e2]
      rw [e2, e3, takeD_fly hf]
      rw [hf] at hl
      obtain ⟨⟨a, n⟩, wr, s⟩ := r
      simp only [Option.getD_some, Option.isSome_some, rqV] at hl
      have H := hide h
      clear h ho e1 e2 e3 hf hx
      go_enter Try.func17, Try.ntmps17
      go_wp2_with fail
      refine hp.mono ?_
      rintro e w1 ⟨rfl, rfl⟩
      go_wp2
      go_ret2
      exact ⟨rfl, H.out.alloc _, (Keeps.refl _ _).alloc _⟩
    | none =>
      rw [hf] at hl
      simp only [Option.getD_none, Option.isSome_none, rqV] at hl
      have h1 := h.alloc (.cells #[.int .i64 0, .int .i64 0, .bool false, .string ⟨#[]⟩] 67)
      have K1 := (Keeps.refl (InD t) w).alloc (.cells #[.int .i64 0, .int .i64 0, .bool false, .string ⟨#[]⟩] 67)
      have hl2 := h1.ma.look hx
      have c4' := h1.c4
      simp only [MA] at hl2
      obtain ⟨t1, t2, t3, t4, t5⟩ := takeD_on ho x
      have hg := h.good.take x
      cases hn : an d.jobs x with
      | none =>
        have e2 : takeE d x = 7 := by simp [takeE, ho, hf, hn]
        have e3 : takeS d x = ⟨#[]⟩ := by simp [takeS, e2]
        rw [e2, e3]
        rw [hn] at hl2
        simp only [Option.getD_none, Option.isSome_none, coV] at hl2
        have hD : DvIs w t (takeD d x) := h.maps (Keeps.refl _ _) t1 t3 (by rw [t2]; exact h.mb) (h.mf.eq (fun y _ => t4 y)) (h.ma.eq (fun y _ => by
          rw [t5 hf]
          split
          · rename_i e; subst e; exact hn.symm
          · rfl)) hg
        have H := hide hD
        clear h h1 ho e1 e2 e3 hf hn hx t1 t2 t3 t4 t5 hg hD K1
        go_enter Try.func17, Try.ntmps17
        go_wp2_with fail
        refine hp.mono ?_
        rintro e w1 ⟨rfl, rfl⟩
        go_wp2
        go_ret2
        exact ⟨rfl, (H.out.alloc _).alloc _, ((Keeps.refl _ _).alloc _).alloc _⟩
      | some s =>
        have e2 : takeE d x = 0 := by simp [takeE, ho, hf, hn]
        have e3 : takeS d x = s := by simp [takeS, e2, hn]
        rw [e2, e3]
        rw [hn] at hl2
        simp only [Option.getD_some, Option.isSome_some, coV] at hl2
        have h2 := h1.alloc (.cells #[.string s] 75)
        have K2 := K1.alloc (.cells #[.string s] 75)
        have c4'' := h2.c4
        have hd : ∃ w3, (∀ ty, (Builtin.delete_ #[59, 3] ty #[.map (some (t + 2)), .int .i64 x]).run Try.prog ((w.alloc (.cells #[.int .i64 0, .int .i64 0, .bool false, .string ⟨#[]⟩] 67)).alloc (.cells #[.string s] 75)) = .ok (.tuple #[]) w3) ∧ DvIs w3 t (takeD d x) ∧ Keeps (InD t) w w3 ∧ w3.cell? ⟨w.heap.size + 1, 0, none⟩ = some (.string s) := by
          obtain ⟨w3, hr, hm, htu⟩ := h2.ma.drop hx 0
          have KT := (Keeps.turned htu).wider (T := fun k => t ≤ k ∧ k ≤ t + 2) (fun k _ e => by rw [e]; exact ⟨by omega, by omega⟩)
          have ht := h.lt
          refine ⟨w3, fun ty => hr, h2.maps KT t1 t3 (by rw [t2]; exact h2.mb.keep (Keeps.turned htu) (by simp)) ((h2.mf.keep (Keeps.turned htu) (by simp)).eq (fun y _ => t4 y)) (hm.eq (fun y _ => t5 hf y)) hg, K2.trans (keeps_in KT) (fun _ _ h => h), ?_⟩
          rw [KT.cell (by simp) (by simp; omega)]
          simp
        obtain ⟨w3, hr, hD, hK, hc⟩ := hd
        have H := hide hD
        have HK := hide hK
        clear h h1 h2 ho e1 e2 e3 hf hn hx t1 t2 t3 t4 t5 hg hD K1 K2 hK
        go_enter Try.func17, Try.ntmps17
        go_wp2_with fail
        refine hp.mono ?_
        rintro e w1 ⟨rfl, rfl⟩
        go_wp2
        go_ret2
        exact ⟨rfl, H.out, HK.out⟩
end Go.Proofs.Ytjhndhibojndfaa
