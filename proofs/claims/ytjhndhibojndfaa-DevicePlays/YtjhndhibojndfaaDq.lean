/- Package device: Flight, Write, Read. -/
import Derived.Test.YtjhndhibojndfaaDp
namespace Go.Proofs.Ytjhndhibojndfaa
open Go.RowKit Go.Maps
theorem enters29 : ∀ args w, (callFunc 29 args).run Try.prog w = .ok (.enter 29 args) w := enters_of Try.func29 (by kernel_rfl) rfl
theorem enters34 : ∀ args w, (callFunc 34 args).run Try.prog w = .ok (.enter 34 args) w := enters_of Try.func34 (by kernel_rfl) rfl
theorem enters31 : ∀ args w, (callFunc 31 args).run Try.prog w = .ok (.enter 31 args) w := enters_of Try.func31 (by kernel_rfl) rfl
theorem flight_fits (W : World) (r : Rq) : Calls Try.prog 29 (#[rqV r] ++ #[]) W fun e W' => e = .returned (.bool true) ∧ Below W.heap.size W W' := by
  obtain ⟨⟨a, n⟩, wr, s⟩ := r
  simp only [rqV, Array.append_empty]
  go_enter Try.func29, Try.ntmps29
  go_wp2
  go_ret
  first
    | exact ⟨rfl, Below.refl _ _⟩
    | exact ⟨rfl, (Below.refl _ _).alloc (Nat.le_refl _) _⟩
theorem crash_fits (W : World) (r : Rq) : Calls Try.prog 34 (#[rqV r] ++ #[]) W fun e W' => e = .returned (.bool r.wr) ∧ Below W.heap.size W W' := by
  obtain ⟨⟨a, n⟩, wr, s⟩ := r
  simp only [rqV, Array.append_empty]
  go_enter Try.func34, Try.ntmps34
  go_wp2
  go_ret
  exact ⟨rfl, (Below.refl _ _).alloc (Nat.le_refl _) _⟩
theorem write_fits (W : World) (B : Nat) (b : Bk) (c0 : W.cell? ⟨B, 0, none⟩ = some (.int .i64 b.1)) (c1 : W.cell? ⟨B, 1, none⟩ = some (.int .i64 b.2)) (r : Rq) :
    Calls Try.prog 31 (#[rqV r] ++ #[.pointer (some ⟨B, 0, none⟩)]) W fun e W' => e = .returned (.bool (r.wr && decide (r.b = b))) ∧ Below W.heap.size W W' := by
  obtain ⟨⟨a, n⟩, wr, s⟩ := r
  obtain ⟨a', n'⟩ := b
  simp only at c0 c1
  have d0 := cell_alloc c0 (.cells #[.int .i64 a, .int .i64 n, .bool wr, .string s] 67)
  have d1 := cell_alloc c1 (.cells #[.int .i64 a, .int .i64 n, .bool wr, .string s] 67)
  have HB := hide ((Below.refl W.heap.size W).alloc (Nat.le_refl _) (.cells #[.int .i64 a, .int .i64 n, .bool wr, .string s] 67))
  simp only [rqV, List.append_toArray, List.cons_append, List.nil_append]
  cases wr with
  | false =>
    simp only [Bool.false_and]
    go_enter Try.func31, Try.ntmps31
    go_wp2
    go_ret
    exact ⟨rfl, HB.out⟩
  | true =>
    simp only [Bool.true_and]
    by_cases h1 : a = a'
    · by_cases h2 : n = n'
      · subst h1 h2
        go_enter Try.func31, Try.ntmps31
        go_wp2
        go_ret
        exact ⟨ret_bool (by simp), HB.out⟩
      · subst h1
        go_enter Try.func31, Try.ntmps31
        go_wp2
        go_ret
        exact ⟨ret_bool (by simp [h2]), HB.out⟩
    · go_enter Try.func31, Try.ntmps31
      go_wp2
      go_ret
      exact ⟨ret_bool (by simp [h1]), HB.out⟩
theorem device_flight {w : World} {t : Nat} {d : Dv} (h : DvIs w t d) (L : List Nat) (hL : L = tk (fun _ => true) d.jobs) :
    Calls Try.prog 11 #[.pointer (some ⟨t + 3, 0, none⟩)] w fun e w' => ∃ ao cap, e = .returned (.slice ao L.length cap) ∧ Sl .i64 w' ao L.length (fun j => ((L.getD j 0 : Nat) : Int)) ∧ (0 < L.length → ∀ b off, ao = some ⟨b, off, none⟩ → w.heap.size ≤ b) ∧ Below w.heap.size w w' := by
  have hu := under_way h 29 #[] (fun _ => true) enters29 (fun W _ r => flight_fits W r) L hL
  clear h hL
  go_enter Try.func11, Try.ntmps11
  go_wp2_with fail
  refine hu.mono ?_
  rintro e x ⟨ao, cap, rfl, hs, hlo, hb⟩
  go_wp2
  go_ret
  exact ⟨ao, cap, rfl, hs, hlo, hb⟩
set_option maxHeartbeats 1000000 in
theorem device_read {w : World} {t : Nat} {d : Dv} (h : DvIs w t d) (b : Bk) (hj : d.jobs.length < 1000) :
    Calls Try.prog 15 #[.pointer (some ⟨t + 3, 0, none⟩), bkV b] w fun e w' => e = .returned (.tuple #[.int .i64 (askT d b false ⟨#[]⟩), .int .i64 (askE d b false ⟨#[]⟩)]) ∧ DvIs w' t (askD d b false ⟨#[]⟩) ∧ Keeps (InD t) w w' := by
  have h1 := h.alloc (.cells #[.int .i64 b.1, .int .i64 b.2] 32)
  have b1 := (Below.refl w.heap.size w).alloc (Nat.le_refl _) (.cells #[.int .i64 b.1, .int .i64 b.2] 32)
  have hr := device_refuses h1 b
  have hA : askE d b false ⟨#[]⟩ = if refE d b = 0 then (if 32 ≤ (tk (fun _ => true) d.jobs).length then 9 else 0) else refE d b := by
    unfold askE refE
    by_cases ho : d.off = true
    · simp [ho]
    · by_cases hk : okB b = false
      · simp [ho, hk]
      · simp [ho, hk]
        exact fun h => absurd h (by decide)
  have hT : askT d b false ⟨#[]⟩ = if askE d b false ⟨#[]⟩ = 0 then (d.jobs.length : Int) + 1 else 0 := rfl
  have hD : askD d b false ⟨#[]⟩ = if askE d b false ⟨#[]⟩ = 0 then { d with jobs := d.jobs ++ [⟨b, false, ⟨#[]⟩, false, 0⟩] } else d := rfl
  rw [hT, hD]
  have hok : refE d b = 0 → okB b = true := by
    unfold refE
    intro h
    split at h
    · omega
    · split at h
      · omega
      · rename_i hb; simpa using hb
  have hfull := fun x (hx : DvIs x t d) hf => device_ask_full hx ⟨b, false, ⟨#[]⟩⟩ hf
  have hroom := fun x (hx : DvIs x t d) hb hf => device_ask_room hx ⟨b, false, ⟨#[]⟩⟩ hb (Nat.zero_le _) hf hj
  obtain ⟨a, n⟩ := b
  simp only [bkV, rqV] at *
  by_cases he : refE d (a, n) = 0
  · rw [he] at hA hr
    simp only [if_true] at hA
    have hb := hok he
    clear hok he hT hD
    by_cases hf : 32 ≤ (tk (fun _ => true) d.jobs).length
    · rw [if_pos hf] at hA
      rw [hA]
      have HF := fun x hx => hfull x hx hf
      have H1 := hide h1
      have HB := hide b1
      clear hfull hroom h h1 hA hf b1
      go_enter Try.func15, Try.ntmps15
      go_wp2_with fail
      refine hr.mono ?_
      rintro e x ⟨rfl, b2⟩
      have c0 : x.cell? ⟨w.heap.size, 0, none⟩ = some (.int .i64 a) := by rw [b2.cell (by simp)]; simp
      have c1 : x.cell? ⟨w.heap.size, 1, none⟩ = some (.int .i64 n) := by rw [b2.cell (by simp)]; simp
      go_wp2_with fail
      refine (HF x (H1.out.below b2)).mono ?_
      rintro e y ⟨rfl, b3⟩
      go_wp2
      go_ret2
      have hb3 := HB.out.trans ((b2.trans (b3.mono b2.size)).mono HB.out.size)
      exact ⟨rfl, (H1.out.below b2).below b3, Keeps.wider (Below.keeps (S := fun _ => False) hb3) (fun _ _ h => h.elim)⟩
    · rw [if_neg hf] at hA
      rw [hA]
      simp only [if_true]
      have HF := fun x hx => hroom x hx hb (by omega)
      have H1 := hide h1
      have HB := hide b1
      clear hfull hroom h h1 hA hf b1 hb
      generalize d.jobs.length = J at *
      go_enter Try.func15, Try.ntmps15
      go_wp2_with fail
      refine hr.mono ?_
      rintro e x ⟨rfl, b2⟩
      have c0 : x.cell? ⟨w.heap.size, 0, none⟩ = some (.int .i64 a) := by rw [b2.cell (by simp)]; simp
      have c1 : x.cell? ⟨w.heap.size, 1, none⟩ = some (.int .i64 n) := by rw [b2.cell (by simp)]; simp
      go_wp2_with fail
      refine (HF x (H1.out.below b2)).mono ?_
      rintro e y ⟨rfl, hd, k3⟩
      go_wp2
      go_ret2
      have hb3 := HB.out.trans (b2.mono HB.out.size)
      exact ⟨rfl, hd, (Below.keeps (S := InD t) hb3).trans k3 (fun _ _ h => h)⟩
  · rw [if_neg he] at hA
    rw [hA, if_neg he, if_neg he]
    have he' : (refE d (a, n) != 0) = true := by simpa using he
    have H1 := hide h1
    have HB := hide b1
    clear hok hT hD hfull hroom h h1 hA b1 he
    generalize refE d (a, n) = r at *
    go_enter Try.func15, Try.ntmps15
    go_wp2_with fail
    refine hr.mono ?_
    rintro e x ⟨rfl, b2⟩
    go_wp2
    go_ret2
    have hb3 := HB.out.trans (b2.mono HB.out.size)
    exact ⟨rfl, H1.out.below b2, Below.keeps hb3⟩
end Go.Proofs.Ytjhndhibojndfaa
