/- Package device: Write. -/
import Derived.Test.YtjhndhibojndfaaDq
namespace Go.Proofs.Ytjhndhibojndfaa
open Go.RowKit Go.Maps
set_option maxHeartbeats 1000000 in
theorem device_write {w : World} {t : Nat} {d : Dv} (h : DvIs w t d) (b : Bk) (s : ByteArray) (hj : d.jobs.length < 1000) :
    Calls Try.prog 14 #[.pointer (some ⟨t + 3, 0, none⟩), bkV b, .string s] w fun e w' => e = .returned (.tuple #[.int .i64 (askT d b true s), .int .i64 (askE d b true s)]) ∧ DvIs w' t (askD d b true s) ∧ Keeps (InD t) w w' := by
  have h1 := h.alloc (.cells #[.int .i64 b.1, .int .i64 b.2] 32)
  have b1 := (Below.refl w.heap.size w).alloc (Nat.le_refl _) (.cells #[.int .i64 b.1, .int .i64 b.2] 32)
  have hr := device_refuses h1 b
  have hA : askE d b true s = if refE d b = 0 then (if 131072 < s.size then 5 else if (tk (fun j => j.wr && decide (j.b = b)) d.jobs).length ≠ 0 then 10 else if 32 ≤ (tk (fun _ => true) d.jobs).length then 9 else 0) else refE d b := by
    unfold askE refE
    by_cases ho : d.off = true
    · simp [ho]
    · by_cases hk : okB b = false
      · simp [ho, hk]
      · simp [ho, hk]
  have hT : askT d b true s = if askE d b true s = 0 then (d.jobs.length : Int) + 1 else 0 := rfl
  have hD : askD d b true s = if askE d b true s = 0 then { d with jobs := d.jobs ++ [⟨b, true, s, false, 0⟩] } else d := rfl
  rw [hT, hD]
  have hok : refE d b = 0 → okB b = true := by
    unfold refE
    intro h
    split at h
    · omega
    · split at h
      · omega
      · rename_i hb; simpa using hb
  have hfull := fun x (hx : DvIs x t d) hf => device_ask_full hx ⟨b, true, s⟩ hf
  have hroom := fun x (hx : DvIs x t d) hb hs hf => device_ask_room hx ⟨b, true, s⟩ hb hs hf hj
  have hbusy : ∀ x, DvIs x t d → x.cell? ⟨w.heap.size, 0, none⟩ = some (.int .i64 b.1) → x.cell? ⟨w.heap.size, 1, none⟩ = some (.int .i64 b.2) → _ := fun x hx c0 c1 =>
    under_way hx 31 #[.pointer (some ⟨w.heap.size, 0, none⟩)] (fun r => r.wr && decide (r.b = b)) enters31 (fun W hW r => write_fits W w.heap.size b (by rw [hW.cell (World.block_lt_of_cell? x _ c0)]; exact c0) (by rw [hW.cell (World.block_lt_of_cell? x _ c1)]; exact c1) r) (tk (fun j => j.wr && decide (j.b = b)) d.jobs) rfl
  obtain ⟨a, n⟩ := b
  simp only [bkV, rqV] at *
  by_cases he : refE d (a, n) = 0
  · rw [he] at hA hr
    simp only [if_true] at hA
    have hb := hok he
    clear hok he hT hD
    by_cases hs : 131072 < s.size
    · rw [if_pos hs] at hA
      rw [hA]
      have H1 := hide h1
      have HB := hide b1
      clear hfull hroom h h1 hA b1 hbusy
      go_enter Try.func14, Try.ntmps14
      go_wp2_with fail
      refine hr.mono ?_
      rintro e x ⟨rfl, b2⟩
      go_wp2
      go_ret2
      have hb3 := HB.out.trans (b2.mono HB.out.size)
      exact ⟨rfl, H1.out.below b2, Below.keeps hb3⟩
    rw [if_neg hs] at hA
    by_cases hq : (tk (fun j => j.wr && decide (j.b = (a, n))) d.jobs).length ≠ 0
    · rw [if_pos hq] at hA
      rw [hA]
      have H1 := hide h1
      have HB := hide b1
      have HU := hide hbusy
      have hq' : 0 < (tk (fun j => j.wr && decide (j.b = (a, n))) d.jobs).length := by omega
      clear hfull hroom h h1 hA b1 hbusy hq
      generalize hN : (tk (fun j => j.wr && decide (j.b = (a, n))) d.jobs).length = N at *
      go_enter Try.func14, Try.ntmps14
      go_wp2_with fail
      refine hr.mono ?_
      rintro e x ⟨rfl, b2⟩
      have c0 : x.cell? ⟨w.heap.size, 0, none⟩ = some (.int .i64 a) := by rw [b2.cell (by simp)]; simp
      have c1 : x.cell? ⟨w.heap.size, 1, none⟩ = some (.int .i64 n) := by rw [b2.cell (by simp)]; simp
      go_wp2_with fail
      refine (HU.out x (H1.out.below b2) c0 c1).mono ?_
      rintro e y ⟨ao, cap, rfl, -, -, b3⟩
      go_wp2
      go_ret2
      have hb3 := HB.out.trans ((b2.trans (b3.mono b2.size)).mono HB.out.size)
      exact ⟨rfl, (H1.out.below b2).below b3, Below.keeps hb3⟩
    rw [if_neg hq] at hA
    have hq' : (tk (fun j => j.wr && decide (j.b = (a, n))) d.jobs).length = 0 := by omega
    by_cases hf : 32 ≤ (tk (fun _ => true) d.jobs).length
    · rw [if_pos hf] at hA
      rw [hA]
      have HF := fun x hx => hfull x hx hf
      have H1 := hide h1
      have HB := hide b1
      have HU := hide hbusy
      have HQ := hide hq'
      clear hfull hroom h h1 hA hf b1 hbusy hq hq'
      go_enter Try.func14, Try.ntmps14
      go_wp2_with fail
      refine hr.mono ?_
      rintro e x ⟨rfl, b2⟩
      have c0 : x.cell? ⟨w.heap.size, 0, none⟩ = some (.int .i64 a) := by rw [b2.cell (by simp)]; simp
      have c1 : x.cell? ⟨w.heap.size, 1, none⟩ = some (.int .i64 n) := by rw [b2.cell (by simp)]; simp
      go_wp2_with fail
      refine (HU.out x (H1.out.below b2) c0 c1).mono ?_
      rintro e y ⟨ao, cap, rfl, -, -, b3⟩
      rw [HQ.out]
      have c0' : y.cell? ⟨w.heap.size, 0, none⟩ = some (.int .i64 a) := by rw [b3.cell (World.block_lt_of_cell? x _ c0)]; exact c0
      have c1' : y.cell? ⟨w.heap.size, 1, none⟩ = some (.int .i64 n) := by rw [b3.cell (World.block_lt_of_cell? x _ c1)]; exact c1
      have hy := (H1.out.below b2).below b3
      have HB3 := hide (HB.out.trans ((b2.trans (b3.mono b2.size)).mono HB.out.size))
      clear HU b2 b3
      go_wp2_with fail
      refine (HF y hy).mono ?_
      rintro e z ⟨rfl, b4⟩
      go_wp2
      go_ret2
      exact ⟨rfl, hy.below b4, Below.keeps (HB3.out.trans (b4.mono HB3.out.size))⟩
    · rw [if_neg hf] at hA
      rw [hA]
      simp only [if_true]
      have HF := fun x hx => hroom x hx hb (by omega) (by omega)
      have H1 := hide h1
      have HB := hide b1
      have HU := hide hbusy
      have HQ := hide hq'
      clear hfull hroom h h1 hA hf b1 hb hbusy hq hq'
      generalize d.jobs.length = J at *
      go_enter Try.func14, Try.ntmps14
      go_wp2_with fail
      refine hr.mono ?_
      rintro e x ⟨rfl, b2⟩
      have c0 : x.cell? ⟨w.heap.size, 0, none⟩ = some (.int .i64 a) := by rw [b2.cell (by simp)]; simp
      have c1 : x.cell? ⟨w.heap.size, 1, none⟩ = some (.int .i64 n) := by rw [b2.cell (by simp)]; simp
      go_wp2_with fail
      refine (HU.out x (H1.out.below b2) c0 c1).mono ?_
      rintro e y ⟨ao, cap, rfl, -, -, b3⟩
      rw [HQ.out]
      have c0' : y.cell? ⟨w.heap.size, 0, none⟩ = some (.int .i64 a) := by rw [b3.cell (World.block_lt_of_cell? x _ c0)]; exact c0
      have c1' : y.cell? ⟨w.heap.size, 1, none⟩ = some (.int .i64 n) := by rw [b3.cell (World.block_lt_of_cell? x _ c1)]; exact c1
      have hy := (H1.out.below b2).below b3
      have HB3 := hide (HB.out.trans ((b2.trans (b3.mono b2.size)).mono HB.out.size))
      clear HU b2 b3
      go_wp2_with fail
      refine (HF y hy).mono ?_
      rintro e z ⟨rfl, hd, k4⟩
      go_wp2
      go_ret2
      exact ⟨rfl, hd, (Below.keeps (S := InD t) HB3.out).trans k4 (fun _ _ h => h)⟩
  · rw [if_neg he] at hA
    rw [hA, if_neg he, if_neg he]
    have he' : (refE d (a, n) != 0) = true := by simpa using he
    have H1 := hide h1
    have HB := hide b1
    clear hok hT hD hfull hroom h h1 hA b1 he hbusy
    generalize refE d (a, n) = r at *
    go_enter Try.func14, Try.ntmps14
    go_wp2_with fail
    refine hr.mono ?_
    rintro e x ⟨rfl, b2⟩
    go_wp2
    go_ret2
    have hb3 := HB.out.trans (b2.mono HB.out.size)
    exact ⟨rfl, H1.out.below b2, Below.keeps hb3⟩
end Go.Proofs.Ytjhndhibojndfaa
