/- Parts of the proof: Dp Dq Dr. -/
import Derived.Test.YtfghfbmmaclcnaaGreatJ10
import Derived.Test.YtfghfbmmaclcnaaGreatJ11
import Derived.Deep.AppendLies
namespace Go.Proofs.YtfghfbmmaclcnaaGreat
set_option maxRecDepth 20000
open Go.RowKit Go.Maps Go.Sort
theorem own_holds {w : World} {base : Nat} {v : Value} {zs : List Int} (h : w.ownsRow base 3 1 v zs.length (zs.map (Value.int .i64))) (hn : 0 < zs.length) :
    ∃ g cap, v = .slice (some ⟨g, 0, none⟩) zs.length cap ∧ base ≤ g ∧ g < w.heap.size ∧ Holds (Value.int .i64) w g 0 zs.toArray := by
  have h' := h
  rcases h.2 with ⟨_, h0⟩ | ⟨g, cap, cur, hv, hb, hg, _, _, _, _⟩
  · omega
  · refine ⟨g, cap, hv, hb, (Array.getElem?_eq_some_iff.1 hg).1, fun j hj => ⟨?_, ?_⟩⟩
    · have hc := h'.cells (g := g) (by rw [hv]; rfl) j (.int .i64 zs.toArray[j]!) (by
        simp at hj
        simp [hj])
      have hadd : (⟨g, 0, none⟩ : Addr).add j = ⟨g, j, none⟩ := by unfold Addr.add; split <;> simp_all
      rw [hadd] at hc
      rw [Nat.zero_add]
      exact hc
    · simp [World.frozen?, hg]
theorem holds_sl {w : World} {g : Nat} {zs : List Int} (h : Holds (Value.int .i64) w g 0 zs.toArray) : Sl .i64 w (some ⟨g, 0, none⟩) zs.length (fun j => zs.getD j 0) := by
  intro j hj
  refine ⟨g, 0, rfl, ?_⟩
  have := (h j (by simpa using hj)).1
  rw [this]
  simp [List.getD_eq_getElem?_getD, hj]
theorem below_grown {w w' : World} (h : Below w.heap.size w w') : w.grownBy w' none := ⟨h.os, h.tape, h.output, h.size, fun k hk _ => h.block k hk⟩
theorem sort_is {zs : List Int} {L : List Nat} (hn : zs.Nodup) (hL : L.Pairwise (· < ·)) (hm : ∀ x, x ∈ zs ↔ x ∈ L.map fun (n : Nat) => (n : Int)) : zs.mergeSort (fun x y => decide (x ≤ y)) = L.map fun (n : Nat) => (n : Int) := by
  have hp := List.mergeSort_perm zs (fun x y => decide (x ≤ y))
  have hs : (zs.mergeSort (fun x y => decide (x ≤ y))).Pairwise (fun x y => decide (x ≤ y) = true) :=
    List.pairwise_mergeSort (fun a b c h1 h2 => by simp at *; omega) (fun a b => by simp; omega) zs
  have hn' : (zs.mergeSort (fun x y => decide (x ≤ y))).Nodup := hp.nodup_iff.2 hn
  refine rising_ext (lt := fun (a b : Int) => a < b) (fun a => by omega) (fun h1 h2 => by omega) ?_ ?_ (fun x => by rw [hp.mem_iff, hm])
  · exact (hs.and hn').imp (fun {a b} h => by
      have h1 := h.1
      have h2 : a ≠ b := h.2
      simp at h1
      omega)
  · rw [List.pairwise_map]
    exact hL.imp (fun h => by omega)
set_option maxHeartbeats 2000000 in
set_option maxRecDepth 10000 in
theorem under_way {w : World} {t : Nat} {d : Dv} (h : DvIs w t d) (g : Nat) (cb : Array Value) (q : Rq → Bool) (eg : ∀ args w, (callFunc g args).run Tryz.prog w = .ok (.enter g args) w)
    (HC : ∀ W, Below w.heap.size w W → ∀ r : Rq, Calls Tryz.prog g (#[rqV r] ++ cb) W fun e W' => e = .returned (.bool (q r)) ∧ Below W.heap.size W W') (L : List Nat) (hL : L = tk (fun j => q j.rq) d.jobs) :
    Calls Tryz.prog 157 #[.pointer (some ⟨t + 3, 0, none⟩), .func (.func g) #[] cb] w fun e w' => ∃ ao cap, e = .returned (.slice ao L.length cap) ∧ Sl .i64 w' ao L.length (fun j => ((L.getD j 0 : Nat) : Int)) ∧ (0 < L.length → ∀ b off, ao = some ⟨b, off, none⟩ → w.heap.size ≤ b) ∧ Below w.heap.size w w' := by
  obtain ⟨i0, hi, hz0, hz1, hz2⟩ := info_parts Tryz.infoInt
  have hlen : L.length ≤ 32 := by
    rw [hL]
    exact Nat.le_trans (tk_sub (p := fun j => q j.rq) (m := d.jobs) (fun n h => h)) (Nat.le_trans (nodup_len_le (tk_nodup _ _) (fun n hn => by
      obtain ⟨j, h1, h2, -⟩ := tk_mem.1 hn
      exact tk_mem.2 ⟨j, h1, h2, rfl⟩)) h.good.fly)
  have hmem : ∀ x, x ∈ (L.map fun (n : Nat) => (n : Int)) ↔ okI x ∧ ∃ r, fl d.jobs x = some r ∧ q r = true := by
    intro x
    rw [hL]
    constructor
    · intro hx
      obtain ⟨n, hn, rfl⟩ := List.mem_map.1 hx
      obtain ⟨j, h1, h2, h3⟩ := tk_mem.1 hn
      have := jobAt_lt h1
      have := h.good.few
      exact ⟨okI_small (by omega) (by omega), j.rq, by simp [fl, h1, h2], h3⟩
    · rintro ⟨-, r, h1, h2⟩
      obtain ⟨j, h3, h4, rfl⟩ := fl_some h1
      have := jobAt_lt h3
      exact List.mem_map.2 ⟨x.toNat, tk_mem.2 ⟨j, by rw [show ((x.toNat : Nat) : Int) = x by omega]; exact h3, h4, h2⟩, by omega⟩
  have hris : L.Pairwise (· < ·) := by rw [hL]; exact tk_rising _ _
  obtain ⟨w0, hr0, hrg0, hb0, hs0⟩ := h.mf.range
  simp only [MF] at hr0
  have c3 := h.c3
  have ht := h.lt
  have HM := hide hmem
  have HI := hide hris
  clear hL hmem hris h
  go_enter Tryz.func157, Tryz.ntmps157
  go_wp2
  go_loopw [5] (fun v wr => ∃ (left : Int → Bool) (acc : List Int), RangeAs MF wr (t + 1) w.heap.size (fl d.jobs) left ∧ wr.ownsRow (w.heap.size + 1) 3 1 v acc.length (acc.map (Value.int .i64)) ∧ acc.Nodup ∧ (∀ x, x ∈ acc ↔ (okI x ∧ ∃ r, fl d.jobs x = some r ∧ q r = true) ∧ left x = false) ∧ Below w.heap.size w wr ∧ w.heap.size < wr.heap.size) (fun _ wr => wr.rangeLeft (t + 1) w.heap.size)
  case atStart =>
    refine ⟨_, [], hrg0, World.ownsRow_nil _ _ _ _, List.nodup_nil, fun x => ?_, hb0, by omega⟩
    constructor
    · intro h; simp at h
    · rintro ⟨⟨-, r, h1, -⟩, h2⟩
      rw [h1] at h2; cases h2
  case round =>
    obtain ⟨left, acc, hrg, hown, hnd, hacc, hbel, hsz⟩ := hrel
    have hal : acc.length ≤ 32 := by
      have := nodup_len_le (b := L.map fun (n : Nat) => (n : Int)) hnd (fun x hx => (HM.out x).2 ((hacc x).1 hx).1)
      simp at this
      omega
    rcases hrg.next 0 with ⟨hl0, hrn⟩ | ⟨x, r, w1, hx, hlx, hfx, hrn, hrg1, hlt1, hg1, hs1, hen⟩
    · have hfin : ∀ x, x ∈ acc ↔ x ∈ L.map fun (n : Nat) => (n : Int) := fun x => by
        rw [HM.out x, hacc x]
        exact ⟨fun h => h.1, fun h => ⟨h, hl0 x h.1⟩⟩
      have hso := sort_is hnd HI.out hfin
      have hll : acc.length = L.length := by
        have := congrArg List.length hso
        simpa using this
      have HR := hide hbel
      by_cases h0 : acc.length = 0
      · have hv : ∃ ao cap, u5 = .slice ao 0 cap := by
          rcases hown.2 with ⟨e, -⟩ | ⟨g', cap, cur, e, -⟩
          · exact ⟨none, 0, e⟩
          · exact ⟨some ⟨g', 0, none⟩, cap, by rw [e, h0]⟩
        obtain ⟨ao, cap, rfl⟩ := hv
        have hL0 : L.length = 0 := by omega
        clear hown hrg hacc hfin hso hnd HC hr0 hrg0 hb0 hs0 c3 hi HM HI hbel
        go_wp2_with fail
        refine (sort_none _ _ _).mono ?_
        rintro e y ⟨rfl, rfl⟩
        go_wp2
        go_ret
        exact ⟨ao, cap, by rw [hL0]; rfl, fun j hj => by omega, fun hh => by omega, HR.out⟩
      · obtain ⟨gg, cap, rfl, hgb, hgl, hH⟩ := own_holds hown (by omega)
        have HS := sort_ints gg cap acc wr hH hgl (by omega)
        rw [hso] at HS
        have HLL := hide hll
        clear hll h0
        clear hown hrg hacc hfin hso hnd HC hr0 hrg0 hb0 hs0 c3 hi HM HI hbel hH
        go_wp2_with fail
        refine HS.mono ?_
        rintro e y ⟨rfl, hy, hk⟩
        go_wp2
        go_ret
        refine ⟨some ⟨gg, 0, none⟩, cap, by rw [← HLL.out]; rfl, ?_, (fun _ b off e => by cases e; omega), HR.out.trans (hk.below (Nat.le_of_lt hsz) (fun k e => by omega))⟩
        have := holds_sl hy
        rw [List.length_map] at this
        intro j hj
        obtain ⟨b, off, h1, h2⟩ := this j hj
        refine ⟨b, off, h1, ?_⟩
        rw [h2]
        simp [List.getD_eq_getElem?_getD, hj]
    · have hw1 : Below w.heap.size w w1 := hbel.grown hg1 hbel.size (fun k hk => by cases hk; exact Nat.le_refl _)
      have own1 : w1.ownsRow (w.heap.size + 1) 3 1 u5 acc.length (acc.map (Value.int .i64)) := hown.kept hg1 (by
        rcases hown.2 with ⟨e, -⟩ | ⟨g', cap, cur, e, hb', -⟩
        · exact .inl (by rw [e]; rfl)
        · exact .inr (by rw [e]; simp [Value.ownBlock]; omega))
      obtain ⟨⟨a, n⟩, wr1, s⟩ := r
      have hb2 := hw1.alloc hw1.size (.cells #[.int .i64 a, .int .i64 n, .bool wr1, .string s] 154)
      have own2 := own1.alloc (.cells #[.int .i64 a, .int .i64 n, .bool wr1, .string s] 154)
      obtain ⟨hrg2, hl2⟩ := hrg1.keep (World.grownBy_alloc w1 (.cells #[.int .i64 a, .int .i64 n, .bool wr1, .string s] 154) none) (by simp) (by simp)
      have hc := HC _ hb2 ⟨(a, n), wr1, s⟩
      simp only [MF, rqV] at hc hrn hen
      have HA : ∀ left' : Int → Bool, left' = (fun y => left y && !decide (y = x)) → ∀ y, ((okI y ∧ ∃ r, fl d.jobs y = some r ∧ q r = true) ∧ left' y = false) ↔ (y ∈ acc ∨ (y = x ∧ q ⟨(a, n), wr1, s⟩ = true)) := by
        rintro left' rfl y
        by_cases e : y = x
        · subst e
          simp only [decide_true, Bool.not_true, Bool.and_false, and_true, true_and]
          constructor
          · rintro ⟨-, r, h1, h2⟩
            rw [hfx] at h1
            cases h1
            exact .inr h2
          · rintro (h1 | h1)
            · exact ((hacc y).1 h1).1
            · exact ⟨hx, _, hfx, h1⟩
        · simp only [e, decide_false, Bool.not_false, Bool.and_true, false_and, or_false]
          exact (hacc y).symm
      have hxa : x ∉ acc := fun h => by
        have := ((hacc x).1 h).2
        rw [hlx] at this; cases this
      have hlen1 : (x :: acc).length ≤ 33 := by simp; omega
      cases hq : q ⟨(a, n), wr1, s⟩ with
      | false =>
        rw [hq] at hc
        have HX : Hid (∀ y, y ∈ acc ↔ (okI y ∧ ∃ r, fl d.jobs y = some r ∧ q r = true) ∧ (fun y => left y && !decide (y = x)) y = false) := fun y => by
          rw [HA _ rfl y, hq]
          simp
        clear hrg hown hacc hbel hr0 hrg0 hb0 hs0 c3 HC HA hi own1 hrg1 hw1
        have hsz2 : w.heap.size < w1.heap.size := by omega
        go_wp2_with fail
        refine hc.mono ?_
        rintro e y ⟨rfl, hby⟩
        obtain ⟨hrg3, hl3⟩ := hrg2.keep (below_grown hby) (by simp) (by simp)
        have hsy := hby.size
        simp only [World.size_alloc] at hsy
        go_wp2
        go_roundw
        case rel => exact ⟨_, acc, hrg3, own_below own2 hby, hnd, HX.out, hb2.trans (hby.mono hb2.size), by omega⟩
        case measure => rw [hl3, hl2]; exact hlt1
      | true =>
        rw [hq] at hc
        have HX : Hid (∀ y, y ∈ acc ++ [x] ↔ (okI y ∧ ∃ r, fl d.jobs y = some r ∧ q r = true) ∧ (fun y => left y && !decide (y = x)) y = false) := fun y => by
          rw [HA _ rfl y, hq]
          simp
        clear hrg hown hacc hbel hr0 hrg0 hb0 hs0 c3 HC HA own1 hrg1 hw1
        have hsz2 : w.heap.size < w1.heap.size := by omega
        go_wp2_with fail
        refine hc.mono ?_
        rintro e y ⟨rfl, hby⟩
        obtain ⟨hrg3, hl3⟩ := hrg2.keep (below_grown hby) (by simp) (by simp)
        have hsy := hby.size
        simp only [World.size_alloc] at hsy
        have own3 := own_below own2 hby
        have hb3 := hb2.trans (hby.mono hb2.size)
        obtain ⟨hrg4, hl4⟩ := hrg3.keep (World.grownBy_alloc y (.cells #[.int .i64 x] 3) none) (by simp) (by simp)
        have hown4 := own3.alloc (.cells #[.int .i64 x] 3)
        have hnews := cell_one y (.int .i64 x) 3
        clear own2 hrg2 hby hc hrg3
        go_wp2_with (at_builtin; refine wpList_append_lies _ rfl _ _ 40 rfl (w.heap.size + 1) 3 i0 (.int .i64 0) 1 8 Tryz.underlying40 hi hz0 hz1 hz2 rfl (by decide) _ _ _ rfl hown4 ⟨y.heap.size, 0, none⟩ 1 1 [.int .i64 x] rfl rfl hnews one_int (by decide) ?c3 ?c4 ?c5 (y.heap.size + 1) (by simp) ?_)
        case c3 => unfold maxLen; omega
        case c4 => omega
        case c5 => simp; omega
        intro g' cap' y2 hown' hgrow hat hlt'
        have hob : ∀ k, (u5).ownBlock = some k → w.heap.size + 1 ≤ k := fun k hk => (own3.lt k hk).1
        obtain ⟨hrg5, hl5⟩ := hrg4.keep hgrow (fun e => by have := hob _ e.symm; have := hrg4.owns.lt; omega) (fun e => by have := hob _ e.symm; omega)
        have hb5 := (hb3.alloc hb3.size (.cells #[.int .i64 x] 3)).grown hgrow (by simp; omega) (fun k hk => by have := hob k hk; omega)
        have hs5 := hgrow.size
        simp only [World.size_alloc] at hs5
        clear hown4 hnews hgrow hat hrg4
        go_wp2
        go_roundw
        case rel => exact ⟨_, acc ++ [x], hrg5, by simpa using hown', List.nodup_append.2 ⟨hnd, by simp, fun p hp r hr e => by simp at hr; subst hr; subst e; exact hxa hp⟩, HX.out, hb5, by omega⟩
        case measure => rw [hl5, hl4, hl3, hl2]; exact hlt1
end Go.Proofs.YtfghfbmmaclcnaaGreat
namespace Go.Proofs.YtfghfbmmaclcnaaGreat
set_option maxRecDepth 20000
open Go.RowKit Go.Maps
theorem enters31 : ∀ args w, (callFunc 156 args).run Tryz.prog w = .ok (.enter 156 args) w := enters_of Tryz.func156 (by kernel_rfl) rfl
theorem write_fits (W : World) (B : Nat) (b : Bk) (c0 : W.cell? ⟨B, 0, none⟩ = some (.int .i64 b.1)) (c1 : W.cell? ⟨B, 1, none⟩ = some (.int .i64 b.2)) (r : Rq) :
    Calls Tryz.prog 156 (#[rqV r] ++ #[.pointer (some ⟨B, 0, none⟩)]) W fun e W' => e = .returned (.bool (r.wr && decide (r.b = b))) ∧ Below W.heap.size W W' := by
  obtain ⟨⟨a, n⟩, wr, s⟩ := r
  obtain ⟨a', n'⟩ := b
  simp only at c0 c1
  have d0 := cell_alloc c0 (.cells #[.int .i64 a, .int .i64 n, .bool wr, .string s] 154)
  have d1 := cell_alloc c1 (.cells #[.int .i64 a, .int .i64 n, .bool wr, .string s] 154)
  have HB := hide ((Below.refl W.heap.size W).alloc (Nat.le_refl _) (.cells #[.int .i64 a, .int .i64 n, .bool wr, .string s] 154))
  simp only [rqV, List.append_toArray, List.cons_append, List.nil_append]
  cases wr with
  | false =>
    simp only [Bool.false_and]
    go_enter Tryz.func156, Tryz.ntmps156
    go_wp2
    go_ret
    exact ⟨rfl, HB.out⟩
  | true =>
    simp only [Bool.true_and]
    by_cases h1 : a = a'
    · by_cases h2 : n = n'
      · subst h1 h2
        go_enter Tryz.func156, Tryz.ntmps156
        go_wp2
        go_ret
        exact ⟨ret_bool (by simp), HB.out⟩
      · subst h1
        go_enter Tryz.func156, Tryz.ntmps156
        go_wp2
        go_ret
        exact ⟨ret_bool (by simp [h2]), HB.out⟩
    · go_enter Tryz.func156, Tryz.ntmps156
      go_wp2
      go_ret
      exact ⟨ret_bool (by simp [h1]), HB.out⟩
end Go.Proofs.YtfghfbmmaclcnaaGreat
namespace Go.Proofs.YtfghfbmmaclcnaaGreat
set_option maxRecDepth 20000
open Go.RowKit Go.Maps
set_option maxHeartbeats 1000000 in
theorem device_write {w : World} {t : Nat} {d : Dv} (h : DvIs w t d) (b : Bk) (s : ByteArray) (hj : d.jobs.length < 1000) :
    Calls Tryz.prog 70 #[.pointer (some ⟨t + 3, 0, none⟩), bkV b, .string s] w fun e w' => e = .returned (.tuple #[.int .i64 (askT d b true s), .int .i64 (askE d b true s)]) ∧ DvIs w' t (askD d b true s) ∧ Keeps (InD t) w w' := by
  have h1 := h.alloc (.cells #[.int .i64 b.1, .int .i64 b.2] 59)
  have b1 := (Below.refl w.heap.size w).alloc (Nat.le_refl _) (.cells #[.int .i64 b.1, .int .i64 b.2] 59)
  have hr := device_refuses h1 b
  have hA : askE d b true s = if refE d b = 0 then (if 131072 < s.size then 5 else if (tk (fun j => j.wr && decide (j.b = b)) d.jobs).length ≠ 0 then 10 else if 32 ≤ (tk (fun _ => true) d.jobs).length then 9 else 0) else refE d b := by
    unfold askE refE
    by_cases ho : d.off = true
    · simp [ho]
    · by_cases hk : okB b = false
      · simp [ho, hk]
      · simp [ho, hk]
  have hT : askT d b true s = if askE d b true s = 0 then (d.jobs.length : Int) + 1 else 0 := rfl
  have hD : askD d b true s = if askE d b true s = 0 then { d with jobs := d.jobs ++ [⟨b, true, s, false, 0⟩] } else d := rfl
  rw [hT, hD]
  have hok : refE d b = 0 → okB b = true := by
    unfold refE
    intro h
    split at h
    · omega
    · split at h
      · omega
      · rename_i hb; simpa using hb
  have hfull := fun x (hx : DvIs x t d) hf => device_ask_full hx ⟨b, true, s⟩ hf
  have hroom := fun x (hx : DvIs x t d) hb hs hf => device_ask_room hx ⟨b, true, s⟩ hb hs hf hj
  have hbusy : ∀ x, DvIs x t d → x.cell? ⟨w.heap.size, 0, none⟩ = some (.int .i64 b.1) → x.cell? ⟨w.heap.size, 1, none⟩ = some (.int .i64 b.2) → _ := fun x hx c0 c1 =>
    under_way hx 156 #[.pointer (some ⟨w.heap.size, 0, none⟩)] (fun r => r.wr && decide (r.b = b)) enters31 (fun W hW r => write_fits W w.heap.size b (by rw [hW.cell (World.block_lt_of_cell? x _ c0)]; exact c0) (by rw [hW.cell (World.block_lt_of_cell? x _ c1)]; exact c1) r) (tk (fun j => j.wr && decide (j.b = b)) d.jobs) rfl
  obtain ⟨a, n⟩ := b
  simp only [bkV, rqV] at *
  by_cases he : refE d (a, n) = 0
  · rw [he] at hA hr
    simp only [if_true] at hA
    have hb := hok he
    clear hok he hT hD
    by_cases hs : 131072 < s.size
    · rw [if_pos hs] at hA
      rw [hA]
      have H1 := hide h1
      have HB := hide b1
      clear hfull hroom h h1 hA b1 hbusy
      go_enter Tryz.func70, Tryz.ntmps70
      go_wp2_with fail
      refine hr.mono ?_
      rintro e x ⟨rfl, b2⟩
      go_wp2
      go_ret2
      have hb3 := HB.out.trans (b2.mono HB.out.size)
      exact ⟨rfl, H1.out.below b2, Below.keeps hb3⟩
    rw [if_neg hs] at hA
    by_cases hq : (tk (fun j => j.wr && decide (j.b = (a, n))) d.jobs).length ≠ 0
    · rw [if_pos hq] at hA
      rw [hA]
      have H1 := hide h1
      have HB := hide b1
      have HU := hide hbusy
      have hq' : 0 < (tk (fun j => j.wr && decide (j.b = (a, n))) d.jobs).length := by omega
      clear hfull hroom h h1 hA b1 hbusy hq
      generalize hN : (tk (fun j => j.wr && decide (j.b = (a, n))) d.jobs).length = N at *
      go_enter Tryz.func70, Tryz.ntmps70
      go_wp2_with fail
      refine hr.mono ?_
      rintro e x ⟨rfl, b2⟩
      have c0 : x.cell? ⟨w.heap.size, 0, none⟩ = some (.int .i64 a) := by rw [b2.cell (by simp)]; simp
      have c1 : x.cell? ⟨w.heap.size, 1, none⟩ = some (.int .i64 n) := by rw [b2.cell (by simp)]; simp
      go_wp2_with fail
      refine (HU.out x (H1.out.below b2) c0 c1).mono ?_
      rintro e y ⟨ao, cap, rfl, -, -, b3⟩
      go_wp2
      go_ret2
      have hb3 := HB.out.trans ((b2.trans (b3.mono b2.size)).mono HB.out.size)
      exact ⟨rfl, (H1.out.below b2).below b3, Below.keeps hb3⟩
    rw [if_neg hq] at hA
    have hq' : (tk (fun j => j.wr && decide (j.b = (a, n))) d.jobs).length = 0 := by omega
    by_cases hf : 32 ≤ (tk (fun _ => true) d.jobs).length
    · rw [if_pos hf] at hA
      rw [hA]
      have HF := fun x hx => hfull x hx hf
      have H1 := hide h1
      have HB := hide b1
      have HU := hide hbusy
      have HQ := hide hq'
      clear hfull hroom h h1 hA hf b1 hbusy hq hq'
      go_enter Tryz.func70, Tryz.ntmps70
      go_wp2_with fail
      refine hr.mono ?_
      rintro e x ⟨rfl, b2⟩
      have c0 : x.cell? ⟨w.heap.size, 0, none⟩ = some (.int .i64 a) := by rw [b2.cell (by simp)]; simp
      have c1 : x.cell? ⟨w.heap.size, 1, none⟩ = some (.int .i64 n) := by rw [b2.cell (by simp)]; simp
      go_wp2_with fail
      refine (HU.out x (H1.out.below b2) c0 c1).mono ?_
      rintro e y ⟨ao, cap, rfl, -, -, b3⟩
      rw [HQ.out]
      have c0' : y.cell? ⟨w.heap.size, 0, none⟩ = some (.int .i64 a) := by rw [b3.cell (World.block_lt_of_cell? x _ c0)]; exact c0
      have c1' : y.cell? ⟨w.heap.size, 1, none⟩ = some (.int .i64 n) := by rw [b3.cell (World.block_lt_of_cell? x _ c1)]; exact c1
      have hy := (H1.out.below b2).below b3
      have HB3 := hide (HB.out.trans ((b2.trans (b3.mono b2.size)).mono HB.out.size))
      clear HU b2 b3
      go_wp2_with fail
      refine (HF y hy).mono ?_
      rintro e z ⟨rfl, b4⟩
      go_wp2
      go_ret2
      exact ⟨rfl, hy.below b4, Below.keeps (HB3.out.trans (b4.mono HB3.out.size))⟩
    · rw [if_neg hf] at hA
      rw [hA]
      simp only [if_true]
      have HF := fun x hx => hroom x hx hb (by omega) (by omega)
      have H1 := hide h1
      have HB := hide b1
      have HU := hide hbusy
      have HQ := hide hq'
      clear hfull hroom h h1 hA hf b1 hb hbusy hq hq'
      generalize d.jobs.length = J at *
      go_enter Tryz.func70, Tryz.ntmps70
      go_wp2_with fail
      refine hr.mono ?_
      rintro e x ⟨rfl, b2⟩
      have c0 : x.cell? ⟨w.heap.size, 0, none⟩ = some (.int .i64 a) := by rw [b2.cell (by simp)]; simp
      have c1 : x.cell? ⟨w.heap.size, 1, none⟩ = some (.int .i64 n) := by rw [b2.cell (by simp)]; simp
      go_wp2_with fail
      refine (HU.out x (H1.out.below b2) c0 c1).mono ?_
      rintro e y ⟨ao, cap, rfl, -, -, b3⟩
      rw [HQ.out]
      have c0' : y.cell? ⟨w.heap.size, 0, none⟩ = some (.int .i64 a) := by rw [b3.cell (World.block_lt_of_cell? x _ c0)]; exact c0
      have c1' : y.cell? ⟨w.heap.size, 1, none⟩ = some (.int .i64 n) := by rw [b3.cell (World.block_lt_of_cell? x _ c1)]; exact c1
      have hy := (H1.out.below b2).below b3
      have HB3 := hide (HB.out.trans ((b2.trans (b3.mono b2.size)).mono HB.out.size))
      clear HU b2 b3
      go_wp2_with fail
      refine (HF y hy).mono ?_
      rintro e z ⟨rfl, hd, k4⟩
      go_wp2
      go_ret2
      exact ⟨rfl, hd, (Below.keeps (S := InD t) HB3.out).trans k4 (fun _ _ h => h)⟩
  · rw [if_neg he] at hA
    rw [hA, if_neg he, if_neg he]
    have he' : (refE d (a, n) != 0) = true := by simpa using he
    have H1 := hide h1
    have HB := hide b1
    clear hok hT hD hfull hroom h h1 hA b1 he hbusy
    generalize refE d (a, n) = r at *
    go_enter Tryz.func70, Tryz.ntmps70
    go_wp2_with fail
    refine hr.mono ?_
    rintro e x ⟨rfl, b2⟩
    go_wp2
    go_ret2
    have hb3 := HB.out.trans (b2.mono HB.out.size)
    exact ⟨rfl, H1.out.below b2, Below.keeps hb3⟩
end Go.Proofs.YtfghfbmmaclcnaaGreat
