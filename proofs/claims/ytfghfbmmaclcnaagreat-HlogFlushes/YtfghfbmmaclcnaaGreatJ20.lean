/- Parts of the proof: Vc Vd Ve Vf Vg Vh Vi Vj. -/
import Derived.Test.YtfghfbmmaclcnaaGreatJ19
import Derived.Deep.RegionHeld3
namespace Go.Proofs.YtfghfbmmaclcnaaGreat
set_option maxRecDepth 20000
open Go.RowKit Go.Maps
section
variable {w : World} {o : Nat → Nat} {a : Ad} {c : Cf} {s : Hs} {f g : Int → Option Int} {k : Nat}
theorem Hg.hP (h : Hg w o a c s f g k) : s.P < 64 ∧ s.P < c.sp ∧ 1 ≤ c.sp ∧ c.sp ≤ 64 ∧ s.O ≤ 1024 := by
  obtain ⟨won, hw, ht⟩ := h.tl
  have := ht.hp; have := ht.hs; have := ht.ho
  omega
theorem Hg.hn (h : Hg w o a c s f g k) : 2 ≤ c.n ∧ c.n ≤ 8 := by
  obtain ⟨fb, g', o', hp⟩ := h.pb
  exact hp.hn
theorem i64_small {x : Int} (h1 : -9223372036854775808 ≤ x) (h2 : x ≤ 9223372036854775807) : IntKind.i64.wrap x = x := by
  simp only [IntKind.wrap, IntKind.bits, IntKind.signed]; simp; omega
theorem hl_tail (h : Hg w o a c s f g k) : Calls Tryz.prog 35 #[.pointer (some ⟨a.l, 0, none⟩)] w fun e w' => e = .returned (.pointer (some ⟨a.t, 0, none⟩)) ∧ w' = w := by
  have c0 := h.c0
  go_enter Tryz.func35, Tryz.ntmps35
  go_wp2
  go_ret
  exact ⟨rfl, rfl⟩
theorem hl_pages (h : Hg w o a c s f g k) : Calls Tryz.prog 12 #[.pointer (some ⟨a.l, 0, none⟩)] w fun e w' => e = .returned (.pointer (some ⟨a.bt, 0, none⟩)) ∧ w' = w := by
  have c1 := h.c1
  go_enter Tryz.func12, Tryz.ntmps12
  go_wp2
  go_ret
  exact ⟨rfl, rfl⟩
theorem hl_marks (h : Hg w o a c s f g k) : Calls Tryz.prog 14 #[.pointer (some ⟨a.l, 0, none⟩)] w fun e w' => e = .returned (.pointer (some ⟨a.mt, 0, none⟩)) ∧ w' = w := by
  have c2 := h.c2
  go_enter Tryz.func14, Tryz.ntmps14
  go_wp2
  go_ret
  exact ⟨rfl, rfl⟩
theorem hl_epoch (h : Hg w o a c s f g k) : Calls Tryz.prog 9 #[.pointer (some ⟨a.l, 0, none⟩)] w fun e w' => e = .returned (.pointer (some ⟨a.et, 0, none⟩)) ∧ w' = w := by
  have c3 := h.c3
  go_enter Tryz.func9, Tryz.ntmps9
  go_wp2
  go_ret
  exact ⟨rfl, rfl⟩
theorem hl_device (h : Hg w o a c s f g k) : Calls Tryz.prog 19 #[.pointer (some ⟨a.l, 0, none⟩)] w fun e w' => e = .returned (.pointer (some ⟨a.vt + 3, 0, none⟩)) ∧ w' = w := by
  have c5 := h.c5
  go_enter Tryz.func19, Tryz.ntmps19
  go_wp2
  go_ret
  exact ⟨rfl, rfl⟩
theorem hl_leaving (h : Hg w o a c s f g k) : Calls Tryz.prog 167 #[.pointer (some ⟨a.l, 0, none⟩)] w fun e w' => e = .returned (.int .i64 ((s.P : Int) + 1 - (c.n : Int))) ∧ Below w.heap.size w w' := by
  obtain ⟨won, hw, ht⟩ := h.tl
  have hP := h.hP
  have hn := h.hn
  have c0 := h.c0
  have c1 := h.c1
  have H := hide (h.drew 1)
  have HT := hide (ht.drew 1)
  clear ht h
  generalize hnn : c.n = n at *
  generalize s.P = P at *
  have w1 : IntKind.i64.wrap ((P : Int) + 1) = (P : Int) + 1 := i64_small (by omega) (by omega)
  have w2 : IntKind.i64.wrap ((P : Int) + 1 - (n : Int)) = (P : Int) + 1 - (n : Int) := i64_small (by omega) (by omega)
  go_enter Tryz.func167, Tryz.ntmps167
  go_wp2
  go_region_held3 (fun W => W.cell? ⟨a.l, 0, none⟩ = some (.pointer (some ⟨a.t, 0, none⟩)) ∧ W.cell? ⟨a.l, 1, none⟩ = some (.pointer (some ⟨a.bt, 0, none⟩))) (first | assumption | go_keep) (first | (go_at_call 39; refine (tPage HT.out).mono ?_; rintro e y ⟨rfl, b⟩; have HY := hide (H.out.below b); have q0 := HY.out.c0; have q1 := HY.out.c1; obtain ⟨fb, g', o', hp⟩ := HY.out.pb) | (go_at_call 165; refine (pb_frames hp).mono ?_; rintro e y2 ⟨rfl, hy2⟩; subst hy2))
  all_goals
    rw [hnn] at *
    go_wp2
    go_ret
    exact ⟨rfl, below_drewN (Below.refl _ _) 1 |>.trans b⟩
theorem hl_need (h : Hg w o a c s f g k) (nd : Nat) (hnd : nd = needN c s) : Calls Tryz.prog 88 #[.pointer (some ⟨a.l, 0, none⟩)] w fun e w' => e = .returned (.int .i64 (nd : Int)) ∧ Below w.heap.size w w' := by
  have hP := h.hP
  have hn := h.hn
  have hl := hl_leaving h
  unfold needN at hnd
  generalize c.n = n at *
  generalize s.P = P at *
  go_enter Tryz.func88, Tryz.ntmps88
  go_wp2_with fail
  refine hl.mono ?_
  rintro e x ⟨rfl, b⟩
  clear hl h
  go_wp2
  go_ret
  exact ⟨ret_int (by omega), b⟩
theorem hl_take (h : Hg w o a c s f g k) (n : Int) : Calls Tryz.prog 23 #[.pointer (some ⟨a.l, 0, none⟩), .int .i64 n] w fun e w' => e = .returned (.tuple #[.int .u64 (takeA (sizeN c.b) s.P s.O n : Int), .int .i64 (takeK (sizeN c.b) c.sp s.P s.O n : Int), .int .i64 (takeET (sizeN c.b) n)]) ∧ Gq w o a c { s with O := takeO (sizeN c.b) s.O n } f g k w' := by
  obtain ⟨won, hw, ht⟩ := h.tl
  have hk := tTake ht n
  have hl := hl_tail h
  go_enter Tryz.func23, Tryz.ntmps23
  go_wp2_with fail
  refine hl.mono ?_
  rintro e x ⟨rfl, rfl⟩
  go_wp2_with fail
  refine hk.mono ?_
  rintro e y ⟨rfl, hy, ky⟩
  have hq : Gq x o a c { s with O := takeO (sizeN c.b) s.O n } f g k y := h.setTl ky hy hw (Nat.le_refl _)
  clear hk hl ht hy ky h
  go_wp2
  go_ret3
  exact ⟨rfl, hq⟩
end
end Go.Proofs.YtfghfbmmaclcnaaGreat
namespace Go.Proofs.YtfghfbmmaclcnaaGreat
set_option maxRecDepth 20000
open Go.RowKit Go.Maps
set_option maxHeartbeats 1000000 in
theorem hl_has {w : World} {b : Nat} {f : Int → Option Int} (h : MapAs MI w b f) (p : Int) (B : Bool) (hB : B = true ↔ ∃ t, okI t ∧ f t = some p) :
    Calls Tryz.prog 98 #[.map (some b), .int .i64 p] w fun e w' => e = .returned (.bool B) ∧ Below w.heap.size w w' := by
  obtain ⟨w0, hr0, hrg0, hb0, hs0⟩ := h.range
  simp only [MI] at hr0
  have HB := hide hB
  clear hB h
  go_enter Tryz.func98, Tryz.ntmps98
  go_wp2
  go_loopw [9] (fun _ wr => ∃ left : Int → Bool, RangeAs MI wr b w.heap.size f left ∧ (∀ t, okI t → f t = some p → left t = true) ∧ Below w.heap.size w wr ∧ w.heap.size < wr.heap.size) (fun _ wr => wr.rangeLeft b w.heap.size)
  case atStart => exact ⟨_, hrg0, fun t _ e => by rw [e]; rfl, hb0, by omega⟩
  case round =>
    obtain ⟨left, hrg, hlf, hbel, hsz⟩ := hrel
    rcases hrg.next 0 with ⟨hl0, hrn⟩ | ⟨x, r, w1, hx, hlx, hfx, hrn, hrg1, hlt1, hg1, hs1, hen⟩
    · have hb : B = false := by
        cases e : B with
        | false => rfl
        | true =>
          obtain ⟨t, h1, h2⟩ := HB.out.1 e
          have := hlf t h1 h2
          rw [hl0 t h1] at this; cases this
      subst hb
      clear HB
      go_wp2
      go_ret
      exact ⟨rfl, hbel⟩
    · have hw1 : Below w.heap.size w w1 := hbel.grown hg1 hbel.size (fun k hk => by cases hk; exact Nat.le_refl _)
      simp only [MI] at hrn hen
      by_cases e : r = p
      · subst e
        have hb : B = true := HB.out.2 ⟨x, hx, hfx⟩
        subst hb
        clear HB
        go_wp2
        go_ret
        exact ⟨rfl, hw1⟩
      · have hlf' : ∀ t, okI t → f t = some p → (left t && !decide (t = x)) = true := fun t h1 h2 => by
          have h3 : t ≠ x := fun e' => by subst e'; rw [hfx] at h2; cases h2; exact e rfl
          rw [hlf t h1 h2]; simp [h3]
        go_wp2
        go_roundw
        case rel => exact ⟨_, hrg1, hlf', hw1, by omega⟩
        case measure => exact hlt1
section
variable {w : World} {o : Nat → Nat} {a : Ad} {c : Cf} {s : Hs} {k : Nat}
theorem fly_has {L : List Fy} (h : L.Pairwise (fun x y => x.t < y.t)) (ht : ∀ y ∈ L, okI y.t) (p : Int) : isL L p false = true ↔ ∃ t, okI t ∧ flyF L t = some p := by
  rw [isL_iff]
  constructor
  · rintro ⟨y, hy, h1, h2⟩
    exact ⟨y.t, ht y hy, (flyF_some h).2 ⟨y, hy, rfl, h2, h1⟩⟩
  · rintro ⟨t, -, h2⟩
    obtain ⟨y, hy, -, h3, h4⟩ := (flyF_some h).1 h2
    exact ⟨y, hy, h4, h3⟩
theorem lan_has {L : List Fy} (h : L.Pairwise (fun x y => x.t < y.t)) (ht : ∀ y ∈ L, okI y.t) (m : Nat) (p : Int) (hp : (m : Int) ≤ p) : isL L p true = true ↔ ∃ t, okI t ∧ lanF L m t = some p := by
  rw [isL_iff]
  constructor
  · rintro ⟨y, hy, h1, h2⟩
    exact ⟨y.t, ht y hy, (lanF_some h).2 ⟨y, hy, rfl, h2, hp, h1⟩⟩
  · rintro ⟨t, -, h2⟩
    obtain ⟨y, hy, -, h3, -, h4⟩ := (lanF_some h).1 h2
    exact ⟨y, hy, h4, h3⟩
theorem Wf.okt (h : Wf c s k) (hk : k ≤ 1000) : ∀ y ∈ s.L, okI y.t := fun y hy => by
  have := h.tk y hy
  have := h.few
  exact okI_small (by omega) (by omega)
theorem hl_flying (h : Hp w o a c s k) (hw : Wf c s k) (hk : k ≤ 1000) (p : Int) : Calls Tryz.prog 34 #[.pointer (some ⟨a.l, 0, none⟩), .int .i64 p] w fun e w' => e = .returned (.bool (isL s.L p false)) ∧ Below w.heap.size w w' := by
  have hh := hl_has h.fl p (isL s.L p false) (fly_has hw.tks (hw.okt hk) p)
  have c6 := h.c6
  generalize isL s.L p false = B at *
  go_enter Tryz.func34, Tryz.ntmps34
  go_wp2_with fail
  refine hh.mono ?_
  rintro e x ⟨rfl, b⟩
  go_wp2
  go_ret
  exact ⟨rfl, b⟩
theorem hl_sent (h : Hp w o a c s k) (hw : Wf c s k) (hk : k ≤ 1000) (p : Int) (hp : (s.m 2 : Int) ≤ p) : Calls Tryz.prog 68 #[.pointer (some ⟨a.l, 0, none⟩), .int .i64 p] w fun e w' => e = .returned (.bool (sentB s.L p)) ∧ Below w.heap.size w w' := by
  have hh := hl_has h.la p (isL s.L p true) (lan_has hw.tks (hw.okt hk) (s.m 2) p hp)
  have c7 := h.c7
  have HF := hide (fun x (b : Below w.heap.size w x) => hl_flying (h.below b) hw hk p)
  unfold sentB
  cases e : isL s.L p true with
  | true =>
    rw [e] at hh
    clear HF hw h
    simp only [Bool.true_or]
    go_enter Tryz.func68, Tryz.ntmps68
    go_wp2_with fail
    refine hh.mono ?_
    rintro e x ⟨rfl, b⟩
    go_wp2
    go_ret
    exact ⟨rfl, b⟩
  | false =>
    rw [e] at hh
    clear hw h
    simp only [Bool.false_or]
    generalize isL s.L p false = B at *
    go_enter Tryz.func68, Tryz.ntmps68
    go_wp2_with fail
    refine hh.mono ?_
    rintro e x ⟨rfl, b⟩
    go_wp2_with fail
    refine (HF.out x b).mono ?_
    rintro e y ⟨rfl, b2⟩
    go_wp2
    go_ret
    exact ⟨rfl, b.trans (b2.mono b.size)⟩
end
end Go.Proofs.YtfghfbmmaclcnaaGreat
namespace Go.Proofs.YtfghfbmmaclcnaaGreat
set_option maxRecDepth 20000
open Go.RowKit Go.Maps
theorem settleM_snoc (P : Nat) (m : Nat → Nat) (l : List A3) (x : A3) : settleM P m (l ++ [x]) = raiseV (settleM P m l) (if x.k = 1 then 1 else 4) x.p (P : Int) := by
  unfold settleM
  rw [List.foldl_append]; rfl
theorem raiseV_other (v : Nat → Nat) (i to T : Int) (j : Nat) (h : i.toNat ≠ j) : raiseV v i to T j = v j := by
  unfold raiseV
  split
  · exact upM_other _ _ _ _ (fun e => h e.symm)
  · rfl
theorem settleM_two (P : Nat) (m : Nat → Nat) (l : List A3) : settleM P m l 2 = m 2 := by
  induction l using snoc_ind with
  | h0 => rfl
  | h1 l x ih =>
    rw [settleM_snoc, raiseV_other _ _ _ _ _ (by split <;> decide), ih]
section
variable {w : World} {o : Nat → Nat} {a : Ad} {c : Cf} {s : Hs} {f g : Int → Option Int} {k : Nat}
set_option maxHeartbeats 1000000 in
theorem hl_settle (h : Hg w o a c s f g k) (hk : k ≤ 1000) (hl : s.due.length ≤ 16) (ha : ∀ x ∈ s.due, (x.k = 1 ∨ x.k = 2) ∧ 0 ≤ x.p ∧ x.p ≤ 64) :
    Calls Tryz.prog 33 #[.pointer (some ⟨a.l, 0, none⟩)] w fun e w' => e = .returned (.int .i64 (settleN c s : Int)) ∧ Gq w o a c (settleS c s) f g k w' := by
  have c3 := h.c3
  have c4 := h.c4
  have H1 := hide (h.drew 1)
  have hrl : (readyL (safeN c s : Int) s.due).length ≤ 16 := Nat.le_trans (readyL_length _ _) hl
  have HR : Hid (∀ j, j < (readyL (safeN c s : Int) s.due).length → (((getL (readyL (safeN c s : Int) s.due) j).k = 1 ∨ (getL (readyL (safeN c s : Int) s.due) j).k = 2) ∧ 0 ≤ (getL (readyL (safeN c s : Int) s.due) j).p ∧ (getL (readyL (safeN c s : Int) s.due) j).p ≤ 64)) := fun j hj => ha _ (readyL_get _ _ j hj).2
  have HS := hide (fun (m' : Nat → Nat) (e : m' = settleM s.P s.m (readyL (safeN c s : Int) s.due)) => (by rw [e]; rfl : ({ s with m := m', due := restL (safeN c s : Int) s.due } : Hs) = settleS c s))
  have HN : Hid (settleN c s = (readyL (safeN c s : Int) s.due).length) := rfl
  have HTk := hide (fun j (hj : j < (readyL (safeN c s : Int) s.due).length) => (by rw [getL_take _ _ hj, settleM_snoc] : settleM s.P s.m ((readyL (safeN c s : Int) s.due).take (j + 1)) = raiseV (settleM s.P s.m ((readyL (safeN c s : Int) s.due).take j)) (if (getL (readyL (safeN c s : Int) s.due) j).k = 1 then 1 else 4) (getL (readyL (safeN c s : Int) s.due) j).p (s.P : Int)))
  have HAl : Hid ((readyL (safeN c s : Int) s.due).take (readyL (safeN c s : Int) s.due).length = readyL (safeN c s : Int) s.due) := List.take_length
  have HSf : Hid (leastN s.now s.v c.ns - 1 = safeN c s) := rfl
  have HD := hide (fun (x : World) (o1 : Nat → Nat) (q : Hg x o1 a c s f g k) => drain_ready q.du hl (safeN c s : Int))
  have hmb : a.mb < w.heap.size := h.sz _ (by rw [h.om.2.2]; omega)
  have HW := hide h
  rw [HN.out]
  clear h ha hl
  generalize readyL (safeN c s : Int) s.due = R at *
  go_enter Tryz.func33, Tryz.ntmps33
  go_wp2
  go_region_held3 (fun W => W.cell? ⟨a.l, 3, none⟩ = some (.pointer (some ⟨a.et, 0, none⟩)) ∧ W.cell? ⟨a.l, 4, none⟩ = some (.pointer (some ⟨a.dt, 0, none⟩))) (first | assumption | go_keep) (first | (go_at_call 96; refine (safe_at H1.out.ep (by omega)).mono ?_; rintro e y ⟨rfl, b⟩; rw [HSf.out]; have HY := hide (H1.out.below b); have q3 := HY.out.c3; have q4 := HY.out.c4; have HBy := hide b) | (go_at_call 95; refine (HD.out _ _ HY.out).mono ?_; rintro e y2 ⟨ao, cap, rfl, has, hnew, hdu, hkp⟩; have HY2 := hide (HY.out.setDu hkp hdu); have r3 := hkp.cell HY.out.lt (by rw [HY.out.ol]; omega) (p := ⟨a.l, 3, none⟩) |>.trans q3; have r4 := hkp.cell HY.out.lt (by rw [HY.out.ol]; omega) (p := ⟨a.l, 4, none⟩) |>.trans q4))
  all_goals
    have HNW : Hid (∀ g off, ao = some ⟨g, off, none⟩ → w.heap.size ≤ g) := fun g off e => by have := hnew g off e; have := HBy.out.size; simp at this; omega
    have hq0 : Gq w o a c { s with due := restL (safeN c s : Int) s.due, m := settleM s.P s.m (R.take 0) } f g k y2 := Gq.after HW.out (below_drewN (Below.refl _ _) 1) (Gq.after H1.out HBy.out HY2.out)
    have HQ0 := hide hq0
    have hsr : (restL (safeN c s : Int) s.due) = (restL (safeN c s : Int) s.due) := rfl
    clear hq0 hsr HY HY2 HBy hnew hdu hkp q3 q4 r3 r4 HD H1 HSf c3 c4 HN
    generalize (restL (safeN c s : Int) s.due) = RS at *
    go_wp2
    go_loopw [21] (fun i wr => ∃ j : Nat, j ≤ R.length ∧ i = .int .i64 j ∧ Gq w o a c { s with due := RS, m := settleM s.P s.m (R.take j) } f g k wr ∧ As wr ao R.length (getL R)) (fun i _ => R.length - (intOf i).toNat)
    case atStart => exact ⟨0, Nat.zero_le _, rfl, HQ0.out, has⟩
    case round =>
      clear HQ0 has
      obtain ⟨j, hj, rfl, hq, has⟩ := hrel
      by_cases hlt : j < R.length
      · obtain ⟨hkk, hp0, hp1⟩ := HR.out j hlt
        have htk := HTk.out j hlt
        obtain ⟨b, off, rfl, e0, e1, e2⟩ := has j hlt
        have hb := HNW.out b off rfl
        obtain ⟨o1, H1, X1, K1⟩ := hq
        have HX := hide X1
        have HK := hide K1
        have HAS := hide has
        clear X1 K1 has HR HTk HNW
        generalize getL R j = A at *
        obtain ⟨ae, ak, ap⟩ := A
        simp only at hkk hp0 hp1 htk e0 e1 e2
        rcases hkk with hk1 | hk1
        · skip
          subst hk1
          simp only [if_true] at htk
          have HM := hide (fun x (q : Hg x o1 a c { s with due := RS, m := settleM s.P s.m (R.take j) } f g k) => mraise q.mm 1 ap (s.P : Int) (by omega))
          obtain ⟨m1, HTK2⟩ : ∃ m1, Hid (settleM s.P s.m (R.take (j + 1)) = m1) := ⟨_, rfl⟩
          rw [← htk, HTK2.out] at HM
          have H1h := hide H1
          have c0 := H1.c0
          have c2 := H1.c2
          have hbz := hide ((Below.refl wr.heap.size wr).alloc (Nat.le_refl _) (.cells #[.int .u64 ae, .int .i64 1, .int .i64 ap] 151))
          have HZ := hide (H1.below hbz.out)
          have HAZ := hide (HAS.out.below hbz.out)
          have z0 := cell_alloc c0 (.cells #[.int .u64 ae, .int .i64 1, .int .i64 ap] 151)
          have z1 := cell_alloc c2 (.cells #[.int .u64 ae, .int .i64 1, .int .i64 ap] 151)
          have z2 : (wr.alloc (.cells #[.int .u64 ae, .int .i64 1, .int .i64 ap] 151)).cell? ⟨wr.heap.size, 2, none⟩ = some (.int .i64 ap) := by simp
          have hbl : b < wr.heap.size := World.block_lt_of_cell? wr _ e0
          clear htk H1 c0 c2 HAS
          go_wp2
          clear e0 e1 e2
          generalize wr.alloc (.cells #[.int .u64 ae, .int .i64 1, .int .i64 ap] 151) = z at *
          generalize hwb : wr.heap.size = wb at *
          have HZ1 := hide (HZ.out.drew 1)
          go_region_held3 (fun W => W.cell? ⟨a.l, 0, none⟩ = some (.pointer (some ⟨a.t, 0, none⟩)) ∧ W.cell? ⟨a.l, 2, none⟩ = some (.pointer (some ⟨a.mt, 0, none⟩)) ∧ W.cell? ⟨wb, 2, none⟩ = some (.int .i64 ap)) (first | assumption | go_keep) (first | (go_at_call 39; obtain ⟨won, hw, ht⟩ := HZ1.out.tl; refine (tPage ht).mono ?_; rintro e y ⟨rfl, by1⟩; have HY := hide (HZ1.out.below by1); have q0 := HY.out.c0; have q2 := HY.out.c2; have q3 := (by1.cell (p := ⟨wb, 2, none⟩) (World.block_lt_of_cell? z _ z2)).trans z2; have HBy := hide ((below_drewN (Below.refl z.heap.size z) 1).trans by1); have HAY := hide (HAZ.out.below HBy.out)) | (go_at_call 97; refine (HM.out _ HY.out).mono ?_; rintro e y2 ⟨rfl, hm2, k2⟩; have HQ2 := hide (HY.out.setMk k2 hm2); have HA2 := hide (HAY.out.keep k2 (fun _ g off e => by cases e; omega)); have r0 := (k2.cell HY.out.lt (by have := HY.out.om.2.2; have := HY.out.ol; intro e; simp only at e; rw [e] at this; omega) (p := ⟨a.l, 0, none⟩)).trans q0; have r2 := (k2.cell HY.out.lt (by have := HY.out.om.2.2; have := HY.out.ol; intro e; simp only at e; rw [e] at this; omega) (p := ⟨a.l, 2, none⟩)).trans q2; have r3 := (k2.cell (by have := HBy.out.size; have := World.block_lt_of_cell? z _ z2; simp only at this ⊢; omega) (by simp only; omega) (p := ⟨wb, 2, none⟩)).trans q3))
          all_goals
            have HF := hide (Gq.trans HX.out HK.out (Gq.after (w' := z) H1h.out (by rw [hwb]; exact hbz.out) (Gq.after HZ.out HBy.out HQ2.out)))
            clear HQ2 HY HZ HZ1 HAY HAZ HM HX HK hbz HBy H1h
            go_wp2
            go_roundw
            case rel => exact ⟨j + 1, by omega, by go_num, by rw [HTK2.out]; exact HF.out, HA2.out⟩
            case measure => simp [intOf]; omega
        · skip
          subst hk1
          simp only [Int.reduceEq, if_false] at htk
          have HM := hide (fun x (q : Hg x o1 a c { s with due := RS, m := settleM s.P s.m (R.take j) } f g k) => mraise q.mm 4 ap (s.P : Int) (by omega))
          obtain ⟨m1, HTK2⟩ : ∃ m1, Hid (settleM s.P s.m (R.take (j + 1)) = m1) := ⟨_, rfl⟩
          rw [← htk, HTK2.out] at HM
          have H1h := hide H1
          have c0 := H1.c0
          have c2 := H1.c2
          have hbz := hide ((Below.refl wr.heap.size wr).alloc (Nat.le_refl _) (.cells #[.int .u64 ae, .int .i64 2, .int .i64 ap] 151))
          have HZ := hide (H1.below hbz.out)
          have HAZ := hide (HAS.out.below hbz.out)
          have z0 := cell_alloc c0 (.cells #[.int .u64 ae, .int .i64 2, .int .i64 ap] 151)
          have z1 := cell_alloc c2 (.cells #[.int .u64 ae, .int .i64 2, .int .i64 ap] 151)
          have z2 : (wr.alloc (.cells #[.int .u64 ae, .int .i64 2, .int .i64 ap] 151)).cell? ⟨wr.heap.size, 2, none⟩ = some (.int .i64 ap) := by simp
          have hbl : b < wr.heap.size := World.block_lt_of_cell? wr _ e0
          clear htk H1 c0 c2 HAS
          go_wp2
          clear e0 e1 e2
          generalize wr.alloc (.cells #[.int .u64 ae, .int .i64 2, .int .i64 ap] 151) = z at *
          generalize hwb : wr.heap.size = wb at *
          have HZ1 := hide (HZ.out.drew 1)
          go_region_held3 (fun W => W.cell? ⟨a.l, 0, none⟩ = some (.pointer (some ⟨a.t, 0, none⟩)) ∧ W.cell? ⟨a.l, 2, none⟩ = some (.pointer (some ⟨a.mt, 0, none⟩)) ∧ W.cell? ⟨wb, 2, none⟩ = some (.int .i64 ap)) (first | assumption | go_keep) (first | (go_at_call 39; obtain ⟨won, hw, ht⟩ := HZ1.out.tl; refine (tPage ht).mono ?_; rintro e y ⟨rfl, by1⟩; have HY := hide (HZ1.out.below by1); have q0 := HY.out.c0; have q2 := HY.out.c2; have q3 := (by1.cell (p := ⟨wb, 2, none⟩) (World.block_lt_of_cell? z _ z2)).trans z2; have HBy := hide ((below_drewN (Below.refl z.heap.size z) 1).trans by1); have HAY := hide (HAZ.out.below HBy.out)) | (go_at_call 97; refine (HM.out _ HY.out).mono ?_; rintro e y2 ⟨rfl, hm2, k2⟩; have HQ2 := hide (HY.out.setMk k2 hm2); have HA2 := hide (HAY.out.keep k2 (fun _ g off e => by cases e; omega)); have r0 := (k2.cell HY.out.lt (by have := HY.out.om.2.2; have := HY.out.ol; intro e; simp only at e; rw [e] at this; omega) (p := ⟨a.l, 0, none⟩)).trans q0; have r2 := (k2.cell HY.out.lt (by have := HY.out.om.2.2; have := HY.out.ol; intro e; simp only at e; rw [e] at this; omega) (p := ⟨a.l, 2, none⟩)).trans q2; have r3 := (k2.cell (by have := HBy.out.size; have := World.block_lt_of_cell? z _ z2; simp only at this ⊢; omega) (by simp only; omega) (p := ⟨wb, 2, none⟩)).trans q3))
          all_goals
            have HF := hide (Gq.trans HX.out HK.out (Gq.after (w' := z) H1h.out (by rw [hwb]; exact hbz.out) (Gq.after HZ.out HBy.out HQ2.out)))
            clear HQ2 HY HZ HZ1 HAY HAZ HM HX HK hbz HBy H1h
            go_wp2
            go_roundw
            case rel => exact ⟨j + 1, by omega, by go_num, by rw [HTK2.out]; exact HF.out, HA2.out⟩
            case measure => simp [intOf]; omega
      · have ej : j = R.length := by omega
        subst ej
        rw [HAl.out, HS.out _ rfl] at hq
        clear HR HTk HS HAl has HNW
        go_wp2
        go_ret
        exact ⟨rfl, hq⟩
end
end Go.Proofs.YtfghfbmmaclcnaaGreat
namespace Go.Proofs.YtfghfbmmaclcnaaGreat
set_option maxRecDepth 20000
open Go.RowKit Go.Maps
section
variable {w : World} {o : Nat → Nat} {a : Ad} {c : Cf} {s : Hs} {f g : Int → Option Int} {k : Nat}
set_option maxHeartbeats 1000000 in
theorem hl_shift (h : Hg w o a c s f g k) (hk : k ≤ 900) (hl : s.due.length ≤ 16) (ha : ∀ x ∈ s.due, (x.k = 1 ∨ x.k = 2) ∧ 0 ≤ x.p ∧ x.p ≤ 64) (mk kd page : Int) (hkd : kd = 1 ∨ kd = 2) (hpg : page ≤ 9223372036854775807) (hpp : raiseE s.m mk page s.P = 0 → 0 ≤ page ∧ page ≤ 64) :
    Calls Tryz.prog 90 #[.pointer (some ⟨a.l, 0, none⟩), .int .i64 mk, .int .i64 kd, .int .i64 page] w fun e w' => e = .returned (.int .i64 (shiftE s mk page)) ∧ Gq w o a c (shiftS c s mk kd page) f g (k + 1) w' := by
  have c0 := h.c0
  have c2 := h.c2
  have c4 := h.c4
  have hlen := drain_len h.du
  by_cases hf : 16 ≤ s.due.length
  · have e1 : shiftE s mk page = 9 := by unfold shiftE; rw [if_pos hf]
    have e2 : shiftS c s mk kd page = s := by unfold shiftS; rw [e1, if_neg (by decide)]
    have HQ := hide (h.here.more (Nat.le_succ k))
    rw [e1, e2]
    clear e1 e2 h
    generalize s.due.length = n at *
    go_enter Tryz.func90, Tryz.ntmps90
    go_wp2_with fail
    refine hlen.mono ?_
    rintro e x ⟨rfl, rfl⟩
    go_wp2
    go_ret
    exact ⟨rfl, HQ.out⟩
  · have e1 : shiftE s mk page = raiseE s.m mk page s.P := by unfold shiftE; rw [if_neg hf]
    have HM := hide (fun x o1 (q : Hg x o1 a c s f g k) => mraise q.mm mk page (s.P : Int) hpg)
    by_cases he : raiseE s.m mk page s.P = 0
    · have e2 : shiftS c s mk kd page = settleS c (bumpS s mk kd page) := by unfold shiftS; rw [e1, if_pos he]
      obtain ⟨hp0, hp1⟩ := hpp he
      have HST := hide (fun x o1 (q : Hg x o1 a c (bumpS s mk kd page) f g (k + 1)) => hl_settle q (by omega) (by simp [bumpS]; omega) (fun y hy => by
        rcases List.mem_append.1 hy with hy | hy
        · exact ha y hy
        · rw [List.mem_singleton.1 hy]; exact ⟨hkd, hp0, hp1⟩))
      have HPL : Hid (putL s.due ⟨(s.now : Int), kd, page⟩ = s.due ++ [⟨(s.now : Int), kd, page⟩]) := by unfold Hid putL; rw [if_neg hf]
      have HBS : Hid (({ s with m := raiseV s.m mk page s.P, now := s.now + 1, v := s.v, due := s.due ++ [⟨(s.now : Int), kd, page⟩] } : Hs) = bumpS s mk kd page) := rfl
      rw [e1, e2, he]
      rw [he] at HM
      have H := hide h
      have H1 := hide (h.drew 1)
      clear e1 e2 hpp he ha h hkd hpg
      generalize hln : s.due.length = n at *
      go_enter Tryz.func90, Tryz.ntmps90
      go_wp2_with fail
      refine hlen.mono ?_
      rintro e x ⟨rfl, rfl⟩
      go_wp2
      go_region_held3 (fun W => W.cell? ⟨a.l, 0, none⟩ = some (.pointer (some ⟨a.t, 0, none⟩)) ∧ W.cell? ⟨a.l, 2, none⟩ = some (.pointer (some ⟨a.mt, 0, none⟩))) (first | assumption | go_keep) (first | (go_at_call 39; obtain ⟨won, hw, ht⟩ := H1.out.tl; refine (tPage ht).mono ?_; rintro e y ⟨rfl, by1⟩; have HY := hide (H1.out.below by1); have q0 := HY.out.c0; have q2 := HY.out.c2; have HBy := hide ((below_drewN (Below.refl x.heap.size x) 1).trans by1)) | (go_at_call 97; refine (HM.out _ _ HY.out).mono ?_; rintro e y2 ⟨rfl, hm2, k2⟩; obtain ⟨o1, g1, X1, K1⟩ := HY.out.setMk k2 hm2; have r0 := g1.c0; have r2 := g1.c2; have HX1 := hide X1; have HK1 := hide K1; have G1 := hide g1))
      all_goals
        have c3 := g1.c3
        have hbm := bump_any g1.ep (by omega)
        have HPQ := hide (fun s' f' g' k' w'' (q : Gq y2 o1 a c s' f' g' k' w'') => Gq.after H.out HBy.out (Gq.trans X1 K1 q))
        clear HX1 HK1 X1 K1 g1 HM HY H1 c0 c2 c4 q0 q2 r0 r2 hm2 k2 HBy
        go_wp2_with fail
        refine hbm.mono ?_
        rintro e y3 ⟨rfl, ht3, k3⟩
        obtain ⟨o2, g3, X3, K3⟩ := G1.out.setEp k3 ht3 (Nat.le_succ k)
        have c4 := g3.c4
        have HP3 := hide (fun s' f' g' k' w'' (q : Gq y3 o2 a c s' f' g' k' w'') => HPQ.out _ _ _ _ _ (Gq.trans X3 K3 q))
        have G3 := hide g3
        have HPT := hide (fun z (b : Below y3.heap.size y3 z) => drain_put (G3.out.below b).du ⟨(s.now : Int), kd, page⟩)
        clear G1 HPQ hbm k3 ht3 X3 K3 g3 c3
        go_wp2_with fail
        refine (HPT.out _ (Below.refl _ _)).mono ?_
        rintro e y4 ⟨rfl, hd4, k4⟩
        obtain ⟨o4, g4, X4, K4⟩ := G3.out.setDu k4 hd4
        have HP4 := hide (fun s' f' g' k' w'' (q : Gq y4 o4 a c s' f' g' k' w'') => HP3.out _ _ _ _ _ (Gq.trans X4 K4 q))
        have g5 : Hg y4 o4 a c (bumpS s mk kd page) f g (k + 1) := by
          rw [HPL.out] at g4
          exact g4
        have hst := HST.out _ _ g5
        clear G3 HPT HP3 hd4 k4 X4 K4 g4 g5 HST HPL HBS c4
        generalize putEZ s.due = pe at *
        go_wp2_with fail
        refine hst.mono ?_
        rintro e y5 ⟨rfl, hq5⟩
        have HF := hide (HP4.out _ _ _ _ _ hq5)
        clear hst HP4 hq5
        go_wp2
        go_ret
        exact ⟨rfl, HF.out⟩
    · have e2 : shiftS c s mk kd page = s := by unfold shiftS; rw [e1, if_neg he]
      have hv : raiseV s.m mk page s.P = s.m := by unfold raiseV; rw [if_neg he]
      rw [e1, e2]
      rw [hv] at HM
      have H := hide h
      have H1 := hide (h.drew 1)
      clear e1 e2 hpp ha h hkd hpg hv
      generalize hln : s.due.length = n at *
      generalize raiseE s.m mk page s.P = re at *
      go_enter Tryz.func90, Tryz.ntmps90
      go_wp2_with fail
      refine hlen.mono ?_
      rintro e x ⟨rfl, rfl⟩
      go_wp2
      go_region_held3 (fun W => W.cell? ⟨a.l, 0, none⟩ = some (.pointer (some ⟨a.t, 0, none⟩)) ∧ W.cell? ⟨a.l, 2, none⟩ = some (.pointer (some ⟨a.mt, 0, none⟩))) (first | assumption | go_keep) (first | (go_at_call 39; obtain ⟨won, hw, ht⟩ := H1.out.tl; refine (tPage ht).mono ?_; rintro e y ⟨rfl, by1⟩; have HY := hide (H1.out.below by1); have q0 := HY.out.c0; have q2 := HY.out.c2; have HBy := hide ((below_drewN (Below.refl x.heap.size x) 1).trans by1)) | (go_at_call 97; refine (HM.out _ _ HY.out).mono ?_; rintro e y2 ⟨rfl, hm2, k2⟩; obtain ⟨o1, g1, X1, K1⟩ := HY.out.setMk k2 hm2; have r0 := g1.c0; have r2 := g1.c2; have HF := hide ((Gq.after H.out HBy.out (⟨o1, g1, X1, K1⟩ : Gq y o a c _ f g k y2)).more (Nat.le_succ k))))
      all_goals
        clear HM HY H1 c0 c2 c4 q0 q2 r0 r2 hm2 k2 HBy g1 X1 K1
        go_wp2
        go_ret
        exact ⟨rfl, HF.out⟩
end
end Go.Proofs.YtfghfbmmaclcnaaGreat
namespace Go.Proofs.YtfghfbmmaclcnaaGreat
set_option maxRecDepth 20000
open Go.RowKit Go.Maps
theorem settleS_L (c : Cf) (s : Hs) : (settleS c s).L = s.L := rfl
theorem settleS_two (c : Cf) (s : Hs) : (settleS c s).m 2 = s.m 2 := settleM_two _ _ _
theorem shiftS_L (c : Cf) (s : Hs) (mk kd page : Int) : (shiftS c s mk kd page).L = s.L := by unfold shiftS; split <;> rfl
theorem shiftS_two (c : Cf) (s : Hs) (mk kd page : Int) (h : mk.toNat ≠ 2) : (shiftS c s mk kd page).m 2 = s.m 2 := by
  unfold shiftS
  split
  · rw [settleS_two]
    exact raiseV_other _ _ _ _ _ h
  · rfl
theorem shift_page {c : Cf} {s : Hs} {k : Nat} (hw : Wf c s k) (hs : c.sp ≤ 64) (mk page : Int) (hm : mk = 0 ∨ mk = 3) (h : raiseE s.m mk page s.P = 0) : 0 ≤ page ∧ page ≤ 64 := by
  have h1 := hw.ord
  have h2 := hw.top
  have h3 := hw.hp
  unfold OrdM at h1
  unfold raiseE at h
  rcases hm with rfl | rfl
  · simp only [mostK] at h
    split at h; · omega
    split at h; · omega
    split at h; · omega
    rename_i q1 q2 q3
    simp at q2 q3
    all_goals omega
  · simp only [mostK] at h
    split at h; · omega
    split at h; · omega
    split at h; · omega
    rename_i q1 q2 q3
    simp at q2 q3
    have e3 : s.m (Int.toNat 3 - 1) = s.m 2 := rfl
    have e4 : s.m (Int.toNat 3) = s.m 3 := rfl
    all_goals omega
section
variable {w : World} {o : Nat → Nat} {a : Ad} {c : Cf} {s : Hs} {k : Nat}
theorem hl_shiftP (h : Hp w o a c s k) (hw : Wf c s k) (hk : k ≤ 900) (mk kd page : Int) (hm : mk = 0 ∨ mk = 3) (hkd : kd = 1 ∨ kd = 2) (hpg : page ≤ 9223372036854775807) :
    Calls Tryz.prog 90 #[.pointer (some ⟨a.l, 0, none⟩), .int .i64 mk, .int .i64 kd, .int .i64 page] w fun e w' => e = .returned (.int .i64 (shiftE s mk page)) ∧ Hq w o a c (shiftS c s mk kd page) (k + 1) w' := by
  have := hl_shift h hk hw.len hw.act mk kd page hkd hpg (shift_page hw h.hP.2.2.2.1 mk page hm)
  refine this.mono ?_
  rintro e w' ⟨rfl, hq⟩
  refine ⟨rfl, ?_⟩
  unfold Hq
  rw [shiftS_L, shiftS_two _ _ _ _ _ (by rcases hm with rfl | rfl <;> decide)]
  exact hq
theorem hl_shiftRO (h : Hp w o a c s k) (hw : Wf c s k) (hk : k ≤ 900) (page : Int) (hpg : page ≤ 9223372036854775807) :
    Calls Tryz.prog 30 #[.pointer (some ⟨a.l, 0, none⟩), .int .i64 page] w fun e w' => e = .returned (.int .i64 (shiftE s 0 page)) ∧ Hq w o a c (shiftS c s 0 1 page) (k + 1) w' := by
  have hs := hl_shiftP h hw hk 0 1 page (.inl rfl) (.inl rfl) hpg
  clear h hw
  go_enter Tryz.func30, Tryz.ntmps30
  go_wp2_with fail
  refine hs.mono ?_
  rintro e x ⟨rfl, hq⟩
  have HF := hide hq
  clear hq hs
  go_wp2
  go_ret
  exact ⟨rfl, HF.out⟩
theorem hl_shiftHd (h : Hp w o a c s k) (hw : Wf c s k) (hk : k ≤ 900) (page : Int) (hpg : page ≤ 9223372036854775807) :
    Calls Tryz.prog 31 #[.pointer (some ⟨a.l, 0, none⟩), .int .i64 page] w fun e w' => e = .returned (.int .i64 (shiftE s 3 page)) ∧ Hq w o a c (shiftS c s 3 2 page) (k + 1) w' := by
  have hs := hl_shiftP h hw hk 3 2 page (.inr rfl) (.inr rfl) hpg
  clear h hw
  go_enter Tryz.func31, Tryz.ntmps31
  go_wp2_with fail
  refine hs.mono ?_
  rintro e x ⟨rfl, hq⟩
  have HF := hide hq
  clear hq hs
  go_wp2
  go_ret
  exact ⟨rfl, HF.out⟩
theorem flyF_snoc {L : List Fy} (T p t : Int) (h : ∀ y ∈ L, y.t ≠ T) : flyF (L ++ [⟨T, p, false⟩]) t = if t = T then some p else flyF L t := by
  unfold flyF
  rw [List.find?_append]
  by_cases e : t = T
  · subst e
    have : L.find? (fun y => decide (y.t = t) && !y.l) = none := List.find?_eq_none.2 (fun y hy => by simp [h y hy])
    rw [this]
    simp
  · have e' : ¬ T = t := fun e' => e e'.symm
    rw [if_neg e]
    simp [e']
theorem lanF_snoc {L : List Fy} (m : Nat) (T p t : Int) : lanF (L ++ [⟨T, p, false⟩]) m t = lanF L m t := by
  unfold lanF
  rw [List.find?_append]
  simp
theorem pgW_in {P : Nat} {v : Nat → Int} (h : s.F (P % c.n) = some (P, v)) : pgW c s (P : Int) = some v := by
  unfold pgW
  rw [if_neg (by omega)]
  simp [h]
/-- A page from the mark of what is gone on, up to the tail's, is in. -/
theorem Wf.inm (hw : Wf c s k) {P : Nat} (h1 : s.m 4 ≤ P) (h2 : P ≤ s.P) : ∃ v, s.F (P % c.n) = some (P, v) := (hw.pg P).2 ⟨h2, by have := hw.win; omega⟩
end
end Go.Proofs.YtfghfbmmaclcnaaGreat
namespace Go.Proofs.YtfghfbmmaclcnaaGreat
set_option maxRecDepth 20000
open Go.RowKit Go.Maps
theorem mk_at {w : World} {t r b : Nat} {v : Nat → Nat} (h : MkAt w t r b v) (i : Nat) (I : Int) (hI : I = (i : Int)) (hi : i < 5) (x : Nat) (hx : v i = x) : Calls Tryz.prog 15 #[.pointer (some ⟨t, 0, none⟩), .int .i64 I] w fun e w' => e = .returned (.int .i64 (x : Int)) ∧ w' = w := by
  subst hI
  exact mat_yes h i hi x hx
section
variable {w : World} {o : Nat → Nat} {a : Ad} {c : Cf} {s : Hs} {k : Nat}
theorem hl_flush_neg (h : Hp w o a c s k) (p : Int) (hp : p < 0) :
    Calls Tryz.prog 24 #[.pointer (some ⟨a.l, 0, none⟩), .int .i64 p] w fun e w' => e = .returned (.tuple #[.int .i64 (flushT c s p), .int .i64 (flushE c s p)]) ∧ Hq w o a c (flushS c s p) (k + 1) w' := by
  have e1 : flushE c s p = 1 := by unfold flushE; rw [if_pos hp]
  have e2 : flushT c s p = 0 := by unfold flushT; rw [e1, if_neg (by decide)]
  have e3 : flushS c s p = s := by unfold flushS; rw [e1, if_neg (by decide)]
  rw [e1, e2, e3]
  have HF := hide (h.here.more (Nat.le_succ k))
  clear e1 e2 e3 h
  go_enter Tryz.func24, Tryz.ntmps24
  go_wp2
  go_ret2
  exact ⟨rfl, HF.out⟩
theorem hl_flush_low (h : Hp w o a c s k) (p : Int) (hp : 0 ≤ p) (hl : p < (s.m 2 : Int)) :
    Calls Tryz.prog 24 #[.pointer (some ⟨a.l, 0, none⟩), .int .i64 p] w fun e w' => e = .returned (.tuple #[.int .i64 (flushT c s p), .int .i64 (flushE c s p)]) ∧ Hq w o a c (flushS c s p) (k + 1) w' := by
  have e1 : flushE c s p = 8 := by unfold flushE; rw [if_neg (by omega), if_pos (.inl hl)]
  have e2 : flushT c s p = 0 := by unfold flushT; rw [e1, if_neg (by decide)]
  have e3 : flushS c s p = s := by unfold flushS; rw [e1, if_neg (by decide)]
  rw [e1, e2, e3]
  have HF := hide (h.here.more (Nat.le_succ k))
  have c2 := h.c2
  have hat := mk_at h.mm 2 2 rfl (by omega) _ rfl
  clear e1 e2 e3 h
  obtain ⟨m2, hm2⟩ : ∃ m2, s.m 2 = m2 := ⟨_, rfl⟩
  rw [hm2] at hat hl
  clear hm2
  go_enter Tryz.func24, Tryz.ntmps24
  go_wp2_with fail
  refine hat.mono ?_
  rintro e x ⟨rfl, rfl⟩
  go_wp2
  go_ret2
  exact ⟨rfl, HF.out⟩
theorem hl_flush_sent (h : Hp w o a c s k) (hw : Wf c s k) (hk : k ≤ 900) (p : Int) (hp : 0 ≤ p) (hl : (s.m 2 : Int) ≤ p) (hs : sentB s.L p = true) :
    Calls Tryz.prog 24 #[.pointer (some ⟨a.l, 0, none⟩), .int .i64 p] w fun e w' => e = .returned (.tuple #[.int .i64 (flushT c s p), .int .i64 (flushE c s p)]) ∧ Hq w o a c (flushS c s p) (k + 1) w' := by
  have e1 : flushE c s p = 8 := by unfold flushE; rw [if_neg (by omega), if_pos (.inr hs)]
  have e2 : flushT c s p = 0 := by unfold flushT; rw [e1, if_neg (by decide)]
  have e3 : flushS c s p = s := by unfold flushS; rw [e1, if_neg (by decide)]
  rw [e1, e2, e3]
  have HF := hide (fun x (b : Below w.heap.size w x) => (h.here.more (Nat.le_succ k)).below b)
  have c2 := h.c2
  have hat := mk_at h.mm 2 2 rfl (by omega) _ rfl
  have hst := hl_sent h hw (by omega) p hl
  rw [hs] at hst
  clear e1 e2 e3 h hw hs
  obtain ⟨m2, hm2⟩ : ∃ m2, s.m 2 = m2 := ⟨_, rfl⟩
  rw [hm2] at hat hl
  clear hm2
  go_enter Tryz.func24, Tryz.ntmps24
  go_wp2_with fail
  refine hat.mono ?_
  rintro e x ⟨rfl, rfl⟩
  go_wp2_with fail
  refine hst.mono ?_
  rintro e y ⟨rfl, b⟩
  go_wp2
  go_ret2
  exact ⟨rfl, HF.out _ b⟩
theorem hl_flush_over (h : Hp w o a c s k) (hw : Wf c s k) (hk : k ≤ 900) (p : Int) (hp : 0 ≤ p) (hl : (s.m 2 : Int) ≤ p) (hs : sentB s.L p = false) (ho : (s.m 1 : Int) ≤ p) :
    Calls Tryz.prog 24 #[.pointer (some ⟨a.l, 0, none⟩), .int .i64 p] w fun e w' => e = .returned (.tuple #[.int .i64 (flushT c s p), .int .i64 (flushE c s p)]) ∧ Hq w o a c (flushS c s p) (k + 1) w' := by
  have e1 : flushE c s p = 13 := by unfold flushE; rw [if_neg (by omega), if_neg (by rw [hs]; simp; omega), if_pos ho]
  have e2 : flushT c s p = 0 := by unfold flushT; rw [e1, if_neg (by decide)]
  have e3 : flushS c s p = s := by unfold flushS; rw [e1, if_neg (by decide)]
  rw [e1, e2, e3]
  have HF := hide (fun x (b : Below w.heap.size w x) => (h.here.more (Nat.le_succ k)).below b)
  have H := hide h
  have c2 := h.c2
  have hat := mk_at h.mm 2 2 rfl (by omega) _ rfl
  have hst := hl_sent h hw (by omega) p hl
  rw [hs] at hst
  clear e1 e2 e3 h hw hs
  obtain ⟨m2, hm2⟩ : ∃ m2, s.m 2 = m2 := ⟨_, rfl⟩
  rw [hm2] at hat hl
  clear hm2
  go_enter Tryz.func24, Tryz.ntmps24
  go_wp2_with fail
  refine hat.mono ?_
  rintro e x ⟨rfl, rfl⟩
  go_wp2_with fail
  refine hst.mono ?_
  rintro e y ⟨rfl, b⟩
  have hy := H.out.below b
  have c2y := hy.c2
  have hat1 := mk_at hy.mm 1 1 rfl (by omega) _ rfl
  clear hy
  obtain ⟨m1, hm1⟩ : ∃ m1, s.m 1 = m1 := ⟨_, rfl⟩
  rw [hm1] at hat1 ho
  clear hm1
  go_wp2_with fail
  refine hat1.mono ?_
  rintro e z ⟨rfl, rfl⟩
  go_wp2
  go_ret2
  exact ⟨rfl, HF.out _ b⟩
end
end Go.Proofs.YtfghfbmmaclcnaaGreat
namespace Go.Proofs.YtfghfbmmaclcnaaGreat
set_option maxRecDepth 20000
open Go.RowKit Go.Maps
section
variable {w : World} {o : Nat → Nat} {a : Ad} {c : Cf} {s : Hs} {k : Nat}
set_option maxHeartbeats 2000000 in
theorem hl_flush_run (h : Hp w o a c s k) (hw : Wf c s k) (hk : k ≤ 900) (p : Int) (P : Nat) (hpP : p = (P : Int)) (hl : (s.m 2 : Int) ≤ p) (hs : sentB s.L p = false) (ho : p < (s.m 1 : Int)) :
    Calls Tryz.prog 24 #[.pointer (some ⟨a.l, 0, none⟩), .int .i64 p] w fun e w' => e = .returned (.tuple #[.int .i64 (flushT c s p), .int .i64 (flushE c s p)]) ∧ Hq w o a c (flushS c s p) (k + 1) w' := by
  have hord := hw.ord
  have htop := hw.top
  have hP := h.hP
  unfold OrdM at hord
  obtain ⟨v, hF⟩ := hw.inm (P := P) (by omega) (by omega)
  have hpg := pgW_in hF
  rw [← hpP] at hpg
  have hpn : p.toNat = P := by omega
  obtain ⟨fb0, g0, o0, hpb⟩ := h.pb
  have hn := hpb.hn
  have hb := hpb.hb
  have hv := hw.wd (P % c.n) P v (Nat.mod_lt _ (by omega)) hF
  have hz1 := sizeN_pos hb
  have hz2 := sizeN_bounds c.b
  have hfew := hw.few
  have e1 : flushE c s p = askE s.dv (0, p) true (txt c P v) := by
    unfold flushE
    rw [if_neg (by omega), if_neg (by rw [hs]; simp; omega), if_neg (by omega), hpg, ← hpn]
  have e3 : flushS c s p = if askE s.dv (0, p) true (txt c P v) = 0 then { s with dv := askD s.dv (0, p) true (txt c P v), L := s.L ++ [⟨(s.dv.jobs.length : Int) + 1, p, false⟩] } else s := by
    unfold flushS
    rw [e1, hpg, hpn]
  have e2 : flushT c s p = askT s.dv (0, p) true (txt c P v) := by unfold flushT; rw [e1]; rfl
  rw [e1, e2, e3]
  have hokt := hw.okt (by omega : k ≤ 1000)
  have htn : ∀ y ∈ s.L, y.t ≠ (s.dv.jobs.length : Int) + 1 := fun y hy => by have := hw.tk y hy; omega
  have HFN := hide (fun t => flyF_snoc (L := s.L) ((s.dv.jobs.length : Int) + 1) p t htn)
  have HLN := hide (funext fun t => lanF_snoc (L := s.L) (s.m 2) ((s.dv.jobs.length : Int) + 1) p t)
  have HKEY : Hid (∀ x, okI x → flyF s.L x ≠ none → x ∈ s.L.map Fy.t) := fun x _ hx => by
    cases e : flyF s.L x with
    | none => exact absurd e hx
    | some q =>
      obtain ⟨y, hy, rfl, -, -⟩ := (flyF_some hw.tks).1 e
      exact List.mem_map.2 ⟨y, hy, rfl⟩
  have HKL : Hid ((s.L.map Fy.t).length ≤ 1001) := by
    have h1 : (s.L.map Fy.t).length ≤ ((List.range (s.dv.jobs.length + 1)).map fun (n : Nat) => (n : Int)).length := by
      refine nodup_len_le ?_ (fun x hx => ?_)
      · rw [List.nodup_iff_pairwise_ne, List.pairwise_map]
        exact hw.tks.imp (fun e => by omega)
      · obtain ⟨y, hy, rfl⟩ := List.mem_map.1 hx
        have := hw.tk y hy
        exact List.mem_map.2 ⟨y.t.toNat, List.mem_range.2 (by omega), by omega⟩
    rw [List.length_map, List.length_map, List.length_range] at h1
    unfold Hid
    rw [List.length_map]
    omega
  have HTX : Hid (strL (frT P (listN (fun j => (v j).toNat) (sizeN c.b))) = txt c P v) := rfl
  have HAT : Hid (askT s.dv (0, p) true (txt c P v) = if askE s.dv (0, p) true (txt c P v) = 0 then (s.dv.jobs.length : Int) + 1 else 0) := rfl
  have HAD : Hid (askD s.dv (0, p) true (txt c P v) = if askE s.dv (0, p) true (txt c P v) = 0 then { s.dv with jobs := s.dv.jobs ++ [⟨(0, p), true, txt c P v, false, 0⟩] } else s.dv) := rfl
  have HPK := hide (fun (y : World) (ao : Option Addr) (hsl : Sl .u64 y ao (sizeN c.b) v) => fpack_yes P ao (sizeN c.b) (sizeN c.b) (listN (fun j => (v j).toNat) (sizeN c.b)) y (listN_length _ _) (by omega) (by omega) hz2 (fun j hj => by
    obtain ⟨b, off, h1, h2⟩ := hsl j hj
    refine ⟨b, off, h1, ?_⟩
    rw [h2]
    show some (Value.int .u64 (v j)) = some (Value.int .u64 (((listN (fun j => (v j).toNat) (sizeN c.b))[j]?.getD 0 : Nat) : Int))
    rw [listN_get _ _ _ hj]
    have := (hv j hj).1
    rw [Int.toNat_of_nonneg this]))
  rw [HTX.out, ← hpP] at HPK
  have HPG := hide (fun x (b : Below w.heap.size w x) => by
    obtain ⟨fb1, g1, o1, hp1⟩ := (h.below b).pb
    exact pb_page_yes hp1 P v hF)
  rw [← hpP] at HPG
  have HWR := hide (fun x (b : Below w.heap.size w x) => device_write (h.below b).dv (0, p) (txt c P v) (by omega))
  have c2 := h.c2
  have hat := mk_at h.mm 2 2 rfl (by omega) _ rfl
  have hst := hl_sent h hw (by omega) p hl
  rw [hs] at hst
  have HOK := hide (fun (x : Int) (e : x = (s.dv.jobs.length : Int) + 1) => okI_small (x := x) (by omega) (by omega))
  obtain ⟨m2, hm2⟩ : ∃ m2, s.m 2 = m2 := ⟨_, rfl⟩
  rw [hm2] at hat hl
  have H := hide h
  clear hpP hpn hm2 e1 e2 e3 hw hs hpb hF hpg hv htn hord htop hokt h hfew hz1 hz2 hn hb hP
  generalize txt c P v = tx at *
  generalize sizeN c.b = sz at *
  by_cases hE : askE s.dv (0, p) true tx = 0
  · rw [if_pos hE]
    have HAT2 := HAT.out
    rw [if_pos hE] at HAT2
    rw [HAT2, hE] at HWR
    rw [HAT2, hE]
    obtain ⟨T, hT⟩ : ∃ T, (s.dv.jobs.length : Int) + 1 = T := ⟨_, rfl⟩
    rw [hT] at HWR HFN HLN ⊢
    have HOK2 := hide (HOK.out T hT.symm)
    clear HAT HAT2 hE HOK hT HAD
    generalize askD s.dv (0, p) true tx = D at *
    go_enter Tryz.func24, Tryz.ntmps24
    go_wp2_with fail
    refine hat.mono ?_
    rintro e x ⟨rfl, rfl⟩
    go_wp2_with fail
    refine hst.mono ?_
    rintro e y ⟨rfl, b⟩
    have hy := H.out.below b
    have c2y := hy.c2
    have c1y := hy.c1
    have hat1 := mk_at hy.mm 1 1 rfl (by omega) _ rfl
    have hpgy := HPG.out y b
    clear hy
    obtain ⟨m1, hm1⟩ : ∃ m1, s.m 1 = m1 := ⟨_, rfl⟩
    rw [hm1] at hat1 ho
    clear hm1
    go_wp2_with fail
    refine hat1.mono ?_
    rintro e z ⟨rfl, rfl⟩
    go_wp2_with fail
    refine hpgy.mono ?_
    rintro e y2 ⟨bb, rfl, hsl, b2⟩
    have hpk := HPK.out y2 _ hsl
    have hb2 := b.trans (b2.mono b.size)
    go_wp2_with fail
    refine hpk.mono ?_
    rintro e y3 ⟨rfl, b3⟩
    have hb3 := hb2.trans (b3.mono hb2.size)
    have hy3 := H.out.below hb3
    have c5 := hy3.c5
    have hwr := HWR.out y3 hb3
    have HY3 := hide hy3
    have HB3 := hide hb3
    clear hy3 hpk hpgy hst hat hat1 b b2 b3 hb2 hb3 HPK HPG HWR c2 c2y c1y hsl
    go_wp2_with fail
    refine hwr.mono ?_
    rintro e y4 ⟨rfl, hd4, k4⟩
    obtain ⟨o4, g4, X4, K4⟩ := HY3.out.setDv k4 hd4
    have c6 := g4.c6
    obtain ⟨y5, hrun, hmap, htu⟩ := g4.fl.store (s.L.map Fy.t) HKEY.out (Nat.lt_of_le_of_lt HKL.out (by decide)) HOK2.out p
    simp only [MI] at hrun
    have hq5 := g4.setFl (Keeps.turned htu) hmap
    have HF : Hid (Hq x o a c { s with dv := D, L := s.L ++ [⟨T, p, false⟩] } (k + 1) y5) := by
      have h1 := (Gq.after H.out HB3.out (Gq.trans X4 K4 hq5)).more (Nat.le_succ k)
      obtain ⟨o6, h2, X6, K6⟩ := h1
      refine ⟨o6, ?_, X6, K6⟩
      have h3 := h2.lists (s.L ++ [⟨T, p, false⟩])
      have e1 : flyF (s.L ++ [⟨T, p, false⟩]) = fun t => if t = T then some p else flyF s.L t := funext HFN.out
      have e2 : lanF (s.L ++ [⟨T, p, false⟩]) (s.m 2) = lanF s.L (s.m 2) := HLN.out
      show Hg y5 o6 a c _ (flyF (s.L ++ [⟨T, p, false⟩])) (lanF (s.L ++ [⟨T, p, false⟩]) (s.m 2)) (k + 1)
      rw [e1, e2]
      exact h3
    clear hq5 hmap htu g4 X4 K4 hd4 k4 hwr HKEY HKL HFN HLN H HB3 HY3
    go_wp2
    go_ret2
    exact ⟨rfl, HF.out⟩
  · rw [if_neg hE]
    rw [HAT.out, if_neg hE, HAD.out, if_neg hE] at HWR
    rw [HAT.out, if_neg hE]
    clear HAT HAD HOK HFN HLN HKEY HKL
    generalize askE s.dv (0, p) true tx = E at *
    go_enter Tryz.func24, Tryz.ntmps24
    go_wp2_with fail
    refine hat.mono ?_
    rintro e x ⟨rfl, rfl⟩
    go_wp2_with fail
    refine hst.mono ?_
    rintro e y ⟨rfl, b⟩
    have hy := H.out.below b
    have c2y := hy.c2
    have c1y := hy.c1
    have hat1 := mk_at hy.mm 1 1 rfl (by omega) _ rfl
    have hpgy := HPG.out y b
    clear hy
    obtain ⟨m1, hm1⟩ : ∃ m1, s.m 1 = m1 := ⟨_, rfl⟩
    rw [hm1] at hat1 ho
    clear hm1
    go_wp2_with fail
    refine hat1.mono ?_
    rintro e z ⟨rfl, rfl⟩
    go_wp2_with fail
    refine hpgy.mono ?_
    rintro e y2 ⟨bb, rfl, hsl, b2⟩
    have hpk := HPK.out y2 _ hsl
    have hb2 := b.trans (b2.mono b.size)
    go_wp2_with fail
    refine hpk.mono ?_
    rintro e y3 ⟨rfl, b3⟩
    have hb3 := hb2.trans (b3.mono hb2.size)
    have hy3 := H.out.below hb3
    have c5 := hy3.c5
    have hwr := HWR.out y3 hb3
    have HY3 := hide hy3
    have HB3 := hide hb3
    clear hy3 hpk hpgy hst hat hat1 b b2 b3 hb2 hb3 HPK HPG HWR c2 c2y c1y hsl
    have HF := hide (fun y4 (q : Gq y3 o a c s (flyF s.L) (lanF s.L (s.m 2)) k y4) => (Gq.after H.out HB3.out q).more (Nat.le_succ k))
    go_wp2_with fail
    refine hwr.mono ?_
    rintro e y4 ⟨rfl, hd4, k4⟩
    have HG := hide (HF.out _ (HY3.out.setDv k4 hd4))
    clear hd4 k4 HF hwr HY3 HB3 H
    go_wp2
    go_ret2
    exact ⟨rfl, HG.out⟩
end
end Go.Proofs.YtfghfbmmaclcnaaGreat
namespace Go.Proofs.YtfghfbmmaclcnaaGreat
set_option maxRecDepth 20000
open Go.RowKit Go.Maps
theorem firstU_at (L : List Fy) (j : Nat) (hj : sentB L (j : Int) = false) : ∀ (f a : Nat), a ≤ j → j < a + f → (∀ i, a ≤ i → i < j → sentB L (i : Int) = true) → firstU L a f = j
  | 0, a, h1, h2, _ => by omega
  | f + 1, a, h1, h2, h3 => by
    unfold firstU
    by_cases e : a = j
    · subst e
      rw [hj, if_neg (by decide)]
    · rw [h3 a (Nat.le_refl _) (by omega), if_pos rfl]
      exact firstU_at L j hj f (a + 1) (by omega) (by omega) (fun i g1 g2 => h3 i (by omega) g2)
theorem firstU_all (L : List Fy) : ∀ (f a : Nat), (∀ i, a ≤ i → i < a + f → sentB L (i : Int) = true) → firstU L a f = a + f
  | 0, a, _ => rfl
  | f + 1, a, h => by
    unfold firstU
    rw [h a (Nat.le_refl _) (by omega), if_pos rfl, firstU_all L f (a + 1) (fun i g1 g2 => h i (by omega) (by omega))]
    omega
section
variable {w : World} {o : Nat → Nat} {a : Ad} {c : Cf} {s : Hs} {k : Nat}
/-- Flush. -/
theorem hl_flush (h : Hp w o a c s k) (hw : Wf c s k) (hk : k ≤ 900) (p : Int) :
    Calls Tryz.prog 24 #[.pointer (some ⟨a.l, 0, none⟩), .int .i64 p] w fun e w' => e = .returned (.tuple #[.int .i64 (flushT c s p), .int .i64 (flushE c s p)]) ∧ Hq w o a c (flushS c s p) (k + 1) w' := by
  by_cases h0 : p < 0
  · exact hl_flush_neg h p h0
  by_cases h1 : p < (s.m 2 : Int)
  · exact hl_flush_low h p (by omega) h1
  cases h2 : sentB s.L p with
  | true => exact hl_flush_sent h hw hk p (by omega) (by omega) h2
  | false =>
    by_cases h3 : (s.m 1 : Int) ≤ p
    · exact hl_flush_over h hw hk p (by omega) (by omega) h2 h3
    · exact hl_flush_run h hw hk p p.toNat (by omega) (by omega) h2 (by omega)
set_option maxHeartbeats 1000000 in
theorem hl_flushFirst (h : Hp w o a c s k) (hw : Wf c s k) (hk : k ≤ 900) (nd : Nat) (hnd : nd ≤ 100) (hm : s.m 2 ≤ nd) (B : Bool) (S' : Hs)
    (hB : B = if firstU s.L (s.m 2) (nd - s.m 2) < nd then decide (flushE c s (firstU s.L (s.m 2) (nd - s.m 2) : Nat) = 0) else false) (hS : S' = if firstU s.L (s.m 2) (nd - s.m 2) < nd then flushS c s (firstU s.L (s.m 2) (nd - s.m 2) : Nat) else s) :
    Calls Tryz.prog 89 #[.pointer (some ⟨a.l, 0, none⟩), .int .i64 (nd : Int)] w fun e w' => e = .returned (.bool B) ∧ Hq w o a c S' (k + 1) w' := by
  have HY : Hid (∀ j, s.m 2 ≤ j → j < nd → (∀ i, s.m 2 ≤ i → i < j → sentB s.L (i : Int) = true) → sentB s.L (j : Int) = false → B = decide (flushE c s (j : Int) = 0) ∧ S' = flushS c s (j : Int)) := fun j h1 h2 h3 h4 => by
    have e := firstU_at s.L j h4 (nd - s.m 2) (s.m 2) h1 (by omega) h3
    rw [e, if_pos h2] at hB hS
    exact ⟨hB, hS⟩
  have HN : Hid ((∀ i, s.m 2 ≤ i → i < nd → sentB s.L (i : Int) = true) → B = false ∧ S' = s) := fun h3 => by
    have e := firstU_all s.L (nd - s.m 2) (s.m 2) (fun i g1 g2 => h3 i g1 (by omega))
    rw [e, if_neg (by omega)] at hB hS
    exact ⟨hB, hS⟩
  have HSE := hide (fun x (b : Below w.heap.size w x) (j : Nat) (hj : s.m 2 ≤ j) => hl_sent (h.below b) hw (by omega) (j : Int) (by omega))
  have HFL := hide (fun x (b : Below w.heap.size w x) (j : Nat) => hl_flush (h.below b) hw hk (j : Int))
  have HG := hide (fun x (b : Below w.heap.size w x) S' k' w'' (q : Hq x o a c S' k' w'') => Gq.after h b q)
  have H0 := hide (fun x (b : Below w.heap.size w x) => (h.here.more (Nat.le_succ k)).below b)
  have c2 := h.c2
  obtain ⟨m2, hm2⟩ : ∃ m2, s.m 2 = m2 := ⟨_, rfl⟩
  have hat := mk_at h.mm 2 2 rfl (by omega) m2 hm2
  rw [hm2] at HY HN HSE hm
  clear hB hS hw h hm2
  go_enter Tryz.func89, Tryz.ntmps89
  go_wp2_with fail
  refine hat.mono ?_
  rintro e x ⟨rfl, rfl⟩
  clear hat
  go_wp2
  go_loopw [5] (fun v wr => ∃ j : Nat, m2 ≤ j ∧ j ≤ nd ∧ v = .int .i64 j ∧ Hid (∀ i, m2 ≤ i → i < j → sentB s.L (i : Int) = true) ∧ Below x.heap.size x wr) (fun v _ => nd - (intOf v).toNat)
  case atStart => exact ⟨m2, Nat.le_refl _, hm, rfl, fun i h1 h2 => by omega, Below.refl _ _⟩
  case round =>
    obtain ⟨j, hj1, hj2, rfl, hall, hbel⟩ := hrel
    by_cases hlt : j < nd
    · have hse := HSE.out wr hbel j hj1
      cases hs : sentB s.L (j : Int) with
      | true =>
        rw [hs] at hse
        have HALL : Hid (∀ i, m2 ≤ i → i < j + 1 → sentB s.L (i : Int) = true) := fun i h1 h2 => by
          by_cases e : i = j
          · subst e; exact hs
          · exact hall.out i h1 (by omega)
        clear hs HY HN HFL HG H0 hall
        go_wp2_with fail
        refine hse.mono ?_
        rintro e y ⟨rfl, b⟩
        have hby := hbel.trans (b.mono hbel.size)
        clear hse b
        go_wp2
        go_roundw
        case rel => exact ⟨j + 1, by omega, by omega, by go_num, HALL.out, hby⟩
        case measure => simp [intOf]; omega
      | false =>
        rw [hs] at hse
        obtain ⟨hB, hS⟩ := HY.out j hj1 hlt hall.out hs
        have HFj := hide (fun x b => (by have := HFL.out x b j; rw [← hS] at this; exact this : Calls Tryz.prog 24 #[.pointer (some ⟨a.l, 0, none⟩), .int .i64 (j : Int)] x fun e w' => e = .returned (.tuple #[.int .i64 (flushT c s (j : Int)), .int .i64 (flushE c s (j : Int))]) ∧ Hq x o a c S' (k + 1) w'))
        have HBE := hide hB
        clear hs HY HN hall HFL HSE hB hS
        generalize flushE c s (j : Int) = E at *
        generalize flushT c s (j : Int) = T1 at *
        go_wp2_with fail
        refine hse.mono ?_
        rintro e y ⟨rfl, b⟩
        have hby := hbel.trans (b.mono hbel.size)
        have hfl := HFj.out y hby
        clear hse b HFj
        go_wp2_with fail
        refine hfl.mono ?_
        rintro e y2 ⟨rfl, hq⟩
        have HF := hide (HG.out y hby _ _ _ hq)
        clear hq hfl HG H0
        go_wp2
        go_ret
        exact ⟨ret_bool (by rw [HBE.out]; rfl), HF.out⟩
    · have ej : j = nd := by omega
      subst ej
      obtain ⟨hB, hS⟩ := HN.out hall.out
      subst hB hS
      clear HY HN hall HFL HSE HG
      go_wp2
      go_ret
      exact ⟨rfl, H0.out _ hbel⟩
end
end Go.Proofs.YtfghfbmmaclcnaaGreat
