/- Parts of the proof: Bk. -/
import Derived.Test.YtikpphbgjbfddaaJ55
import Derived.Test.YtikpphbgjbfddaaJ56
import Derived.Test.YtikpphbgjbfddaaJ57
namespace Go.Proofs.Ytikpphbgjbfddaa
set_option maxRecDepth 20000
open Go.RowKit
section
variable {w w' : World} {M R S : Nat → Prop} {t p N n k g nx sn : Nat} {x : Wk} {c : Ce} {ml : List Nat}
theorem keeps_one {y y' : World} (h : Keeps (fun i => i = p) y y') (hp : M p) : Keeps (fun i => M i ∨ S i) y y' := h.wider (fun i _ e => .inl (by rw [e]; exact hp))
theorem keeps_two {y y' : World} (h : Keeps (fun i => i = p ∨ i = g) y y') (hp : M p) (hg : M g) : Keeps (fun i => M i ∨ S i) y y' := h.wider (fun i _ e => .inl (by rcases e with rfl | rfl; exact hp; exact hg))
theorem keeps_buf {y y' : World} (h : Keeps (fun i => i = p ∨ S i) y y') (hp : M p) : Keeps (fun i => M i ∨ S i) y y' := h.wider (fun i _ e => e.imp (fun q => by rw [q]; exact hp) id)
theorem pw_moveW (h : PW w M t p N n x) (hb : InBuf w S t k N c) (hMS : ∀ i, M i → ¬ S i) (hc : CeOk N c) (hr : x.rd = false) (hk : k ≤ 100000) (hh : x.holds = true → c.lk = true ∧ x.tk = c.ct) :
    Calls Try.prog 23 #[.pointer (some ⟨p, 0, none⟩)] w fun e w' => e = .returned (.tuple #[.int .i64 ((wkMove c x).1 : Int), .int .i64 0]) ∧ PW w' (More M w w') t p N n (wkMove c x).2.2 ∧ InBuf w' S t (k + 1) N (wkMove c x).2.1 ∧ Keeps (fun i => M i ∨ S i) w w' := by
  obtain ⟨g, nx, sn, ml, h⟩ := h
  obtain ⟨wn, wsn, wml⟩ := h.wr hr
  have ha := h.at'
  have hSp := hMS p h.mp
  have hSg := hMS g h.mg
  have had : adV x n = .bool x.ad := by unfold adV; rw [if_neg (by rw [hr]; decide)]
  by_cases hd : x.dn = true
  · rw [show wkMove c x = (2, c, x) by unfold wkMove; rw [if_pos hd]]
    rw [show stW x N = 4 by unfold stW; rw [if_pos hd]] at ha
    refine (wm_four ha).mono ?_
    rintro e w' ⟨rfl, rfl⟩
    exact ⟨rfl, pw_same ⟨g, nx, sn, ml, h⟩ (Below.refl _ _), hb.up (Nat.le_succ k), Keeps.refl _ _⟩
  · have hd' : x.dn = false := by simpa using hd
    have hrn : ¬ x.rd = true := by rw [hr]; decide
    by_cases h0 : x.mv = 0
    · have hst : stW x N = 0 := by unfold stW; rw [if_neg hd, if_pos h0]
      rw [hst] at ha
      by_cases hl : c.lk = true
      · rw [show wkMove c x = (3, c, x) by unfold wkMove; rw [if_neg hd, if_neg hrn, if_pos h0, if_pos hl]]
        refine wm_zero ha ((wb_busy ha hb hc.ct hl).mono ?_)
        rintro e w' ⟨rfl, hbl⟩
        exact ⟨rfl, pw_same ⟨g, nx, sn, ml, h⟩ hbl, (hb.below hbl).up (Nat.le_succ k), Below.keeps hbl⟩
      · have hl' : c.lk = false := by simpa using hl
        rw [show wkMove c x = (1, { c with lk := true }, { x with mv := 1, tk := c.ct }) by unfold wkMove; rw [if_neg hd, if_neg hrn, if_pos h0, if_neg hl]]
        rw [had] at ha
        refine wm_zero ha ((wb_take ha hb hSp hk hc.ct hl').mono ?_)
        rintro e w' ⟨rfl, ha', hb', hk'⟩
        have hat : x.at = 0 := by unfold Wk.at; omega
        have hat' : Wk.at { x with mv := 1, tk := c.ct } = 0 := by show 1 - 1 - _ = 0; omega
        have hsw : stW { x with mv := 1, tk := c.ct } N = (if x.ad = true then 1 else onN nx N) := by
          unfold stW
          rw [if_neg hd, if_neg (show ¬ (1 : Nat) = 0 by decide), if_neg hrn, hat', wn, hat]
          by_cases q : x.ad = true
          · rw [if_pos q, if_pos ⟨q, rfl⟩]
          · rw [if_neg q, if_neg (fun e => q e.1)]
        refine ⟨rfl, h.next hk'.size (by rw [hsw, had]; exact ha') (own_keep h.own hk' (fun q hq e => ?_)) h.len rfl rfl h.em (fun _ => ⟨by rw [hat', wn, hat], fun _ => rfl, ?_⟩) (fun e => absurd e hrn), hb', keeps_buf hk' h.mp⟩
        · cases hq
          rcases e with e | e
          · exact h.gp e
          · exact hSg e
        · rw [wml]
          show (if x.ad = true ∧ x.mv ≤ 1 then [x.n] else x.l) = if x.ad = true ∧ 1 ≤ 1 then [x.n] else x.l
          rw [h0]
          by_cases q : x.ad = true
          · rw [if_pos ⟨q, by omega⟩, if_pos ⟨q, by omega⟩]
          · rw [if_neg (fun e => q e.1), if_neg (fun e => q e.1)]
    · have hhx : x.holds = true := by
        have : 0 < x.mv := by omega
        simp [Wk.holds, hr, hd', this]
      obtain ⟨hlk, htk⟩ := hh hhx
      have hsn := wsn hhx
      by_cases h1 : x.ad = true ∧ x.mv = 1
      · obtain ⟨e8, eN⟩ := h.a8 h1.1
        rw [show wkMove c x = (1, c, { x with l := [sumW (c.l.getD 0 0) x.n], mv := 2 }) by unfold wkMove; rw [if_neg hd, if_neg hrn, if_neg h0, if_pos h1]]
        rw [show stW x N = 1 by unfold stW; rw [if_neg hd, if_neg h0, if_neg hrn, if_pos h1]] at ha
        have hat : x.at = 0 := by unfold Wk.at; omega
        have hat' : Wk.at { x with l := [sumW (c.l.getD 0 0) x.n], mv := 2 } = 0 := by
          show 2 - 1 - (if x.ad = true then 1 else 0) = 0
          rw [if_pos h1.1]
        rw [wn, hat] at ha
        refine wm_one ha ((wa_any ha hb (by omega) h.own h.len h.gp).mono ?_)
        rintro e w' ⟨rfl, ha', ho', hk'⟩
        have hml : ml.set 0 (sumW (ml.getD 0 0) (c.l.getD 0 0)) = [sumW (c.l.getD 0 0) x.n] := by
          rw [wml, if_pos ⟨h1.1, by omega⟩]
          show [sumW x.n (c.l.getD 0 0)] = _
          unfold sumW
          rw [Nat.add_comm]
        rw [hml] at ho'
        have hsw : stW { x with l := [sumW (c.l.getD 0 0) x.n], mv := 2 } N = onN 0 N := by
          unfold stW
          rw [if_neg hd, if_neg (show ¬ (2 : Nat) = 0 by decide), if_neg hrn, if_neg (fun e => absurd e.2 (show ¬ (2 : Nat) = 1 by decide)), hat']
        refine ⟨rfl, h.next hk'.size (by rw [hsw]; exact ha') ho' (by rw [eN]; rfl) rfl rfl (fun i q1 q2 => by omega) (fun _ => ⟨hat'.symm, fun _ => hsn, ?_⟩) (fun e => absurd e hrn), (hb.keep hk' (fun i hi e => ?_)).up (Nat.le_succ k), keeps_two hk' h.mp h.mg⟩
        · show _ = if x.ad = true ∧ 2 ≤ 1 then [x.n] else [sumW (c.l.getD 0 0) x.n]
          rw [if_neg (fun e => absurd e.2 (by omega))]
        · rcases e with rfl | rfl
          · exact hSp hi
          · exact hSg hi
      · have hst : stW x N = onN x.at N := by unfold stW; rw [if_neg hd, if_neg h0, if_neg hrn, if_neg h1]
        have hml : ml = x.l := by
          rw [wml, if_neg (fun e => h1 ⟨e.1, by omega⟩)]
        have hll : x.l.length = N := by rw [← hml]; exact h.len
        rw [hst] at ha
        by_cases h2 : x.at < x.l.length
        · rw [show wkMove c x = (1, { c with l := c.l.set x.at (x.l.getD x.at 0) }, { x with mv := x.mv + 1 }) by unfold wkMove; rw [if_neg hd, if_neg hrn, if_neg h0, if_neg h1, if_pos h2]]
          rw [show onN x.at N = 2 from if_pos (by omega), wn] at ha
          have hw := ww_any ha hb (by omega) h.own h.len hc.len hSp hSg
          rw [hml] at hw
          refine wm_two ha (hw.mono ?_)
          rintro e w' ⟨rfl, ha', hb', hk'⟩
          have hat' : Wk.at { x with mv := x.mv + 1 } = x.at + 1 := by
            show x.mv + 1 - 1 - (if x.ad = true then 1 else 0) = x.mv - 1 - (if x.ad = true then 1 else 0) + 1
            by_cases q : x.ad = true
            · have : x.mv ≠ 1 := fun e => h1 ⟨q, e⟩
              rw [if_pos q]; omega
            · rw [if_neg q]; omega
          have hsw : stW { x with mv := x.mv + 1 } N = onN (x.at + 1) N := by
            unfold stW
            rw [if_neg hd, if_neg (show ¬ x.mv + 1 = 0 by omega), if_neg hrn, if_neg (fun e => absurd e.2 (show ¬ x.mv + 1 = 1 by omega)), hat']
          refine ⟨rfl, h.next hk'.size (by rw [hsw]; exact ha') (own_keep h.own hk' (fun q hq e => ?_)) h.len rfl rfl h.em (fun _ => ⟨hat'.symm, fun _ => hsn, ?_⟩) (fun e => absurd e hrn), hb', keeps_buf hk' h.mp⟩
          · cases hq
            rcases e with e | e
            · exact h.gp e
            · exact hSg e
          · show ml = if x.ad = true ∧ x.mv + 1 ≤ 1 then [x.n] else x.l
            rw [if_neg (fun e => absurd e.2 (by omega))]; exact hml
        · rw [show wkMove c x = (2, { c with lk := false, ct := (c.ct + 1) % 4294967296 }, { x with dn := true }) by unfold wkMove; rw [if_neg hd, if_neg hrn, if_neg h0, if_neg h1, if_neg h2]]
          rw [show onN x.at N = 3 from if_neg (by omega), hsn] at ha
          refine wm_three ha ((we_any ha hb htk hc.ct hSp).mono ?_)
          rintro e w' ⟨rfl, ha', hb', hk'⟩
          have hsw : stW { x with dn := true } N = 4 := by unfold stW; rw [if_pos rfl]
          refine ⟨rfl, h.next hk'.size (by rw [hsw]; exact ha') (own_keep h.own hk' (fun q hq e => ?_)) h.len rfl rfl h.em (fun _ => ⟨wn, fun _ => rfl, wml⟩) (fun e => absurd e hrn), hb', keeps_buf hk' h.mp⟩
          cases hq
          rcases e with e | e
          · exact h.gp e
          · exact hSg e
theorem pw_moveR (h : PW w M t p N n x) (hb : InBuf w S t k N c) (hMS : ∀ i, M i → ¬ S i) (hc : CeOk N c) (hx : WkOk N x) (hr : x.rd = true) :
    Calls Try.prog 24 #[.pointer (some ⟨p, 0, none⟩)] w fun e w' => e = .returned (.tuple #[.int .i64 ((wkMove c x).1 : Int), .int .i64 0]) ∧ PW w' (More M w w') t p N n (wkMove c x).2.2 ∧ InBuf w' S t (k + 1) N (wkMove c x).2.1 ∧ Keeps (fun i => M i ∨ S i) w w' := by
  obtain ⟨g, nx, sn, ml, h⟩ := h
  have ha := h.at'
  have hSp := hMS p h.mp
  have hSg := hMS g h.mg
  have hgk : ∀ {y y' : World}, Keeps (fun i => i = p) y y' → (y.ownsRow 0 43 1 (.slice (some ⟨g, 0, none⟩) N N) N (uintsN ml)) → y'.ownsRow 0 43 1 (.slice (some ⟨g, 0, none⟩) N N) N (uintsN ml) := fun hk ho => own_keep ho hk (fun q hq e => h.gp (by cases hq; exact e))
  have hbk : ∀ {y : World}, Keeps (fun i => i = p) w y → InBuf y S t (k + 1) N c := fun hk => (hb.keep hk (fun i hi e => hSp (by rw [← e]; exact hi))).up (Nat.le_succ k)
  have hrf : x.rd = false → False := fun e => by rw [hr] at e; cases e
  by_cases hd : x.dn = true
  · rw [show wkMove c x = (2, c, x) by unfold wkMove; rw [if_pos hd]]
    rw [show stW x N = 4 by unfold stW; rw [if_pos hd]] at ha
    refine (rm_four ha).mono ?_
    rintro e w' ⟨rfl, rfl⟩
    exact ⟨rfl, pw_same ⟨g, nx, sn, ml, h⟩ (Below.refl _ _), hb.up (Nat.le_succ k), Keeps.refl _ _⟩
  · by_cases h0 : x.mv = 0
    · have hst : stW x N = 0 := by unfold stW; rw [if_neg hd, if_pos h0]
      rw [hst] at ha
      by_cases hl : c.lk = true
      · rw [show wkMove c x = (3, c, x) by unfold wkMove; rw [if_neg hd, if_pos hr, if_pos h0, if_pos hl]]
        refine rm_zero ha ((rb_busy ha hb hc.ct hl).mono ?_)
        rintro e w' ⟨rfl, hbl⟩
        exact ⟨rfl, pw_same ⟨g, nx, sn, ml, h⟩ hbl, (hb.below hbl).up (Nat.le_succ k), Below.keeps hbl⟩
      · have hl' : c.lk = false := by simpa using hl
        rw [show wkMove c x = (1, c, { x with sn := c.ct, gt := [], mv := 1 }) by unfold wkMove; rw [if_neg hd, if_pos hr, if_pos h0, if_neg hl]]
        refine rm_zero ha ((rb_take ha hb hc.ct hl').mono ?_)
        rintro e w' ⟨rfl, ha', hk'⟩
        have hsw : stW { x with sn := c.ct, gt := [], mv := 1 } N = onN 0 N := by
          unfold stW
          rw [if_neg hd, if_neg (show ¬ (1 : Nat) = 0 by decide), if_pos hr]; rfl
        exact ⟨rfl, h.next hk'.size (by rw [hsw]; exact ha') (hgk hk' h.own) h.len rfl rfl h.em (fun e => (hrf e).elim) (fun _ _ => ⟨rfl, rfl, fun j hj => absurd hj (Nat.not_lt_zero j)⟩), hbk hk', keeps_one hk' h.mp⟩
    · obtain ⟨rn, rsn, rg⟩ := h.rd hr (by omega)
      have hgl := hx.rgt hr (by omega)
      have hst : stW x N = onN (x.mv - 1) N := by unfold stW; rw [if_neg hd, if_neg h0, if_pos hr]
      rw [hst] at ha
      by_cases h1 : x.mv - 1 < c.l.length
      · rw [show wkMove c x = (1, c, { x with gt := x.gt ++ [c.l.getD (x.mv - 1) 0], mv := x.mv + 1 }) by unfold wkMove; rw [if_neg hd, if_pos hr, if_neg h0, if_pos h1]]
        have hcl := hc.len
        have hj : x.mv - 1 < N := by omega
        rw [show onN (x.mv - 1) N = 2 from if_pos hj, rn] at ha
        refine rm_two ha ((rr_any ha hb hj h.own h.len h.gp).mono ?_)
        rintro e w' ⟨rfl, ha', ho', hk'⟩
        have hsw : stW { x with gt := x.gt ++ [c.l.getD (x.mv - 1) 0], mv := x.mv + 1 } N = onN (x.mv - 1 + 1) N := by
          unfold stW
          rw [if_neg hd, if_neg (show ¬ x.mv + 1 = 0 by omega), if_pos hr]
          show onN (x.mv + 1 - 1) N = _
          rw [show x.mv + 1 - 1 = x.mv - 1 + 1 by omega]
        refine ⟨rfl, h.next hk'.size (by rw [hsw]; exact ha') ho' (by rw [List.length_set]; exact h.len) rfl rfl h.em (fun e => (hrf e).elim) (fun _ _ => ⟨?_, rsn, fun i hi => ?_⟩), (hb.keep hk' (fun i hi e => ?_)).up (Nat.le_succ k), keeps_two hk' h.mp h.mg⟩
        · show x.mv - 1 + 1 = x.mv + 1 - 1
          omega
        · have hi' : i < x.gt.length + 1 := by simpa using hi
          show (ml.set (x.mv - 1) (c.l.getD (x.mv - 1) 0)).getD i 0 = (x.gt ++ [c.l.getD (x.mv - 1) 0]).getD i 0
          have hml := h.len
          by_cases e : i < x.gt.length
          · have := rg i e
            simp only [List.getD_eq_getElem?_getD] at this ⊢
            rw [List.getElem?_set, if_neg (by omega), List.getElem?_append_left e]; exact this
          · have e2 : i = x.mv - 1 := by omega
            subst e2
            simp only [List.getD_eq_getElem?_getD]
            rw [List.getElem?_set, if_pos rfl, if_pos (by omega), List.getElem?_append_right (by omega), show x.mv - 1 - x.gt.length = 0 by omega]
            rfl
        · rcases e with rfl | rfl
          · exact hSp hi
          · exact hSg hi
      · have hcl := hc.len
        rw [show onN (x.mv - 1) N = 3 from if_neg (by omega), rsn] at ha
        have hsb := hx.sn
        have hcb := hc.ct
        by_cases h2 : c.lk = true ∨ c.ct ≠ x.sn
        · rw [show wkMove c x = (3, c, { x with mv := 0 }) by unfold wkMove; rw [if_neg hd, if_pos hr, if_neg h0, if_neg h1, if_pos h2]]
          have hne : lwN c ≠ x.sn := by
            rcases h2 with e | e
            · rw [lw_taken e]; omega
            · unfold lwN
              split
              · omega
              · omega
          refine rm_three ha ((re_busy ha hb hne).mono ?_)
          rintro e w' ⟨rfl, ha', hk'⟩
          have hsw : stW { x with mv := 0 } N = 0 := by unfold stW; rw [if_neg hd, if_pos rfl]
          exact ⟨rfl, h.next hk'.size (by rw [hsw]; exact ha') (hgk hk' h.own) h.len rfl rfl h.em (fun e => (hrf e).elim) (fun _ e => absurd e (by simp)), hbk hk', keeps_one hk' h.mp⟩
        · rw [show wkMove c x = (2, c, { x with dn := true }) by unfold wkMove; rw [if_neg hd, if_pos hr, if_neg h0, if_neg h1, if_neg h2]]
          have hl' : c.lk = false := by
            cases q : c.lk with
            | false => rfl
            | true => exact absurd (.inl q) h2
          have hct : c.ct = x.sn := Classical.byContradiction fun q => h2 (.inr q)
          refine rm_three ha ((re_done ha hb (by rw [(lw_free hcb hl').1]; exact hct)).mono ?_)
          rintro e w' ⟨rfl, ha', hk'⟩
          have hsw : stW { x with dn := true } N = 4 := by unfold stW; rw [if_pos rfl]
          exact ⟨rfl, h.next hk'.size (by rw [hsw]; exact ha') (hgk hk' h.own) h.len rfl rfl h.em (fun e => (hrf e).elim) (fun _ _ => ⟨rn, rfl, rg⟩), hbk hk', keeps_one hk' h.mp⟩
end
theorem pwProg : InProg PW where
  keep := pw_keep
  lt := pw_lt
  em := pw_em
  newW := fun s hb hs hN => pw_newW s hb hs hN
  newA := fun n hb hn => pw_newA n hb hn
  newR := fun n hb hn hN => pw_newR n hb hn hN
  moveW := fun h hb hMS hc _ hr hk hh => pw_moveW h hb hMS hc hr hk hh
  moveR := fun h hb hMS hc hx hr _ => pw_moveR h hb hMS hc hx hr
  holds := fun h hr => pw_holds h hr
  holds0 := wh_nil
  value := fun h hr hx hN h16 he => pw_value h hr hx hN h16 he
end Go.Proofs.Ytikpphbgjbfddaa
