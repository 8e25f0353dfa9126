/- Parts of the proof: Jh. -/
import Derived.Test.YtikpphbgjbfddaaJ16
namespace Go.Proofs.Ytikpphbgjbfddaa
set_option maxRecDepth 20000
open Go.RowKit
section
variable {w : World} {B m p : Nat} {v vl vg : Value}
theorem rm_move {N : Nat} {c : Ce} {x : Wk} (h : RcW w B m v c p vl vg x) (hB : B ≤ w.heap.size) (hc : CeOk N c) (hx : WkOk N x) (hN : N ≤ 1000) :
    Calls Try.prog 9 #[.pointer (some ⟨p, 0, none⟩), .pointer (some ⟨m, 0, none⟩)] w fun e w' => e = .returned (.int .i64 ((wkMove c x).1 : Int)) ∧ RmIs w w' B m v (wkMove c x).2.1 p vl vg (wkMove c x).2.2 := by
  have hlen := hc.len
  by_cases hd : x.dn = true
  · rw [show wkMove c x = (2, c, x) by unfold wkMove; rw [if_pos hd]]
    exact rw_done h hd
  · have hd' : x.dn = false := by simpa using hd
    by_cases hr : x.rd = true
    · by_cases h0 : x.mv = 0
      · by_cases hl : c.lk = true
        · rw [show wkMove c x = (3, c, x) by unfold wkMove; rw [if_neg hd, if_pos hr, if_pos h0, if_pos hl]]
          exact rr_move h hd' hr (rd_busy h h0 hl)
        · rw [show wkMove c x = (1, c, { x with sn := c.ct, gt := [], mv := 1 }) by unfold wkMove; rw [if_neg hd, if_pos hr, if_pos h0, if_neg hl]]
          exact rr_move h hd' hr (rd_begin h hB h0 (by simpa using hl))
      · have hmv := hx.rmv hr
        by_cases hi : x.mv - 1 < c.l.length
        · rw [show wkMove c x = (1, c, { x with gt := x.gt ++ [c.l.getD (x.mv - 1) 0], mv := x.mv + 1 }) by unfold wkMove; rw [if_neg hd, if_pos hr, if_neg h0, if_pos hi]]
          exact rr_move h hd' hr (rd_get (c := c) (x := x) h hB (x.mv - 1) (by omega) hi (by omega) (by have := hx.few; omega))
        · by_cases hl : c.lk = true ∨ c.ct ≠ x.sn
          · rw [show wkMove c x = (3, c, { x with mv := 0 }) by unfold wkMove; rw [if_neg hd, if_pos hr, if_neg h0, if_neg hi, if_pos hl]]
            exact rr_move h hd' hr (rd_again (c := c) (x := x) h (by omega) (by omega) hl)
          · rw [show wkMove c x = (2, c, { x with dn := true }) by unfold wkMove; rw [if_neg hd, if_pos hr, if_neg h0, if_neg hi, if_neg hl]]
            have h1 : c.lk = false := by
              cases e : c.lk with
              | true => exact absurd (.inl e) hl
              | false => rfl
            have h2 : c.ct = x.sn := Classical.byContradiction fun e => hl (.inr e)
            exact rr_move h hd' hr (rd_end (c := c) (x := x) h (by omega) (by omega) h1 h2)
    · have hr' : x.rd = false := by simpa using hr
      by_cases h0 : x.mv = 0
      · by_cases hl : c.lk = true
        · rw [show wkMove c x = (3, c, x) by unfold wkMove; rw [if_neg hd, if_neg hr, if_pos h0, if_pos hl]]
          exact rw_busy h hd' hr' h0 hl
        · rw [show wkMove c x = (1, { c with lk := true }, { x with mv := 1, tk := c.ct }) by unfold wkMove; rw [if_neg hd, if_neg hr, if_pos h0, if_neg hl]]
          exact rw_take h hd' hr' h0 (by simpa using hl)
      · by_cases ha : x.ad = true
        · obtain ⟨n1, n2, n3, n4⟩ := hx.adn ha
          by_cases h1 : x.mv = 1
          · rw [show wkMove c x = (1, c, { x with l := [sumW (c.l.getD 0 0) x.n], mv := 2 }) by unfold wkMove; rw [if_neg hd, if_neg hr, if_neg h0, if_pos ⟨ha, h1⟩]]
            exact rw_load (c := c) (x := x) h hB hd' hr' ha h1 (by omega)
          · have hll := n3 (by omega)
            have hat : x.at = x.mv - 2 := by unfold Wk.at; rw [if_pos ha]; omega
            by_cases h2 : x.mv = 2
            · have e0 : x.at = 0 := by omega
              rw [show wkMove c x = (1, { c with l := c.l.set 0 (x.l.getD 0 0) }, { x with mv := 3 }) by unfold wkMove; rw [if_neg hd, if_neg hr, if_neg h0, if_neg (fun e => h1 e.2), if_pos (by omega), e0, h2]]
              exact rw_put2 (c := c) (x := x) h hd' hr' ha h2 hll (by omega)
            · rw [show wkMove c x = (2, { c with lk := false, ct := (c.ct + 1) % 4294967296 }, { x with dn := true }) by unfold wkMove; rw [if_neg hd, if_neg hr, if_neg h0, if_neg (fun e => h1 e.2), if_neg (by omega)]]
              exact rw_free2 (c := c) (x := x) h hd' hr' ha (by omega) hll hc.ct
        · have ha' : x.ad = false := by simpa using ha
          obtain ⟨n1, n2⟩ := hx.wln hr' ha'
          have hat : x.at = x.mv - 1 := by unfold Wk.at; rw [if_neg ha]; omega
          by_cases hi : x.at < x.l.length
          · rw [show wkMove c x = (1, { c with l := c.l.set x.at (x.l.getD x.at 0) }, { x with mv := x.mv + 1 }) by unfold wkMove; rw [if_neg hd, if_neg hr, if_neg h0, if_neg (fun e => ha e.1), if_pos hi]]
            exact rw_put (c := c) (x := x) h hd' hr' ha' x.at (by omega) hi (by omega) (by omega)
          · rw [show wkMove c x = (2, { c with lk := false, ct := (c.ct + 1) % 4294967296 }, { x with dn := true }) by unfold wkMove; rw [if_neg hd, if_neg hr, if_neg h0, if_neg (fun e => ha e.1), if_neg hi]]
            exact rw_free (c := c) (x := x) h hd' hr' ha' (by omega) (by omega) hc.ct
set_option maxHeartbeats 1000000 in
theorem rm_holds {x : Wk} (h : RwIs w B p vl vg x) :
    Calls Try.prog 15 #[.pointer (some ⟨p, 0, none⟩)] w fun e w' => e = .returned (.bool x.holds) ∧ ∃ n, w' = w.drewN n := by
  have c5 : w.cell? ⟨p, 5, none⟩ = some (.bool x.dn) := h.cs 5 (by omega)
  have c0 : w.cell? ⟨p, 0, none⟩ = some (.bool x.rd) := h.cs 0 (by omega)
  have c4 : w.cell? ⟨p, 4, none⟩ = some (.int .i64 (x.mv : Int)) := h.cs 4 (by omega)
  unfold Wk.holds
  clear h
  generalize x.mv = mv at *
  cases hr : x.rd with
  | true =>
    rw [hr] at c0
    go_enter Try.func15, Try.ntmps15
    go_wp2
    go_ret
    exact ⟨rfl, 0, rfl⟩
  | false =>
    rw [hr] at c0
    by_cases hm : mv = 0
    · subst hm
      go_enter Try.func15, Try.ntmps15
      go_wp2
      go_ret
      exact ⟨rfl, 0, rfl⟩
    · have hm' : decide (0 < mv) = true := by rw [decide_eq_true_eq]; omega
      have hm2 : 0 < (mv : Int) := by omega
      rw [hm']
      go_enter Try.func15, Try.ntmps15
      go_wp2
      go_ret
      exact ⟨ret_bool (by simp), 0, rfl⟩
end
end Go.Proofs.Ytikpphbgjbfddaa
