/- The reference's Put. -/
import Derived.Test.YtodkbhboapledaaZh
namespace Go.Proofs.Ytodkbhboapledaa
open Go.RowKit
theorem Try.infoBool : (Try.prog.info? 4).map (fun i => (i.zero, i.size, i.bytes)) = some (some (.bool false), 1, 1) := by kernel_rfl
theorem one_bool {b : Bool} : ∀ u ∈ [Value.bool b], u.oneCell' = true := by
  intro u hu; simp at hu; subst hu; rfl
theorem boolsV_snoc (g : Nat → Bool) (n : Nat) (b : Bool) : boolsV (fun i => if i = n then b else g i) (n + 1) = boolsV g n ++ [.bool b] := by
  unfold boolsV
  rw [List.range_succ, List.map_append]
  congr 1
  · apply List.map_congr_left
    intro i hi
    have : i < n := by simpa using hi
    simp [show i ≠ n by omega]
  · simp
theorem takeZ_snoc (z : Nat → A3) (n : Nat) (a : A3) : takeZ (fun i => if i = n then a else z i) (n + 1) = takeZ z n ++ [a] := by
  unfold takeZ
  rw [List.range_succ, List.map_append]
  congr 1
  · apply List.map_congr_left
    intro i hi
    have : i < n := by simpa using hi
    simp [show i ≠ n by omega]
  · simp
theorem waitK_snoc (z : Nat → A3) (g : Nat → Bool) (n : Nat) (a : A3) : waitK (fun i => if i = n then a else z i) (fun i => if i = n then false else g i) (n + 1) = waitK z g n ++ [a] := by
  rw [waitK, waitK_congr (z' := z) (g' := g) n (fun i hi => by simp [show i ≠ n by omega]) (fun i hi => by simp [show i ≠ n by omega])]
  simp
theorem cell_arg {w x : World} {a b c : Value} {T : TypeId} (hb : Below (w.alloc (.cells #[a, b, c] T)).heap.size (w.alloc (.cells #[a, b, c] T)) x) :
    x.cell? ⟨w.heap.size, 0, none⟩ = some a ∧ x.cell? ⟨w.heap.size, 1, none⟩ = some b ∧ x.cell? ⟨w.heap.size, 2, none⟩ = some c := by
  refine ⟨?_, ?_, ?_⟩ <;> rw [hb.cell (by simp)] <;> simp
set_option maxHeartbeats 2000000 in
theorem ref_put_at {w : World} {M : Nat → Prop} {t n : Nat} {z : Nat → A3} {g : Nat → Bool} {vL vG : Value} (h : RefIs w M t (takeZ z n) n g vL vG) (hn : n ≤ 1000) (a : A3) (hl : (waitK z g n).length < 16) :
    Calls Try.prog 9 #[.pointer (some ⟨t, 0, none⟩), a.val] w fun e w' => e = .returned (.int .i64 0) ∧ (∃ vL' vG', RefIs w' (More M w w') t (takeZ z n ++ [a]) (n + 1) (fun i => if i = n then false else g i) vL' vG') ∧ Keeps M w w' := by
  obtain ⟨i0, hi, hz0, hz1, hz2⟩ := info_parts Try.infoAct
  obtain ⟨j0, hj, hy0, hy1, hy2⟩ := info_parts Try.infoBool
  obtain ⟨ae, ak, ap⟩ := a
  simp only [A3.val]
  have hw := ref_waiting_at (h.below ((Below.refl _ w).alloc (Nat.le_refl _) (.cells #[.int .u64 ae, .int .i64 ak, .int .i64 ap] 33))) hn
  generalize (waitK z g n).length = m at *
  go_enter Try.func9, Try.ntmps9
  go_wp2_with fail
  refine hw.mono ?_
  rintro e x ⟨ao, cap, rfl, -, hb⟩
  obtain ⟨d0, d1, d2⟩ := cell_arg hb
  have hb' : Below w.heap.size w x := ((Below.refl _ w).alloc (Nat.le_refl _) _).trans (hb.mono (by simp))
  have hx := h.below hb'
  have hsz : w.heap.size < x.heap.size := World.block_lt_of_cell? x _ d0
  clear hb hw
  have hS := h.lt
  obtain ⟨lo, lcap, hvL, hsL, -, hcL⟩ := hx.oL.form
  obtain ⟨bo, bcap, hvG, hsG, hcG⟩ := hx.oG.form
  subst hvL
  subst hvG
  rw [takeZ_length] at *
  have c0 := hx.c0
  have c0' := cell_alloc c0 (.cells #[.int .u64 ae, .int .i64 ak, .int .i64 ap] 33)
  have f0 := hx.f0
  have f0' : (x.alloc (.cells #[.int .u64 ae, .int .i64 ak, .int .i64 ap] 33)).frozen? ⟨t, 0, none⟩ = false := frozen_alloc f0 (by simp; omega) _
  have hown2 : ((x.drewN 1).alloc (.cells #[.int .u64 ae, .int .i64 ak, .int .i64 ap] 33)).ownsRow 0 33 3 (.slice lo n lcap) n (actsV (takeZ z n)) := by
    have := own_below hx.oL ((below_drewN (Below.refl _ x) 1).alloc (by simp) (.cells #[.int .u64 ae, .int .i64 ak, .int .i64 ap] 33))
    rw [takeZ_length] at this
    exact this
  have hnews : ∀ j u, [Value.int .u64 ae, .int .i64 ak, .int .i64 ap][j]? = some u → ((x.drewN 1).alloc (.cells #[.int .u64 ae, .int .i64 ak, .int .i64 ap] 33)).cell? ((⟨x.heap.size, 0, none⟩ : Addr).add j) = some u := cell_three (x.drewN 1) (.int .u64 ae) (.int .i64 ak) (.int .i64 ap) 33
  have HK : ∀ w1, ((x.drewN 1).alloc (.cells #[.int .u64 ae, .int .i64 ak, .int .i64 ap] 33)).grownBy w1 (Value.slice lo n lcap).ownBlock → w1.frozen? ⟨t, 0, none⟩ = false ∧ w1.cell? ⟨t, 0, none⟩ = some (.slice lo n lcap) ∧ Keeps (fun k => (Value.slice lo n lcap).ownBlock = some k) x w1 := by
    intro w1 hg
    have hne : ¬ (Value.slice lo n lcap).ownBlock = some t := fun e => (hx.mL t e).2 rfl
    have K1 : Keeps (fun k => (Value.slice lo n lcap).ownBlock = some k) x w1 := (((Keeps.refl _ x).drewN 1).alloc _).grown hg (fun k hk _ => hk)
    refine ⟨?_, ?_, K1⟩
    · rw [K1.frozen hx.lt hne]; exact f0
    · rw [K1.cell hx.lt hne]; exact c0
  go_wp2
  go_region_law
    ((refine step_append_lies _ (by rfl) _ _ 27 (by rfl) 0 33 i0 (.agg #[.int .u64 0, .int .i64 0, .int .i64 0]) 3 24 Try.underlying27 hi hz0 hz1 hz2 rfl (by decide) _ _ _ (by rfl) hown2 ⟨x.heap.size, 0, none⟩ 1 1 [.int .u64 ae, .int .i64 ak, .int .i64 ap] (by rfl) rfl hnews three_ints (by decide) (by unfold maxLen; omega) (by omega) (Nat.zero_le _) (x.heap.size + 1) (by simp) ?_; intro g1 cap1 w1 hown1 hgrow hat hlt; obtain ⟨q1, q2, hk⟩ := HK w1 hgrow))
  all_goals
    obtain ⟨hr1, kr1⟩ := hx.storeL (l' := takeZ z n ++ [⟨ae, ak, ap⟩]) (v := .slice (some ⟨g1, 0, none⟩) (n + 1) cap1) hk (by unfold Own3; rw [actsV_snoc, List.length_append, takeZ_length]; exact hown1) (fun k e => by
      have e' : g1 = k := by simpa [Value.ownBlock] using e
      subst e'
      rcases hat with hat | hat
      · exact .inl hat
      · exact .inr (by omega))
    clear hown1 hgrow hat hk hown2 hnews HK q1 q2 c0 c0' f0 f0' hi d0 d1 d2
    generalize w1.setCell ⟨t, 0, none⟩ (.slice (some ⟨g1, 0, none⟩) (n + 1) cap1) = X1 at *
    have hbo : ((X1.drewN 0).alloc (.cells #[.bool false] 4)).ownsRow 0 4 1 (.slice bo n bcap) n (boolsV g n) := World.ownsRow.alloc hr1.oG _
    have c1 := hr1.c1
    have f1 := hr1.f1
    have ht1 := hr1.lt
    have hne : ¬ (Value.slice bo n bcap).ownBlock = some t := fun e => (hr1.mG t e).2 rfl
    go_wp2_with (at_builtin; refine wpList_append_lies _ rfl _ _ 28 rfl 0 4 j0 (.bool false) 1 1 Try.underlying28 hj hy0 hy1 hy2 rfl (by decide) _ _ _ rfl hbo ⟨X1.heap.size, 0, none⟩ 1 1 [.bool false] rfl rfl (cell_one _ _ _) one_bool (by decide) ?c3 ?c4 (Nat.zero_le _) (X1.heap.size + 1) (by simp) ?_)
    case c3 => unfold maxLen; omega
    case c4 => omega
    intro g2 cap2 w2 hown2 hgrow2 hat2 hlt2
    have K2 : Keeps (fun k => (Value.slice bo n bcap).ownBlock = some k) X1 w2 := ((Keeps.refl _ X1).alloc _).grown hgrow2 (fun k hk _ => hk)
    have q0 : w2.cell? ⟨t, 1, none⟩ = some (.slice bo n bcap) := by rw [K2.cell ht1 hne]; exact c1
    have q1 : w2.frozen? ⟨t, 1, none⟩ = false := by rw [K2.frozen ht1 hne]; exact f1
    obtain ⟨hr2, kr2⟩ := hr1.storeG (g' := fun i => if i = n then false else g i) (m := n + 1) (v := .slice (some ⟨g2, 0, none⟩) (n + 1) cap2) K2 (by unfold OwnB; rw [boolsV_snoc]; exact hown2) (fun k e => by
      have e' : g2 = k := by simpa [Value.ownBlock] using e
      subst e'
      rcases hat2 with hat | hat
      · exact .inl hat
      · exact .inr (by omega))
    clear hown2 hgrow2 hat2 hbo K2 hne hj
    go_wp2
    go_ret
    exact ⟨rfl, ⟨_, _, hr2.wider (more_more hb'.size kr1.size kr2.size)⟩, ((Below.keeps hb').trans kr1 (fun _ _ h => h)).trans kr2 (fun i hi hm => hm.elim id (fun h => absurd h.1 (by have := hb'.size; omega)))⟩
end Go.Proofs.Ytodkbhboapledaa
