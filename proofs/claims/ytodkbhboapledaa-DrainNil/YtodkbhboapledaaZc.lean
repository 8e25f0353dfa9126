/- Package drain: Ready. -/
import Derived.Test.YtodkbhboapledaaZb
namespace Go.Proofs.Ytodkbhboapledaa
open Go.RowKit
/-- Those that are ready for s, and those that go on waiting. -/
def readyL (s : Int) (l : List A3) : List A3 := l.filter fun a => decide (a.e ≤ s)
def restL (s : Int) (l : List A3) : List A3 := l.filter fun a => !decide (a.e ≤ s)
theorem readyL_snoc (s : Int) (l : List A3) (a : A3) : readyL s (l ++ [a]) = readyL s l ++ (if a.e ≤ s then [a] else []) := by
  simp only [readyL, List.filter_append, List.filter_cons, List.filter_nil, decide_eq_true_eq]
theorem restL_snoc (s : Int) (l : List A3) (a : A3) : restL s (l ++ [a]) = restL s l ++ (if a.e ≤ s then [] else [a]) := by
  by_cases h : a.e ≤ s <;> simp [restL, List.filter_append, h]
theorem readyL_length (s : Int) (l : List A3) : (readyL s l).length ≤ l.length := List.length_filter_le _ _
theorem restL_length (s : Int) (l : List A3) : (restL s l).length ≤ l.length := List.length_filter_le _ _
theorem own_two {w : World} {v : Value} {l : List A3} (h : Own3 w v l) (a b c : Int) : ((w.alloc (.cells #[.int .u64 a, .int .i64 b, .int .i64 c] 33)).alloc (.cells #[.int .u64 a, .int .i64 b, .int .i64 c] 33)).ownsRow 0 33 3 v l.length (actsV l) :=
  (World.ownsRow.alloc h _).alloc _
theorem cell_three2 (w : World) (a b c : Int) : ∀ j u, [Value.int .u64 a, .int .i64 b, .int .i64 c][j]? = some u → ((w.alloc (.cells #[.int .u64 a, .int .i64 b, .int .i64 c] 33)).alloc (.cells #[.int .u64 a, .int .i64 b, .int .i64 c] 33)).cell? ((⟨w.heap.size + 1, 0, none⟩ : Addr).add j) = some u := by
  have := cell_three (w.alloc (.cells #[.int .u64 a, .int .i64 b, .int .i64 c] 33)) (.int .u64 a) (.int .i64 b) (.int .i64 c) 33
  simpa using this
/-- One row grows by an action, another stays. -/
theorem grow_two {W w w1 : World} {o1 o2 : Obj} {v v' u : Value} {l m : List A3} {a : A3} (hu : Own3 w u m)
    (b1 : ∀ g, v.ownBlock = some g → W.heap.size ≤ g) (hd : ∀ g, v.ownBlock = some g → u.ownBlock ≠ some g) (hb : Below W.heap.size W w)
    (hown : w1.ownsRow 0 33 3 v' (l.length + 1) (actsV l ++ [.int .u64 a.e, .int .i64 a.k, .int .i64 a.p])) (hg : ((w.alloc o1).alloc o2).grownBy w1 v.ownBlock) (hat : ∀ g, v'.ownBlock = some g → v.ownBlock = some g ∨ g = w.heap.size + 2) :
    Own3 w1 v' (l ++ [a]) ∧ Own3 w1 u m ∧ (∀ g, v'.ownBlock = some g → W.heap.size ≤ g) ∧ (∀ g, v'.ownBlock = some g → u.ownBlock ≠ some g) ∧ Below W.heap.size W w1 := by
  have hW := hb.size
  refine ⟨by unfold Own3; rw [actsV_snoc, List.length_append]; exact hown, ?_, fun g h => ?_, fun g h e => ?_, ?_⟩
  · have K : Keeps (fun k => v.ownBlock = some k) w w1 := (((Keeps.refl _ w).alloc o1).alloc o2).grown hg (fun k hk _ => hk)
    exact hu.keep K (fun g hg' hv' => hd g hv' hg')
  · rcases hat g h with h | h
    · exact b1 g h
    · omega
  · rcases hat g h with h | h
    · exact hd g h e
    · have := (hu.lt g e).2; omega
  · exact ((hb.alloc hW o1).alloc (by simp; omega) o2).grown hg (by simp; omega) (fun k hk => b1 k hk)
set_option maxHeartbeats 1000000 in
theorem drain_ready {w : World} {S : Nat → Prop} {t : Nat} {l : List A3} (h : DrIs w S t l) (hl : l.length ≤ 16) (s : Int) :
    Calls Try.prog 11 #[.pointer (some ⟨t, 0, none⟩), .int .u64 s] w fun e w' => ∃ ao cap, e = .returned (.slice ao (readyL s l).length cap) ∧ As w' ao (readyL s l).length (getL (readyL s l)) ∧ (∀ g off, ao = some ⟨g, off, none⟩ → w.heap.size ≤ g) ∧ DrIs w' (More S w w') t (restL s l) ∧ Keeps S w w' := by
  obtain ⟨i0, hi, hz0, hz1, hz2⟩ := info_parts Try.infoAct
  obtain ⟨v, h1, h2, h3, h4, h5⟩ := h
  have ht : t < w.heap.size := World.block_lt_of_cell? w _ h1
  obtain ⟨ao, cap, rfl, hs, hao, hc⟩ := h4.form
  generalize hn : l.length = n at *
  go_enter Try.func11, Try.ntmps11
  go_wp2
  go_loopw [5, 6, 16] (fun told rest i wr => ∃ k : Nat, k ≤ n ∧ i = .int .i64 k ∧ Own3 wr told (readyL s (l.take k)) ∧ Own3 wr rest (restL s (l.take k)) ∧ (∀ g, told.ownBlock = some g → w.heap.size ≤ g) ∧ (∀ g, rest.ownBlock = some g → w.heap.size ≤ g) ∧ (∀ g, told.ownBlock = some g → rest.ownBlock ≠ some g) ∧ Below w.heap.size w wr)
    (fun _ _ i _ => n - (intOf i).toNat)
  case atStart => exact ⟨0, Nat.zero_le _, rfl, Own3.nil _, Own3.nil _, fun g hg => by simp [Value.ownBlock] at hg, fun g hg => by simp [Value.ownBlock] at hg, fun g hg => by simp [Value.ownBlock] at hg, Below.refl _ _⟩
  case round =>
    obtain ⟨k, hk, rfl, ho1, ho2, b1, b2, hd, hbel⟩ := hrel
    have hB := hbel.size
    have hs' := hs.below hbel
    by_cases hlt : k < n
    · obtain ⟨b, off, rfl, c1, c2, c3⟩ := hs' k hlt
      have HT := hide (getL_take l k (by omega))
      generalize hga : getL l k = a at *
      obtain ⟨ae, ak, ap⟩ := a
      simp only at c1 c2 c3
      by_cases hle : ae ≤ s
      · have e1 : readyL s (l.take (k + 1)) = readyL s (l.take k) ++ [⟨ae, ak, ap⟩] := by rw [HT.out, readyL_snoc, if_pos hle]
        have e2 : restL s (l.take (k + 1)) = restL s (l.take k) := by rw [HT.out, restL_snoc, if_pos hle, List.append_nil]
        have hq := readyL_length s (l.take k)
        rw [List.length_take, hn] at hq
        have E1 := hide e1
        have E2 := hide e2
        clear e1 e2
        have hown2 := own_two ho1 ae ak ap
        have hnews := cell_three2 wr ae ak ap
        go_wp2_with (at_builtin; refine wpList_append_lies _ rfl _ _ 27 rfl 0 33 i0 (.agg #[.int .u64 0, .int .i64 0, .int .i64 0]) 3 24 Try.underlying27 hi hz0 hz1 hz2 rfl (by decide) _ _ _ rfl hown2 ⟨wr.heap.size + 1, 0, none⟩ 1 1 [.int .u64 ae, .int .i64 ak, .int .i64 ap] rfl rfl hnews three_ints (by decide) ?c3 ?c4 (Nat.zero_le _) (wr.heap.size + 2) (by simp) ?_)
        case c3 => unfold maxLen; omega
        case c4 => omega
        intro g cap' w1 hown' hgrow hat _
        obtain ⟨r1, r2, r3, r4, r5⟩ := grow_two (a := ⟨ae, ak, ap⟩) ho2 b1 hd hbel hown' hgrow (fun g' h => by
          have e : g = g' := by simpa [Value.ownBlock] using h
          subst e; exact hat)
        clear hgrow hown' ho1 ho2 hown2 hnews hat
        go_wp2
        go_roundw
        case rel => exact ⟨k + 1, by omega, by go_num, by rw [E1.out]; exact r1, by rw [E2.out]; exact r2, r3, b2, r4, r5⟩
        case measure => simp [intOf]; omega
      · have e1 : readyL s (l.take (k + 1)) = readyL s (l.take k) := by rw [HT.out, readyL_snoc, if_neg hle, List.append_nil]
        have e2 : restL s (l.take (k + 1)) = restL s (l.take k) ++ [⟨ae, ak, ap⟩] := by rw [HT.out, restL_snoc, if_neg hle]
        have hq := restL_length s (l.take k)
        rw [List.length_take, hn] at hq
        have E1 := hide e1
        have E2 := hide e2
        clear e1 e2
        have hown2 := own_two ho2 ae ak ap
        have hnews := cell_three2 wr ae ak ap
        go_wp2_with (at_builtin; refine wpList_append_lies _ rfl _ _ 27 rfl 0 33 i0 (.agg #[.int .u64 0, .int .i64 0, .int .i64 0]) 3 24 Try.underlying27 hi hz0 hz1 hz2 rfl (by decide) _ _ _ rfl hown2 ⟨wr.heap.size + 1, 0, none⟩ 1 1 [.int .u64 ae, .int .i64 ak, .int .i64 ap] rfl rfl hnews three_ints (by decide) ?c3 ?c4 (Nat.zero_le _) (wr.heap.size + 2) (by simp) ?_)
        case c3 => unfold maxLen; omega
        case c4 => omega
        intro g cap' w1 hown' hgrow hat _
        obtain ⟨r1, r2, r3, r4, r5⟩ := grow_two (a := ⟨ae, ak, ap⟩) ho1 b2 (fun g h1 h2 => hd g h2 h1) hbel hown' hgrow (fun g' h => by
          have e : g = g' := by simpa [Value.ownBlock] using h
          subst e; exact hat)
        clear hgrow hown' ho1 ho2 hown2 hnews hat
        go_wp2
        go_roundw
        case rel => exact ⟨k + 1, by omega, by go_num, by rw [E1.out]; exact r2, by rw [E2.out]; exact r1, b1, r3, fun g h1 h2 => r4 g h2 h1, r5⟩
        case measure => simp [intOf]; omega
    · have e : l.take k = l := List.take_of_length_le (by omega)
      rw [e] at ho1 ho2
      have f1 : wr.cell? ⟨t, 0, none⟩ = some (.slice ao n cap) := by rw [hbel.cell ht]; exact h1
      have f2 : wr.frozen? ⟨t, 0, none⟩ = false := by rw [hbel.frozen ht]; exact h2
      obtain ⟨ao', cap', rfl, q1, q2, -⟩ := ho1.form
      obtain ⟨ao2, cap2, rfl, -, -, -⟩ := ho2.form
      have hdr := dr_store (w := w) h3 f1 f2 ho2 (fun g hg => ⟨.inr (b2 g hg), by have := b2 g hg; omega⟩) (Below.keeps hbel)
      have hst := q1.keep ((Keeps.refl (fun k => k = t) wr).setCell ⟨t, 0, none⟩ (fun _ => rfl) (.slice ao2 (restL s l).length cap2)) (fun _ g off hg e => by have := b1 g (q2 g off hg); omega)
      clear q1 ho1 ho2 h4 hi e
      go_wp2
      go_ret
      exact ⟨ao', cap', rfl, hst, fun g off hg => b1 g (q2 g off hg), hdr.1, hdr.2⟩
end Go.Proofs.Ytodkbhboapledaa
