/- Parts of the proof: Wx Xe. -/
import Derived.Test.YtikpphbgjbfddaaJ1
import Derived.Test.YtikpphbgjbfddaaJ4
namespace Go.Proofs.Ytikpphbgjbfddaa
set_option maxRecDepth 20000
open Go.RowKit
/-- Of the blocks that were there, those outside S are as they were. -/
structure Keeps (S : Nat → Prop) (w w' : World) : Prop where
  os : w'.os = w.os
  tape : w'.tape = w.tape
  output : w'.output = w.output
  size : w.heap.size ≤ w'.heap.size
  block : ∀ k, k < w.heap.size → ¬ S k → w'.heap[k]? = w.heap[k]?
theorem Keeps.refl (S : Nat → Prop) (w : World) : Keeps S w w := ⟨rfl, rfl, rfl, Nat.le_refl _, fun _ _ _ => rfl⟩
theorem Keeps.trans {S T : Nat → Prop} {a b c : World} (h : Keeps S a b) (k : Keeps T b c) (hT : ∀ i, i < a.heap.size → T i → S i) : Keeps S a c :=
  ⟨k.os.trans h.os, k.tape.trans h.tape, k.output.trans h.output, Nat.le_trans h.size k.size, fun i hi ho => (k.block i (Nat.lt_of_lt_of_le hi h.size) (fun t => ho (hT i hi t))).trans (h.block i hi ho)⟩
theorem Keeps.wider {S T : Nat → Prop} {a b : World} (h : Keeps S a b) (hT : ∀ i, i < a.heap.size → S i → T i) : Keeps T a b :=
  ⟨h.os, h.tape, h.output, h.size, fun i hi ho => h.block i hi (fun t => ho (hT i hi t))⟩
theorem Below.keeps {S : Nat → Prop} {w w' : World} (h : Below w.heap.size w w') : Keeps S w w' := ⟨h.os, h.tape, h.output, h.size, fun k hk _ => h.block k hk⟩
theorem Keeps.below {S : Nat → Prop} {w w' : World} {B : Nat} (h : Keeps S w w') (hB : B ≤ w.heap.size) (hS : ∀ k, S k → B ≤ k) : Below B w w' :=
  ⟨h.os, h.tape, h.output, h.size, fun k hk => h.block k (Nat.lt_of_lt_of_le hk hB) (fun s => by have := hS k s; omega)⟩
theorem Keeps.drewN {S : Nat → Prop} {w w' : World} (h : Keeps S w w') (k : Nat) : Keeps S w (w'.drewN k) := h.trans (Below.keeps (S := S) (below_drewN (Below.refl _ _) k)) (fun _ _ t => t)
theorem Keeps.alloc {S : Nat → Prop} {w w' : World} (h : Keeps S w w') (o : Obj) : Keeps S w (w'.alloc o) := h.trans (Below.keeps (S := S) ((Below.refl _ w').alloc (Nat.le_refl _) o)) (fun _ _ t => t)
theorem Keeps.setCell {S : Nat → Prop} {w w' : World} (h : Keeps S w w') (p : Addr) (hp : p.block < w.heap.size → S p.block) (u : Value) : Keeps S w (w'.setCell p u) :=
  ⟨h.os, h.tape, h.output, by simpa [World.setCell] using h.size, fun k hk ho => by
    rw [Below.heap_setCell _ _ _ _ (fun e => ho (by subst e; exact hp hk))]; exact h.block k hk ho⟩
theorem Keeps.grown {S : Nat → Prop} {w w' w1 : World} {row : Option Nat} (h : Keeps S w w') (hg : w'.grownBy w1 row) (hr : ∀ k, row = some k → k < w.heap.size → S k) : Keeps S w w1 :=
  ⟨hg.os.trans h.os, hg.tape.trans h.tape, hg.output.trans h.output, Nat.le_trans h.size hg.size, fun k hk ho => by
    rw [hg.block k (Nat.lt_of_lt_of_le hk h.size) (fun e => ho (hr k e.symm hk))]; exact h.block k hk ho⟩
theorem Keeps.cell {S : Nat → Prop} {w w' : World} (h : Keeps S w w') {p : Addr} (hl : p.block < w.heap.size) (hp : ¬ S p.block) : w'.cell? p = w.cell? p := World.cell?_of_block (w := w) (h.block p.block hl hp)
theorem Keeps.frozen {S : Nat → Prop} {w w' : World} (h : Keeps S w w') {p : Addr} (hl : p.block < w.heap.size) (hp : ¬ S p.block) : w'.frozen? p = w.frozen? p := World.frozen?_of_block (w := w) (h.block p.block hl hp)
theorem own_keep {w w' : World} {base : Nat} {e : TypeId} {size : Nat} {v : Value} {n : Nat} {xs : List Value} {S : Nat → Prop} (h : w.ownsRow base e size v n xs) (hk : Keeps S w w') (hS : ∀ g, v.ownBlock = some g → ¬ S g) : w'.ownsRow base e size v n xs := by
  obtain ⟨h1, h2⟩ := h
  refine ⟨h1, ?_⟩
  rcases h2 with h2 | ⟨g, cap, cur, hv, hg, hh, r⟩
  · exact .inl h2
  · exact .inr ⟨g, cap, cur, hv, hg, by rw [hk.block g (Array.getElem?_eq_some_iff.1 hh).1 (hS g (by rw [hv]; rfl))]; exact hh, r⟩
/-- A row that is owned, as a slice, and its cells. -/
theorem own_slice {w : World} {base : Nat} {e : TypeId} {size : Nat} {v : Value} {n : Nat} {xs : List Value} (h : w.ownsRow base e size v n xs) :
    ∃ ao cap, v = .slice ao n cap ∧ n ≤ cap ∧ cap ≤ 9223372036854775807 ∧ (∀ i u, xs[i]? = some u → ∃ g, ao = some ⟨g, 0, none⟩ ∧ v.ownBlock = some g ∧ w.cell? ⟨g, i, none⟩ = some u ∧ w.frozen? ⟨g, i, none⟩ = false) := by
  have h' := h
  rcases h.2 with ⟨h1, h0⟩ | ⟨g, cap, cur, hv, _, hg, hc, hm, _⟩
  · refine ⟨none, 0, by rw [h1, h0], by omega, by omega, fun i u hu => ?_⟩
    have := (List.getElem?_eq_some_iff.1 hu).1
    rw [h.1, h0] at this
    omega
  · refine ⟨_, _, hv, hc, by unfold maxLen at hm; exact hm, fun i u hu => ⟨g, rfl, by rw [hv]; rfl, ?_, by simp [World.frozen?, hg]⟩⟩
    have hcell := h'.cells (g := g) (by rw [hv]; rfl) i u hu
    have hadd : (⟨g, 0, none⟩ : Addr).add i = ⟨g, i, none⟩ := by unfold Addr.add; split <;> simp_all
    rw [hadd] at hcell
    exact hcell
theorem own_set {w : World} {base : Nat} {e : TypeId} {size : Nat} {v : Value} {n : Nat} {xs : List Value} (h : w.ownsRow base e size v n xs) {g : Nat} (hg : v.ownBlock = some g) (i : Nat) (u : Value) : (w.setCell ⟨g, i, none⟩ u).ownsRow base e size v n (xs.set i u) := by
  refine ⟨by rw [List.length_set]; exact h.1, ?_⟩
  rcases h.2 with ⟨h1, h0⟩ | ⟨g', cap, cur, hv, hb, hh, hc, hm, hs, ht⟩
  · rw [h1] at hg; cases hg
  · have e1 : g' = g := by rw [hv] at hg; simpa [Value.ownBlock] using hg
    subst e1
    refine .inr ⟨g', cap, cur.setIfInBounds i u, hv, hb, ?_, hc, hm, by simpa using hs, ?_⟩
    · simp [World.setCell, Array.getElem?_modify, hh]
    · rw [Array.toList_setIfInBounds, List.take_set, ht]
/-- S, and the blocks that came between. -/
def More (S : Nat → Prop) (w w' : World) : Nat → Prop := fun k => S k ∨ (w.heap.size ≤ k ∧ k < w'.heap.size)
theorem more_apart {S M : Nat → Prop} {w w' : World} (h : ∀ k, S k → ¬ M k) (hM : ∀ k, M k → k < w.heap.size) : ∀ k, More S w w' k → ¬ M k := by
  rintro k (hk | ⟨hk, _⟩) hm
  · exact h k hk hm
  · have := hM k hm; omega
theorem more_in {S : Nat → Prop} {w w' : World} {B : Nat} (h : ∀ k, S k → B ≤ k ∧ k < w.heap.size) (hB : B ≤ w.heap.size) (hs : w.heap.size ≤ w'.heap.size) : ∀ k, More S w w' k → B ≤ k ∧ k < w'.heap.size := by
  rintro k (hk | ⟨hk, hk'⟩)
  · have := h k hk; omega
  · omega
end Go.Proofs.Ytikpphbgjbfddaa
namespace Go.Proofs.Ytikpphbgjbfddaa
set_option maxRecDepth 20000
open Go.RowKit
theorem Try.infoW64 : (Try.prog.info? 43).map (fun i => (i.zero, i.size, i.bytes)) = some (some (.int .u64 0), 1, 8) := by kernel_rfl
theorem RowIs.keep {w w' : World} {T : Nat → Prop} {r b n : Nat} {v : Nat → Int} {won lost : Int} (h : RowIs w r b n v won lost) (hk : Keeps T w w') (hr : ¬ T r) (hb : ¬ T b) : RowIs w' r b n v won lost := by
  have hl : r < w.heap.size := World.block_lt_of_cell? w _ h.c0
  refine ⟨h.ne, ?_, ?_, ?_, ?_, ?_, ?_, ?_⟩
  · rw [hk.cell hl hr]; exact h.c0
  · rw [hk.cell hl hr]; exact h.c1
  · rw [hk.frozen hl hr]; exact h.f1
  · rw [hk.cell hl hr]; exact h.c2
  · rw [hk.frozen hl hr]; exact h.f2
  · intro j hj
    rw [hk.cell (World.block_lt_of_cell? w _ (h.cs j hj)) hb]; exact h.cs j hj
  · intro j hj
    rw [hk.frozen (World.block_lt_of_cell? w _ (h.cs j hj)) hb]; exact h.fs j hj
theorem RowIs.under {w w' : World} {r b n : Nat} {v : Nat → Int} {won lost : Int} (h : RowIs w r b n v won lost) (hb : Below w.heap.size w w') : RowIs w' r b n v won lost := h.keep (Below.keeps (S := fun _ => False) hb) id id
theorem RowIs.same {w : World} {r b n : Nat} {v u : Nat → Int} {won lost : Int} (h : RowIs w r b n v won lost) (e : ∀ i, i < n → v i = u i) : RowIs w r b n u won lost :=
  ⟨h.ne, h.c0, h.c1, h.f1, h.c2, h.f2, fun i hi => by rw [h.cs i hi, e i hi], h.fs⟩
/-- The blocks of a row. -/
def InRow (r b : Nat) : Nat → Prop := fun k => k = r ∨ k = b
theorem kstore {r b n : Nat} {v : Nat → Int} {won lost : Int} {w : World} (h : RowIs w r b n v won lost) (i : Nat) (hi : i < n) (y : Int) :
    Calls Try.prog 92 #[.pointer (some ⟨r, 0, none⟩), .int .i64 (i : Int), .int .u64 y] w fun e w' => e = .returned (.int .i64 0) ∧ RowIs w' r b n (updV v i y) won lost ∧ Keeps (InRow r b) w w' := by
  refine (store_yes r b n n i _ y hi w h.c0 (h.cs i hi) (h.fs i hi)).mono ?_
  rintro e w' ⟨rfl, rfl⟩
  exact ⟨rfl, h.word i hi y, (Keeps.refl _ _).setCell _ (fun _ => .inr rfl) _⟩
theorem kcas_hit {r b n : Nat} {v : Nat → Int} {won lost : Int} {w : World} (h : RowIs w r b n v won lost) (i : Nat) (hi : i < n) (x : Int) (hx : v i = x) (y : Int) (hw : 0 ≤ won ∧ won ≤ 1000000) :
    Calls Try.prog 91 #[.pointer (some ⟨r, 0, none⟩), .int .i64 (i : Int), .int .u64 x, .int .u64 y] w fun e w' => e = .returned (.tuple #[.bool true, .int .i64 0]) ∧ RowIs w' r b n (updV v i y) (won + 1) lost ∧ Keeps (InRow r b) w w' := by
  subst hx
  refine (cas_hit r b n n i (v i) y won hi h.ne hw w h.c0 (h.cs i hi) (h.fs i hi) h.c1 h.f1).mono ?_
  rintro e w' ⟨rfl, rfl⟩
  exact ⟨rfl, (h.word i hi y).wins _, ((Keeps.refl _ _).setCell _ (fun _ => .inr rfl) _).setCell _ (fun _ => .inl rfl) _⟩
theorem kcas_miss {r b n : Nat} {v : Nat → Int} {won lost : Int} {w : World} (h : RowIs w r b n v won lost) (i : Nat) (hi : i < n) (o : Int) (hx : ¬ v i = o) (y : Int) (hw : 0 ≤ lost ∧ lost ≤ 1000000) :
    Calls Try.prog 91 #[.pointer (some ⟨r, 0, none⟩), .int .i64 (i : Int), .int .u64 o, .int .u64 y] w fun e w' => e = .returned (.tuple #[.bool false, .int .i64 0]) ∧ RowIs w' r b n v won (lost + 1) ∧ Keeps (InRow r b) w w' := by
  refine (cas_miss r b n n i (v i) o y lost hi hw w h.c0 (h.cs i hi) (h.fs i hi) hx h.c2 h.f2).mono ?_
  rintro e w' ⟨rfl, rfl⟩
  exact ⟨rfl, h.loses _, (Keeps.refl _ _).setCell _ (fun _ => .inl rfl) _⟩
set_option maxHeartbeats 400000 in
theorem many_yes (r : Nat) (ao : Option Addr) (n cap f k : Nat) (hn : n ≤ 65536) (hfk : f + k ≤ n) (w : World) (h0 : w.cell? ⟨r, 0, none⟩ = some (.slice ao n cap)) :
    Calls Try.prog 79 #[.pointer (some ⟨r, 0, none⟩), .int .i64 (f : Int), .int .i64 (k : Int)] w fun e w' => e = .returned (.int .i64 0) ∧ w' = w := by
  have h1 : ¬ ((n : Int) - (f : Int) < (k : Int)) := by omega
  go_enter Try.func79, Try.ntmps79
  go_wp2_with fail
  refine (len_any r ao n cap _ h0).mono ?_
  rintro e x ⟨rfl, rfl⟩
  go_wp2
  go_ret
  exact ⟨rfl, rfl⟩
set_option maxHeartbeats 1000000 in
theorem rwords {r b n : Nat} {v : Nat → Int} {won lost : Int} {w : World} (h : RowIs w r b n v won lost) (hn : n ≤ 65536) (f k : Nat) (hfk : f + k ≤ n) :
    Calls Try.prog 52 #[.pointer (some ⟨r, 0, none⟩), .int .i64 (f : Int), .int .i64 (k : Int)] w fun e w' => ∃ g, e = .returned (.tuple #[.slice (some ⟨g, 0, none⟩) k k, .int .i64 0]) ∧ Sl .u64 w' (some ⟨g, 0, none⟩) k (fun j => v (f + j)) ∧ w.heap.size ≤ g ∧ Below w.heap.size w w' := by
  obtain ⟨i0, hi, hz0, hz1, hz2⟩ := info_parts Try.infoW64
  have c0 := h.c0
  go_enter Try.func52, Try.ntmps52
  go_wp2_with fail
  refine (many_yes r _ n n f k hn hfk _ c0).mono ?_
  rintro e x ⟨rfl, rfl⟩
  go_wp2_with (at_make; refine wpList_make_full _ rfl _ _ 41 rfl x.heap.size 43 i0 (.int .u64 0) 1 Try.underlying41 hi hz0 hz1 _ _ _ _ k rfl rfl rfl rfl ?b1 ?b2 (Nat.le_refl _) ?_)
  case b1 => rw [hz2]; omega
  case b2 => unfold maxLen; omega
  intro w1 hown hgrow
  have hown1 : w1.ownsRow x.heap.size 43 1 (.slice (some ⟨x.heap.size, 0, none⟩) k k) k (List.replicate k (.int .u64 0)) := by
    simpa [Value.cells, toList_madeCells_one] using hown
  have hb1 : Below x.heap.size x w1 := (Below.refl _ _).grown hgrow (Nat.le_refl _) (by simp)
  have H0 : Hid ((∀ j, j < k → ∃ u, w1.cell? ⟨x.heap.size, j, none⟩ = some u ∧ (j < 0 → u = .int .u64 (v (f + j)))) ∧ ∀ j, j < k → w1.frozen? ⟨x.heap.size, j, none⟩ = false) :=
    ⟨fun j hj => ⟨.int .u64 0, by rw [hown1.cellAt j (by omega)]; simp [hj], fun h => by omega⟩, fun j hj => hown1.frozenAt j⟩
  generalize hgg : x.heap.size = g at *
  have HG : Hid (x.heap.size = g) := hgg
  have HB := hide hb1
  have HR := hide h
  clear hown hgrow hgg hown1 hb1 c0 h
  go_wp2
  go_loopw [22] (fun i wr => ∃ m : Nat, m ≤ k ∧ i = .int .i64 m ∧ Below g x wr ∧ (∀ j, j < k → ∃ u, wr.cell? ⟨g, j, none⟩ = some u ∧ (j < m → u = .int .u64 (v (f + j)))) ∧ ∀ j, j < k → wr.frozen? ⟨g, j, none⟩ = false) (fun i _ => k - (intOf i).toNat)
  case atStart => exact ⟨0, Nat.zero_le _, rfl, HB.out, H0.out.1, H0.out.2⟩
  case round =>
    obtain ⟨m, hm, rfl, hb, hcs, hfs⟩ := hrel
    have hR : RowIs wr r b n v won lost := HR.out.under (by rw [HG.out]; exact hb)
    have HC := hide hcs
    have HF := hide hfs
    have HB' := hide hb
    clear hcs hfs hb H0
    by_cases hlt : m < k
    · obtain ⟨u, hu, -⟩ := HC.out m hlt
      have hf := HF.out m hlt
      have hload := u64_load b (f + m) (v (f + m)) wr (hR.cs _ (by omega))
      have c0 := hR.c0
      have hfm : (f : Int) + (m : Int) = ((f + m : Nat) : Int) := by omega
      obtain ⟨q, hq⟩ : ∃ q, q = f + m := ⟨_, rfl⟩
      rw [← hq] at hload hfm
      have hqn : q < n := by omega
      have HQ := hide hq
      clear hq hR
      go_wp2_with fail
      refine hload.mono ?_
      rintro e y ⟨rfl, rfl⟩
      go_wp2
      go_roundw
      case rel =>
        refine ⟨m + 1, by omega, by go_num, HB'.out.setCell (Nat.le_refl _) _, fun j hj => ?_, fun j hj => by rw [World.frozen?_setCell]; exact HF.out j hj⟩
        by_cases e : j = m
        · subst e
          exact ⟨_, World.cell?_setCell_same _ _ _ hu, fun _ => by rw [HQ.out]⟩
        · obtain ⟨u', h1, h2⟩ := HC.out j hj
          exact ⟨u', by rw [cell_set_off _ _ _ _ (fun c => e c.symm)]; exact h1, fun hl => h2 (by omega)⟩
      case measure => simp [intOf]; omega
    · go_wp2
      go_ret2
      have e : m = k := by omega
      subst e
      refine ⟨g, rfl, fun j hj => ⟨g, 0, rfl, ?_⟩, by rw [HG.out]; exact Nat.le_refl _, by rw [HG.out]; exact HB'.out⟩
      obtain ⟨u, h1, h2⟩ := HC.out j hj
      rw [Nat.zero_add, h1, h2 hj]
/-- Some words are written. -/
def fillV (v : Nat → Int) (f k : Nat) (z : Nat → Int) : Nat → Int := fun j => if f ≤ j ∧ j < f + k then z (j - f) else v j
set_option maxHeartbeats 1000000 in
theorem rfill {r b n : Nat} {v : Nat → Int} {won lost : Int} {w : World} (h : RowIs w r b n v won lost) (hn : n ≤ 65536) (f k cap : Nat) (hfk : f + k ≤ n) (ao : Option Addr) (z : Nat → Int) (hs : Sl .u64 w ao k z) (hz : 0 < k → ∀ g off, ao = some ⟨g, off, none⟩ → ¬ InRow r b g) :
    Calls Try.prog 77 #[.pointer (some ⟨r, 0, none⟩), .int .i64 (f : Int), .slice ao k cap] w fun e w' => e = .returned (.int .i64 0) ∧ RowIs w' r b n (fillV v f k z) won lost ∧ Keeps (InRow r b) w w' := by
  have c0 := h.c0
  have HS := hide hs
  have HZ := hide hz
  have HR := hide h
  clear hs hz
  go_enter Try.func77, Try.ntmps77
  go_wp2_with fail
  refine (many_yes r _ n n f k hn hfk _ c0).mono ?_
  rintro e x ⟨rfl, rfl⟩
  clear h c0
  go_wp2
  go_loopw [20] (fun i wr => ∃ m : Nat, m ≤ k ∧ i = .int .i64 m ∧ Keeps (InRow r b) x wr ∧ RowIs wr r b n (fillV v f m z) won lost) (fun i _ => k - (intOf i).toNat)
  case atStart => exact ⟨0, Nat.zero_le _, rfl, Keeps.refl _ _, HR.out.same (fun i _ => by simp [fillV]; omega)⟩
  case round =>
    obtain ⟨m, hm, rfl, hk, hR⟩ := hrel
    have HK := hide hk
    clear hk
    by_cases hlt : m < k
    · obtain ⟨g, off, rfl, hc⟩ := HS.out m hlt
      have hc' : wr.cell? ⟨g, off + m, none⟩ = some (.int .u64 (z m)) := by
        rw [HK.out.cell (World.block_lt_of_cell? x _ hc) (HZ.out (by omega) g off rfl)]; exact hc
      have hst := u64_store b (f + m) _ (z m) wr (hR.cs _ (by omega)) (hR.fs _ (by omega))
      have c0 := hR.c0
      have hfm : (f : Int) + (m : Int) = ((f + m : Nat) : Int) := by omega
      have HW : Hid (RowIs (wr.setCell ⟨b, f + m, none⟩ (.int .u64 (z m))) r b n (fillV v f (m + 1) z) won lost) := (hR.word (f + m) (by omega) (z m)).same (fun j hj => by
        unfold updV fillV
        by_cases e : j = f + m
        · subst e; simp
        · rw [if_neg e]
          by_cases e2 : f ≤ j ∧ j < f + m
          · rw [if_pos e2, if_pos (by omega)]
          · rw [if_neg e2, if_neg (by omega)])
      have HK2 : Hid (Keeps (InRow r b) x (wr.setCell ⟨b, f + m, none⟩ (.int .u64 (z m)))) := HK.out.setCell _ (fun _ => .inr rfl) _
      obtain ⟨q, hq⟩ : ∃ q, q = f + m := ⟨_, rfl⟩
      rw [← hq] at hst hfm HW HK2
      have hqn : q < n := by omega
      clear hq hR hc
      generalize z m = zz at *
      go_wp2_with fail
      refine hst.mono ?_
      rintro e y ⟨rfl, rfl⟩
      go_wp2
      go_roundw
      case rel => exact ⟨m + 1, by omega, by go_num, HK2.out, HW.out⟩
      case measure => simp [intOf]; omega
    · go_wp2
      go_ret
      have e : m = k := by omega
      subst e
      exact ⟨rfl, hR, HK.out⟩
end Go.Proofs.Ytikpphbgjbfddaa
