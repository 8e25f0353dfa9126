/- slices.DeleteFunc with isFresh. -/
import Derived.Test.YtmpnbaiolmkhlaaIw
import Derived.Lib.SliceRun
import Derived.BigFrame
namespace Go.Proofs.Ytmpnbaiolmkhlaa
set_option maxRecDepth 20000
open Go.RowKit
theorem is_fresh (y : Nat) (hy : IxEn y) (w : World) :
    Calls Try.prog 32 #[.int .u64 (y : Int)] w fun e w' => e = .returned (.bool (ixFresh y)) ∧ Below w.heap.size w w' := by
  obtain ⟨a, t, f, hE, rfl⟩ := hy
  have HU := hide (pack_reads a t f hE).2
  rw [entN_fresh hE]
  clear hE
  generalize entN a t f = y at *
  simp only [enV] at HU
  go_enter Try.func32, Try.ntmps32
  go_wp2_with fail
  refine (HU.out _).mono ?_
  rintro e z ⟨rfl, b1⟩
  have b2 := b1.alloc b1.size (.cells #[.int .u64 (a : Int), .int .u64 (t : Int), .bool f] 40)
  go_wp2
  go_ret
  exact ⟨ret_bool (by first | rfl | simp), b2⟩
/-- A row of n words in block p, which may be written. -/
structure RwC (w : World) (p n : Nat) (z : Nat → Nat) : Prop where
  cs : ∀ t, t < n → w.cell? ⟨p, t, none⟩ = some (.int .u64 (z t : Int))
  fs : ∀ t, t < n → w.frozen? ⟨p, t, none⟩ = false
  lt : p < w.heap.size
theorem RwC.below {w w' : World} {p n : Nat} {z : Nat → Nat} (h : RwC w p n z) (hb : Below w.heap.size w w') : RwC w' p n z :=
  ⟨fun t ht => (hb.cell (p := ⟨p, t, none⟩) h.lt).trans (h.cs t ht), fun t ht => (hb.frozen (p := ⟨p, t, none⟩) h.lt).trans (h.fs t ht), Nat.lt_of_lt_of_le h.lt hb.size⟩
theorem RwC.put {w : World} {p n : Nat} {z : Nat → Nat} (h : RwC w p n z) (i y : Nat) (hi : i < n) : RwC (w.setCell ⟨p, i, none⟩ (.int .u64 (y : Int))) p n (ixUpd z i y) := by
  refine ⟨fun t ht => ?_, fun t ht => by rw [World.frozen?_setCell]; exact h.fs t ht, by simpa using h.lt⟩
  by_cases e : t = i
  · subst e; rw [ixUpd_same]; exact World.cell?_setCell_same _ _ _ (h.cs t hi)
  · rw [ixUpd_ne e, cell_set_off _ _ _ _ (fun e' => e e'.symm)]; exact h.cs t ht
theorem OwN.rwc {w : World} {base : Nat} {ao : Option Addr} {cap : Nat} {l : List Nat} (h : OwN w base (.slice ao l.length cap) l) (hn : 0 < l.length) : ∃ p, ao = some ⟨p, 0, none⟩ ∧ base ≤ p ∧ l.length ≤ cap ∧ RwC w p l.length (fun t => l.getD t 0) := by
  obtain ⟨g, cap', he, hb, hl⟩ := own_form h hn
  cases he
  have hc := own_cap h
  refine ⟨g, rfl, hb, hc.1, fun t ht => ?_, fun t ht => ?_, hl⟩
  · rw [own_cellsU h rfl t ht, List.getD_eq_getElem?_getD]
  · rcases h.2 with ⟨e, _⟩ | ⟨g', cap', cur, e, _, hg, _⟩
    · cases e
    · cases e
      simp [World.frozen?, hg]
theorem keeps_setCells {S : Nat → Prop} (p : Nat) (hS : S p) : ∀ (vs : List Value) (o : Nat) (w : World), Keeps S w (w.setCells p o vs)
  | [], _, w => Keeps.refl S w
  | v :: r, o, w => ((Keeps.refl S w).setCell ⟨p, o, none⟩ (fun _ => hS) v).trans (keeps_setCells p hS r (o + 1) _) (fun _ _ h => h)
set_option maxHeartbeats 2000000 in
/-- slices.IndexFunc with isFresh. -/
theorem sIndexFunc {w : World} {ao : Option Addr} {cap : Nat} {l : List Nat} (hs : Sl .u64 w ao l.length (fun t => (l.getD t 0 : Int))) (hl : l.length ≤ 20000) (hy : ∀ y ∈ l, IxEn y) :
    Calls Try.prog 69 #[.slice ao l.length cap, .func (.func 32) #[] #[]] w fun e w' =>
      (∃ i : Nat, i < l.length ∧ e = .returned (.int .i64 (i : Int)) ∧ ixFresh (l.getD i 0) = true ∧ (l.take i).filter (fun x => !ixFresh x) = l.take i ∧ Below w.heap.size w w') ∨ (e = .returned (.int .i64 (-1)) ∧ l.filter (fun x => !ixFresh x) = l ∧ Below w.heap.size w w') := by
  have HS := hide hs
  have HY := hide hy
  clear hs hy
  go_enter Try.func69, Try.ntmps69
  go_wp2
  go_loopw [8] (fun vi wr => ∃ i : Nat, i ≤ l.length ∧ vi = .int .i64 (i : Int) ∧ (l.take i).filter (fun x => !ixFresh x) = l.take i ∧ Below w.heap.size w wr) (fun vi _ => l.length - (intOf vi).toNat)
  case atStart => exact ⟨0, Nat.zero_le _, rfl, by simp, Below.refl _ _⟩
  case round =>
    obtain ⟨i, hi, rfl, hno, hbel⟩ := hrel
    by_cases hlt : i < l.length
    · obtain ⟨b, off, hao, hc⟩ := (HS.out).below hbel i hlt
      simp only at hc
      have hn := take_filter hlt (fun x => !ixFresh x)
      have hcut : l.take (i + 1) = l.take i ++ [l.getD i 0] := by
        rw [List.take_succ_eq_append_getElem hlt, List.getD_eq_getElem?_getD, List.getElem?_eq_getElem hlt]; rfl
      have HC := hide (is_fresh (l.getD i 0) (HY.out _ (getD_mem hlt)) wr)
      have HF : Hid (∀ y, l.getD i 0 = y → ixFresh y = true → ixFresh (l.getD i 0) = true) := fun y e h => by rw [e]; exact h
      obtain ⟨y, hye⟩ : ∃ y, l.getD i 0 = y := ⟨_, rfl⟩
      have HYE := hide hye
      rw [hye] at hc HC hn hcut
      rw [hno] at hn
      have HNO := hide hno
      subst hao
      clear hye hno
      cases hq : ixFresh y with
      | false =>
        rw [hq] at HC hn
        have HN2 : Hid ((l.take (i + 1)).filter (fun x => !ixFresh x) = l.take (i + 1)) := by rw [Hid, hn, hcut]; rfl
        clear hn hcut
        go_wp2_with fail
        refine HC.out.mono ?_
        rintro e z ⟨rfl, bz⟩
        go_wp2
        go_roundw
        case rel => exact ⟨i + 1, by omega, by go_num, HN2.out, hbel.trans (bz.mono hbel.size)⟩
        case measure => simp [intOf]; omega
      | true =>
        rw [hq] at HC
        clear hn hcut
        go_wp2_with fail
        refine HC.out.mono ?_
        rintro e z ⟨rfl, bz⟩
        go_wp2
        go_ret
        exact .inl ⟨i, hlt, rfl, HF.out y HYE.out hq, HNO.out, hbel.trans (bz.mono hbel.size)⟩
    · have e : i = l.length := by omega
      subst e
      rw [List.take_length] at hno
      go_wp2
      go_ret
      exact .inr ⟨rfl, hno, hbel⟩
end Go.Proofs.Ytmpnbaiolmkhlaa
