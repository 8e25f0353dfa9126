/- The reference's index in memory: Chain. -/
import Derived.Test.YtmpnbaiolmkhlaaIb
import Derived.Test.YtmpnbaiolmkhlaaWx
import Derived.Deep.AppendLies
import Derived.Deep.RegionHeld3
namespace Go.Proofs.Ytmpnbaiolmkhlaa
set_option maxRecDepth 20000
open Go.RowKit
/-- The reference's index: its struct in block m, its words in block r. -/
structure RxIs (w : World) (m r B S : Nat) (g : Nat → Nat) (T won lost : Nat) : Prop where
  ne : m ≠ r
  c0 : w.cell? ⟨m, 0, none⟩ = some (.int .i64 (B : Int))
  c1 : w.cell? ⟨m, 1, none⟩ = some (.int .i64 (S : Int))
  c2 : w.cell? ⟨m, 2, none⟩ = some (.slice (some ⟨r, 0, none⟩) (B + S) (B + S))
  f2 : w.frozen? ⟨m, 2, none⟩ = false
  c3 : w.cell? ⟨m, 3, none⟩ = some (.int .i64 (T : Int))
  f3 : w.frozen? ⟨m, 3, none⟩ = false
  c4 : w.cell? ⟨m, 4, none⟩ = some (.int .i64 (won : Int))
  f4 : w.frozen? ⟨m, 4, none⟩ = false
  c5 : w.cell? ⟨m, 5, none⟩ = some (.int .i64 (lost : Int))
  f5 : w.frozen? ⟨m, 5, none⟩ = false
  cs : ∀ b, b < B + S → ∀ k, k < 8 → w.cell? ⟨r, b * 8 + k, none⟩ = some (.int .u64 (g (8 * b + k) : Int))
  fs : ∀ b, b < B + S → ∀ k, k < 8 → w.frozen? ⟨r, b * 8 + k, none⟩ = false
  bs : 1 ≤ B ∧ B ≤ 1024 ∧ S ≤ 64
  few : T ≤ 1000000 ∧ won ≤ 1000000 ∧ lost ≤ 1000000
section
variable {w w' : World} {m r B S : Nat} {g : Nat → Nat} {T won lost : Nat}
theorem RxIs.lt (h : RxIs w m r B S g T won lost) : m < w.heap.size ∧ r < w.heap.size := ⟨World.block_lt_of_cell? w _ h.c0, World.block_lt_of_cell? w _ (h.cs 0 (by have := h.bs; omega) 0 (by omega))⟩
theorem RxIs.keep (h : RxIs w m r B S g T won lost) {M : Nat → Prop} (hk : Keeps M w w') (h1 : ¬ M m) (h2 : ¬ M r) : RxIs w' m r B S g T won lost := by
  obtain ⟨l1, l2⟩ := h.lt
  exact ⟨h.ne, by rw [hk.cell l1 h1]; exact h.c0, by rw [hk.cell l1 h1]; exact h.c1, by rw [hk.cell l1 h1]; exact h.c2, by rw [hk.frozen l1 h1]; exact h.f2, by rw [hk.cell l1 h1]; exact h.c3, by rw [hk.frozen l1 h1]; exact h.f3,
    by rw [hk.cell l1 h1]; exact h.c4, by rw [hk.frozen l1 h1]; exact h.f4, by rw [hk.cell l1 h1]; exact h.c5, by rw [hk.frozen l1 h1]; exact h.f5, fun b hb k hk' => by rw [hk.cell l2 h2]; exact h.cs b hb k hk', fun b hb k hk' => by rw [hk.frozen l2 h2]; exact h.fs b hb k hk', h.bs, h.few⟩
theorem RxIs.below (h : RxIs w m r B S g T won lost) (hb : Below w.heap.size w w') : RxIs w' m r B S g T won lost := h.keep (Below.keeps (S := fun _ => False) hb) id id
theorem RxIs.congr (h : RxIs w m r B S g T won lost) {g' : Nat → Nat} (hg : ∀ i, i < 8 * (B + S) → g i = g' i) : RxIs w m r B S g' T won lost :=
  ⟨h.ne, h.c0, h.c1, h.c2, h.f2, h.c3, h.f3, h.c4, h.f4, h.c5, h.f5, fun b hb k hk => by rw [← hg _ (by omega)]; exact h.cs b hb k hk, h.fs, h.bs, h.few⟩
end
theorem own_slI {w : World} {base : Nat} {v : Value} {l : List Nat} (h : w.ownsRow base 3 1 v l.length (intsN l)) (hn : 0 < l.length) : ∃ b cap, v = .slice (some ⟨b, 0, none⟩) l.length cap ∧ base ≤ b ∧ b < w.heap.size ∧ ∀ j, j < l.length → w.cell? ⟨b, j, none⟩ = some (.int .i64 (l.getD j 0 : Int)) := by
  obtain ⟨b, cap, rfl, h1, h2⟩ := own_form h hn
  refine ⟨b, cap, rfl, h1, h2, fun j hj => ?_⟩
  rw [own_cellsN h rfl j hj, List.getD_eq_getElem?_getD]
set_option maxHeartbeats 1000000 in
theorem rx_chain {w : World} {m r B S : Nat} {g : Nat → Nat} {T won lost : Nat} (h : RxIs w m r B S g T won lost) {b : Nat} {l : List Nat} (hp : IxPath g b l) (hl : l.length ≤ B + S) (hlt : ∀ x ∈ l, x < B + S) :
    Calls Try.prog 40 #[.pointer (some ⟨m, 0, none⟩), .int .i64 (b : Int)] w fun e w' => ∃ v, e = .returned v ∧ w'.ownsRow w.heap.size 3 1 v l.length (intsN l) ∧ Below w.heap.size w w' := by
  obtain ⟨i0, hi, hz0, hz1, hz2⟩ := info_parts Try.infoInt
  have hpos := hp.pos
  have hb : b < B + S := by have := hlt _ (getD_mem hpos); rw [hp.zero] at this; exact this
  have hbs := h.bs
  have hO0 := World.ownsRow_made (base := w.heap.size) (e := 3) (size := 1) w #[] 0 (Nat.le_refl _) (by decide) (by simp)
  have hb0 := (Below.refl w.heap.size w).alloc (Nat.le_refl _) (.cells #[] 3)
  have H := hide h
  have hRw := h.below hb0
  have c2 := hRw.c2
  clear hRw
  have H1 : Hid (intsN (l.take 1) = [Value.int .i64 (b : Int)]) := by
    obtain ⟨u, rfl⟩ := hp.head
    show _ = _
    simp [intsN]
  have HP := hide hp
  have HL := hide hlt
  have HZ : Hid (l.getD 0 0 = b) := hp.zero
  clear hp hlt
  generalize hll : l.length = n at *
  have hown2 := hO0.alloc (.cells #[.int .i64 (b : Int)] 3)
  have hnews := cell_one (w.alloc (.cells #[] 3)) (.int .i64 (b : Int)) 3
  rw [show (w.alloc (.cells #[] 3)).heap.size = w.heap.size + 1 by simp] at hnews
  go_enter Try.func40, Try.ntmps40
  go_wp2_with (at_builtin; refine wpList_append_own _ rfl _ _ 59 rfl w.heap.size 3 i0 (.int .i64 0) 1 8 Try.underlying59 hi hz0 hz1 hz2 rfl (by decide) _ _ _ rfl hown2 ⟨w.heap.size + 1, 0, none⟩ 1 1 [.int .i64 (b : Int)] rfl rfl ?c1 ?c2 ?c3 ?c4 ?c5 ?_)
  case c1 => exact hnews
  case c2 => exact one_int
  case c3 => unfold maxLen; omega
  case c4 => omega
  case c5 => simp; omega
  intro v' w1 hown' hgrow _
  have R := grow_step hO0 (by simp) hb0 hgrow
  clear hgrow hown2 hnews hO0 hb0 c2
  go_wp2
  go_loopw [1, 5] (fun vb vo wr => ∃ k : Nat, k < n ∧ vb = .int .i64 (l.getD k 0 : Int) ∧ wr.ownsRow w.heap.size 3 1 vo (k + 1) (intsN (l.take (k + 1))) ∧ Below w.heap.size w wr)
    (fun vb vo _ => n - (match vo with | .slice _ n _ => n | _ => 0))
  case atStart => exact ⟨0, hpos, by rw [HZ.out], by rw [H1.out]; exact hown', R⟩
  case round =>
    clear hown' R H1 HZ
    obtain ⟨k, hk, rfl, hown, hbel⟩ := hrel
    obtain ⟨q, cap, rfl, hq1, hq2⟩ := own_form hown (by omega)
    have hsz := hbel.size
    have hRw := H.out.below hbel
    have c2 := hRw.c2
    have hx := HL.out _ (getD_mem (l := l) (j := k) (by omega))
    have cc := hRw.cs _ hx 7 (by omega)
    clear hRw
    by_cases hlt : k + 1 < n
    · have hG := HP.out.on k (by omega)
      have hy := HL.out _ (getD_mem (l := l) (j := k + 1) (by omega))
      have HT : Hid (intsN (l.take (k + 1 + 1)) = intsN (l.take (k + 1)) ++ [Value.int .i64 ((l.getD (k + 1) 0 : Nat) : Int)]) := by
        show _ = _
        rw [List.take_succ_eq_append_getElem (by omega), intsN_snoc, List.getD_eq_getElem?_getD, List.getElem?_eq_getElem (by omega)]; rfl
      generalize l.getD k 0 = x at *
      obtain ⟨y, HY⟩ : ∃ y, Hid (l.getD (k + 1) 0 = y) := ⟨_, rfl⟩
      rw [HY.out] at hG hy HT
      obtain ⟨G, hGG⟩ : ∃ G, g (8 * x + 7) = G := ⟨_, rfl⟩
      rw [hGG] at cc hG
      clear hGG
      have hG1 : (G : Int) - 1 = (y : Int) := by omega
      have hG2 : 0 < G := by omega
      have hG3 : G < 2000 := by omega
      clear hG
      have hown2 := hown.alloc (.cells #[.int .i64 (y : Int)] 3)
      go_wp2_with (at_builtin; refine wpList_append_own _ rfl _ _ 59 rfl w.heap.size 3 i0 (.int .i64 0) 1 8 Try.underlying59 hi hz0 hz1 hz2 rfl (by decide) _ _ _ rfl hown2 ⟨wr.heap.size, 0, none⟩ 1 1 [.int .i64 (y : Int)] rfl rfl ?c1 ?c2 ?c3 ?c4 ?c5 ?_)
      case c1 => exact cell_one _ _ _
      case c2 => exact one_int
      case c3 => unfold maxLen; omega
      case c4 => omega
      case c5 => simp; omega
      intro v' w1 hown' hgrow _
      have R := grow_step hown hsz hbel hgrow
      have hf := own_form hown' (by omega)
      obtain ⟨q', cap', rfl, _, _⟩ := hf
      clear hgrow hown hown2 hbel
      go_wp2
      go_roundw
      case rel => exact ⟨k + 1, by omega, by rw [HY.out], by rw [HT.out]; exact hown', R⟩
      case measure => simp; omega
    · have e : k + 1 = n := by omega
      have hz := HP.out.end
      have ek : ixLast l = l.getD k 0 := by unfold ixLast; rw [show l.length - 1 = k by omega]
      rw [ek] at hz
      rw [hz] at cc
      have HT : Hid (l.take (k + 1) = l) := List.take_of_length_le (by omega)
      generalize l.getD k 0 = x at *
      go_wp2
      go_ret
      rw [HT.out, e] at hown
      rw [e]
      exact ⟨_, rfl, hown, hbel⟩
end Go.Proofs.Ytmpnbaiolmkhlaa
