/- The program's index: the entries of a chain. -/
import Derived.Test.YtmpnbaiolmkhlaaIq
namespace Go.Proofs.Ytmpnbaiolmkhlaa
set_option maxRecDepth 20000
open Go.RowKit
/-- A row of words of one's own, or nil. -/
def OwN (w : World) (base : Nat) (v : Value) (l : List Nat) : Prop := w.ownsRow base 32 1 v l.length (uintsN l)
/-- What an append to a row of one's own leaves. -/
theorem rowN_push {w X Y w1 : World} {v : Value} {q p' L : Nat} {xs : List Value} {e : TypeId} (hbel : Below w.heap.size w X) (hX : Below X.heap.size X Y) (hq : q < X.heap.size) (hpq : v.ownBlock ≠ some q) (ho : Y.ownsRow w.heap.size e 1 v L xs)
    (hgr : Y.grownBy w1 v.ownBlock) (hat : v.ownBlock = some p' ∨ p' = X.heap.size + 1) : Below w.heap.size w w1 ∧ p' ≠ q ∧ q < w1.heap.size ∧ (∀ i, w1.cell? ⟨q, i, none⟩ = X.cell? ⟨q, i, none⟩) := by
  have hqY : q < Y.heap.size := Nat.lt_of_lt_of_le hq hX.size
  refine ⟨(hbel.trans (hX.mono hbel.size)).grown hgr (Nat.le_trans hbel.size hX.size) (fun k hk => (ho.lt k hk).1), ?_, Nat.lt_of_lt_of_le hqY hgr.size, fun i => ?_⟩
  · rcases hat with h | h
    · intro e; subst e; exact hpq h
    · omega
  · have K := (Keeps.refl (fun k => v.ownBlock = some k) Y).grown hgr (fun k hk _ => hk)
    rw [K.cell (p := ⟨q, i, none⟩) hqY hpq, hX.cell (p := ⟨q, i, none⟩) hq]
set_option maxHeartbeats 2000000 in
theorem px_entries {w : World} {x rr rb tr tb B S : Nat} {g : Nat → Nat} {T won lost : Nat} {lk : Int} (h : PxIs w x rr rb tr tb B S g T won lost lk) {b : Nat} {c : List Nat} (hp : IxPath g b c) (hl : c.length ≤ B + S) (hlt : ∀ y ∈ c, y < B + S) :
    Calls Try.prog 30 #[.pointer (some ⟨x, 0, none⟩), .int .i64 (b : Int)] w fun e w' => ∃ ao cap, e = .returned (.slice ao (ixEnts g (ixSlots c)).length cap) ∧ OwN w' w.heap.size (.slice ao (ixEnts g (ixSlots c)).length cap) (ixEnts g (ixSlots c)) ∧ Below w.heap.size w w' := by
  obtain ⟨i0, hi, hz0, hz1, hz2⟩ := info_parts Try.infoU64
  have hbs := h.bs
  have H := hide h
  have HC := hide (px_chain h hp hl hlt)
  have HL := hide hlt
  have hpos := hp.pos
  have hsl : (ixSlots c).length ≤ 20000 := by rw [ixSlots_length]; omega
  clear h hp hlt
  go_enter Try.func30, Try.ntmps30
  go_wp2_with fail
  refine HC.out.mono ?_
  rintro e y ⟨v, rfl, ho, b1⟩
  obtain ⟨q, capq, rfl, hq1, hq2, hqc⟩ := own_slI ho hpos
  have HRD := hide (px_read (capq := capq) (H.out.below b1) hqc (by omega) hq2 HL.out)
  clear ho hq1 hqc
  go_wp2_with fail
  refine HRD.out.mono ?_
  rintro e y2 ⟨ps, caps, rfl, hos, b2⟩
  have HSP := hide hos.at
  have hB := b1.trans (b2.mono b1.size)
  have hps : w.heap.size ≤ ps ∧ ps < y2.heap.size := by
    have := World.ownsRow.lt hos ps rfl
    have := b1.size
    omega
  have hO : OwN y2 w.heap.size (.slice none 0 0) [] := World.ownsRow_nil _ _ _ _
  have HN : Hid (∀ k, k < (ixSlots c).length → ixEnts g ((ixSlots c).take (k + 1)) = ixEnts g ((ixSlots c).take k) ++ (if g ((ixSlots c).getD k 0) = 0 then [] else [g ((ixSlots c).getD k 0)])) := fun k hk => by
    rw [show (ixSlots c).take (k + 1) = (ixSlots c).take k ++ [(ixSlots c).getD k 0] by
      rw [List.take_succ_eq_append_getElem hk, List.getD_eq_getElem?_getD, List.getElem?_eq_getElem hk]; rfl, ixEnts_snoc]
  have HLE : Hid (∀ k, (ixEnts g ((ixSlots c).take k)).length ≤ 20000) := fun k => by
    have h1 := ixEnts_length g ((ixSlots c).take k)
    have h2 := List.length_take_le' k (ixSlots c)
    omega
  clear hos b1 b2 HC HRD hpos
  obtain ⟨sl, HSL⟩ : ∃ sl, Hid (ixSlots c = sl) := ⟨_, rfl⟩
  rw [HSL.out] at HSP HN HLE hsl ⊢
  go_wp2
  go_loopw [5, 14] (fun vo vi wr => ∃ (i : Nat) (ao : Option Addr) (cap : Nat), i ≤ sl.length ∧ vi = .int .i64 (i : Int) ∧ vo = .slice ao (ixEnts g (sl.take i)).length cap ∧ OwN wr w.heap.size (.slice ao (ixEnts g (sl.take i)).length cap) (ixEnts g (sl.take i)) ∧ (Value.slice ao (ixEnts g (sl.take i)).length cap).ownBlock ≠ some ps ∧ ps < wr.heap.size ∧ (∀ j, wr.cell? ⟨ps, j, none⟩ = y2.cell? ⟨ps, j, none⟩) ∧ Below w.heap.size w wr)
    (fun _ vi _ => sl.length - (intOf vi).toNat)
  case atStart => exact ⟨0, none, 0, Nat.zero_le _, rfl, by rfl, hO, by simp [Value.ownBlock], hps.2, fun _ => rfl, hB⟩
  case round =>
    clear hO hB
    obtain ⟨i, ao, cap, hi', rfl, rfl, hown, hpq, hqs, hsame, hbel⟩ := hrel
    by_cases hlt : i < sl.length
    · obtain ⟨c0, c1⟩ := HSP.out i hlt
      have d0 := (hsame (i * 2)).trans c0
      have d1 := (hsame (i * 2 + 1)).trans c1
      have hN := HN.out i hlt
      have hLE := HLE.out i
      have hLE2 := HLE.out (i + 1)
      generalize sl.getD i 0 = s at *
      have hb2 := (Below.refl wr.heap.size wr).alloc (Nat.le_refl _) (.cells #[.int .i64 (s : Int), .int .u64 (g s : Int)] 90)
      have HF := hide (fit_free (g s) (wr.alloc (.cells #[.int .i64 (s : Int), .int .u64 (g s : Int)] 90)))
      have e1 : (wr.alloc (.cells #[.int .i64 (s : Int), .int .u64 (g s : Int)] 90)).cell? ⟨wr.heap.size, 1, none⟩ = some (.int .u64 (g s : Int)) := by simp
      have hwl := hbel.size
      generalize g s = G at *
      clear c0 c1
      by_cases hG : G = 0
      · rw [if_pos hG, List.append_nil] at hN
        have HN2 := hide hN
        have hd : decide (G = 0) = true := decide_eq_true hG
        rw [hd] at HF
        have HSM := hide hsame
        clear hN hd hG hsame
        go_wp2_with fail
        refine HF.out.mono ?_
        rintro e z ⟨rfl, bz⟩
        have hbz := hb2.trans (bz.mono hb2.size)
        go_wp2
        go_roundw
        case rel => exact ⟨i + 1, ao, cap, by omega, by go_num, by rw [HN2.out], by rw [HN2.out]; exact own_below hown hbz, by rw [HN2.out]; exact hpq, Nat.lt_of_lt_of_le hqs hbz.size, fun j => (hbz.cell (p := ⟨ps, j, none⟩) hqs).trans (HSM.out j), hbel.trans (hbz.mono hbel.size)⟩
        case measure => simp [intOf]; omega
      · rw [if_neg hG] at hN
        have HN2 := hide hN
        have hll : (ixEnts g (sl.take (i + 1))).length = (ixEnts g (sl.take i)).length + 1 := by rw [hN, List.length_append]; rfl
        have hd : decide (G = 0) = false := decide_eq_false hG
        rw [hd] at HF
        have HLL := hide hll
        have HSM := hide hsame
        clear hN hd hll hsame
        generalize ixEnts g (sl.take i) = le at *
        go_wp2_with fail
        refine HF.out.mono ?_
        rintro e z ⟨rfl, bz⟩
        have hbz := hb2.trans (bz.mono hb2.size)
        have f1 := (bz.cell (p := ⟨wr.heap.size, 1, none⟩) (by simp)).trans e1
        have hownz : OwN z w.heap.size _ le := own_below hown hbz
        have hbelz := hbel.trans (hbz.mono hbel.size)
        have hqz := Nat.lt_of_lt_of_le hqs hbz.size
        have HSZ : Hid (∀ j, z.cell? ⟨ps, j, none⟩ = y2.cell? ⟨ps, j, none⟩) := fun j => (hbz.cell (p := ⟨ps, j, none⟩) hqs).trans (HSM.out j)
        have hX := (Below.refl z.heap.size z).alloc (Nat.le_refl _) (.cells #[.int .u64 (G : Int)] 32)
        have hown2 := own_below hownz hX
        have hnews := cell_one z (.int .u64 (G : Int)) 32
        have hbase := hbelz.size
        have HPU : Hid (∀ (w1 : World) (p' : Nat), _ → _ → _) := fun w1 p' hgr hat => rowN_push (w1 := w1) (p' := p') (X := z) hbelz hX hqz hpq hown2 hgr hat
        clear hX hb2 bz hbz d0 d1 e1 hown HF hownz
        go_wp2_with (at_builtin; refine wpList_append_lies _ rfl _ _ 37 rfl w.heap.size 32 i0 (.int .u64 0) 1 8 Try.underlying37 hi hz0 hz1 hz2 rfl (by decide) _ _ _ rfl hown2 ⟨z.heap.size, 0, none⟩ 1 1 [.int .u64 (G : Int)] rfl rfl hnews one_int (by decide) ?c3 ?c4 ?c5 (z.heap.size + 1) (by simp) ?_)
        case c3 => unfold maxLen; omega
        case c4 => omega
        case c5 => first | omega | (simp; omega)
        intro p' cap' w1 hown' hgrow hat' hlt'
        obtain ⟨k1, k2, k3, k4⟩ := HPU.out w1 p' hgrow hat'
        clear hgrow hat' hlt' hown2 hnews HPU
        go_wp2
        go_roundw
        case rel => exact ⟨i + 1, some ⟨p', 0, none⟩, cap', by omega, by go_num, by rw [HLL.out], by rw [HN2.out]; unfold OwN; rw [uintsN_snoc, List.length_append]; exact hown', by intro e; apply k2; simpa [Value.ownBlock] using e, k3, fun j => (k4 j).trans (HSZ.out j), k1⟩
        case measure => simp [intOf]; omega
    · have e : i = sl.length := by omega
      subst e
      have hsl' := HSL.out
      rw [List.take_length] at hown ⊢
      subst hsl'
      go_wp2
      go_ret
      exact ⟨ao, cap, rfl, hown, hbel⟩
end Go.Proofs.Ytmpnbaiolmkhlaa
