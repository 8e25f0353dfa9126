/- The program's index: the slots of a chain, read. -/
import Derived.Test.YtmpnbaiolmkhlaaIn
import Derived.Deep.AppendLies
namespace Go.Proofs.Ytmpnbaiolmkhlaa
set_option maxRecDepth 20000
open Go.RowKit
theorem Try.infoSpot : (Try.prog.info? 90).map (fun i => (i.zero, i.size, i.bytes)) = some (some (.agg #[.int .i64 0, .int .u64 0]), 2, 16) := by kernel_rfl
/-- Slots with their words, as cells. -/
def spotsN (g : Nat → Nat) (l : List Nat) : List Value := l.flatMap fun (s : Nat) => [Value.int .i64 (s : Int), Value.int .u64 (g s : Int)]
theorem spotsN_snoc (g : Nat → Nat) (l : List Nat) (s : Nat) : spotsN g (l ++ [s]) = spotsN g l ++ [Value.int .i64 (s : Int), Value.int .u64 (g s : Int)] := by simp [spotsN]
theorem spotsN_length (g : Nat → Nat) (l : List Nat) : (spotsN g l).length = l.length * 2 := by
  induction l with
  | nil => rfl
  | cons a l ih => simp only [spotsN, List.flatMap_cons, List.length_append, List.length_cons, List.length_nil] at ih ⊢; omega
theorem spotsN_get (g : Nat → Nat) (l : List Nat) (j : Nat) (hj : j < l.length) : (spotsN g l)[2 * j]? = some (.int .i64 (l.getD j 0 : Int)) ∧ (spotsN g l)[2 * j + 1]? = some (.int .u64 (g (l.getD j 0) : Int)) := by
  induction l generalizing j with
  | nil => simp at hj
  | cons a l ih =>
    have e : spotsN g (a :: l) = Value.int .i64 (a : Int) :: Value.int .u64 (g a : Int) :: spotsN g l := by simp [spotsN]
    rw [e]
    cases j with
    | zero => exact ⟨rfl, rfl⟩
    | succ j =>
      have := ih j (by simpa using hj)
      rw [show 2 * (j + 1) = 2 * j + 1 + 1 by omega]
      simpa using this
theorem cell_pair (w : World) (a b : Value) (t : TypeId) : ∀ j u, [a, b][j]? = some u → (w.alloc (.cells #[a, b] t)).cell? ((⟨w.heap.size, 0, none⟩ : Addr).add j) = some u := by
  intro j u h
  match j, h with
  | 0, h => simp at h; subst h; simp [Addr.add]
  | 1, h => simp at h; subst h; simp [Addr.add]
  | j + 2, h => simp at h
theorem pair_int {k l : IntKind} {a b : Int} : ∀ u ∈ [Value.int k a, Value.int l b], u.oneCell' = true := by
  intro u hu
  simp at hu
  rcases hu with rfl | rfl <;> rfl
/-- A row of spots of one's own, in block p. -/
def OwS (w : World) (base : Nat) (p cap n : Nat) (xs : List Value) : Prop := w.ownsRow base 90 2 (.slice (some ⟨p, 0, none⟩) n cap) n xs
theorem rowS_push {w X Y w1 : World} {p q p' L cap : Nat} {c : List Nat} {xs : List Value} (hbel : Below w.heap.size w X) (hX : Below X.heap.size X Y) (hq : q < X.heap.size) (hpq : p ≠ q) (hch : ChnAt X q c) (ho : OwS Y w.heap.size p cap L xs)
    (hgr : Y.grownBy w1 (Value.slice (some ⟨p, 0, none⟩) L cap).ownBlock) (hat : (Value.slice (some ⟨p, 0, none⟩) L cap).ownBlock = some p' ∨ p' = X.heap.size + 1) : Below w.heap.size w w1 ∧ ChnAt w1 q c ∧ p' ≠ q ∧ q < w1.heap.size := by
  refine ⟨(hbel.trans (hX.mono hbel.size)).grown hgr (Nat.le_trans hbel.size hX.size) (fun k hk => (World.ownsRow.lt ho k hk).1), hch.keep (M := fun k => k = p) ((Below.keeps (S := fun k => k = p) hX).trans (grown_keeps hgr rfl) (fun _ _ t => t)) (fun e => hpq e.symm), ?_, Nat.lt_of_lt_of_le hq (Nat.le_trans hX.size hgr.size)⟩
  rcases hat with h | h
  · cases h; exact hpq
  · omega
set_option maxHeartbeats 2000000 in
theorem px_read {w : World} {x rr rb tr tb B S : Nat} {g : Nat → Nat} {T won lost : Nat} {lk : Int} (h : PxIs w x rr rb tr tb B S g T won lost lk) {q capq : Nat} {c : List Nat} (hc : ChnAt w q c) (hcl : c.length ≤ 2000) (hql : q < w.heap.size) (hlt : ∀ y ∈ c, y < B + S) :
    Calls Try.prog 44 #[.pointer (some ⟨x, 0, none⟩), .slice (some ⟨q, 0, none⟩) c.length capq] w fun e w' => ∃ p cap, e = .returned (.slice (some ⟨p, 0, none⟩) (ixSlots c).length cap) ∧ OwS w' w.heap.size p cap (ixSlots c).length (spotsN g (ixSlots c)) ∧ Below w.heap.size w w' := by
  obtain ⟨i0, hi, hz0, hz1, hz2⟩ := info_parts Try.infoSpot
  have hbs := h.bs
  have H := hide h
  have HL := hide hlt
  have HCH := hide hc
  clear h hlt hc
  go_enter Try.func44, Try.ntmps44
  go_wp2_with (at_make; refine wpList_make_own _ rfl _ _ 87 rfl w.heap.size 90 i0 (.agg #[.int .i64 0, .int .u64 0]) 2 Try.underlying87 hi hz0 hz1 _ _ _ (c.length * 7) rfl rfl ?b0 ?b1 ?b2 (Nat.le_refl _) ?_)
  case b0 => first | rfl | (simp; done) | (simp; omega)
  case b1 => rw [hz2]; omega
  case b2 => unfold maxLen; omega
  intro w1 hown hgrow
  have hb1 : Below w.heap.size w w1 := (Below.refl _ _).grown hgrow (Nat.le_refl _) (by simp)
  have hqne : w.heap.size ≠ q := by omega
  have hq1 : q < w1.heap.size := Nat.lt_of_lt_of_le hql hb1.size
  have hch : ChnAt w1 q c := HCH.out.keep (M := fun _ => False) (Below.keeps hb1) id
  clear hgrow
  go_wp2
  go_loopw [5, 15] (fun vo vi wr => ∃ (i p cap : Nat), i ≤ c.length ∧ vi = .int .i64 (i : Int) ∧ vo = .slice (some ⟨p, 0, none⟩) (ixUpto c i 0).length cap ∧ OwS wr w.heap.size p cap (ixUpto c i 0).length (spotsN g (ixUpto c i 0)) ∧ p ≠ q ∧ q < wr.heap.size ∧ ChnAt wr q c ∧ Below w.heap.size w wr)
    (fun _ vi _ => c.length - (intOf vi).toNat)
  case atStart => exact ⟨0, w.heap.size, _, Nat.zero_le _, rfl, by rw [ixUpto_start]; rfl, by rw [ixUpto_start]; exact hown, hqne, hq1, hch, hb1⟩
  case round =>
    clear hown hch hb1 hqne hq1
    obtain ⟨i, p, cap, hi', rfl, rfl, hown, hpq, hqs, hch, hbel⟩ := hrel
    by_cases hlt : i < c.length
    · have HCI := HL.out _ (getD_mem hlt)
      have cq := hch i hlt
      obtain ⟨ci, HCE⟩ : ∃ ci, Hid (c.getD i 0 = ci) := ⟨_, rfl⟩
      rw [HCE.out] at HCI cq
      have HN := hide (ixUpto_next c i hlt)
      have HON : Hid (∀ k, ixUpto c i (k + 1) = ixUpto c i k ++ [8 * ci + k]) := fun k => by rw [ixUpto_on, HCE.out]
      have HLO := hide (px_linkOf ci (by omega))
      go_wp2
      go_loopw [5, 8] (fun vo vk wr => ∃ (k p cap : Nat), k ≤ 7 ∧ vk = .int .i64 ((8 * ci + k : Nat) : Int) ∧ vo = .slice (some ⟨p, 0, none⟩) (ixUpto c i k).length cap ∧ OwS wr w.heap.size p cap (ixUpto c i k).length (spotsN g (ixUpto c i k)) ∧ p ≠ q ∧ q < wr.heap.size ∧ ChnAt wr q c ∧ Below w.heap.size w wr)
        (fun _ vk _ => 8 * ci + 7 - (intOf vk).toNat)
      case atStart => exact ⟨0, p, cap, by omega, by go_num, rfl, hown, hpq, hqs, hch, hbel⟩
      case round =>
        clear hown hpq hqs hch hbel cq
        obtain ⟨k, p, cap, hk', rfl, rfl, hown, hpq, hqs, hch, hbel⟩ := hrel
        by_cases hk7 : k < 7
        · have hRw := H.out.below hbel
          have c2 := hRw.c2
          have HLD := hide (rload hRw.row (8 * ci + k) (by omega) (ixI g (8 * ci + k)) rfl)
          unfold ixI at HLD
          have HON2 : Hid (spotsN g (ixUpto c i (k + 1)) = spotsN g (ixUpto c i k) ++ [Value.int .i64 ((8 * ci + k : Nat) : Int), Value.int .u64 (g (8 * ci + k) : Int)]) := by rw [Hid, HON.out, spotsN_snoc]
          have HLN : Hid ((ixUpto c i (k + 1)).length = (ixUpto c i k).length + 1) := by rw [Hid, HON.out, List.length_append]; rfl
          have hlu : (ixUpto c i k).length ≤ 7 * c.length + 7 := by
            unfold ixUpto
            rw [List.length_append, ixSlots_length, List.length_take]; simp [ixRow]; omega
          clear hRw
          have hs7 : ((8 * ci + k : Nat) : Int) < ((8 * ci + 7 : Nat) : Int) := by omega
          generalize spotsN g (ixUpto c i k) = le at *
          generalize (ixUpto c i k).length = ln at *
          generalize g (8 * ci + k) = G at *
          have hsl : (((8 * ci + k : Nat) : Int) + 1) = ((8 * ci + (k + 1) : Nat) : Int) := by omega
          have HSL := hide hsl
          have hsb : 8 * ci + k < 20000 := by omega
          clear hsl
          generalize 8 * ci + k = s at *
          generalize 8 * ci + 7 = s7 at *
          go_wp2_with fail
          refine (HLO.out _).mono ?_
          rintro e z ⟨rfl, rfl⟩
          have hX := (Below.refl z.heap.size z).alloc (Nat.le_refl _) (.cells #[.int .i64 (s : Int), .int .u64 (G : Int)] 90)
          have hown2 : OwS _ w.heap.size p cap ln le := own_keep hown (Below.keeps (S := fun _ => False) hX) (fun _ _ => id)
          have hnews := cell_pair z (.int .i64 (s : Int)) (.int .u64 (G : Int)) 90
          have hbase := hbel.size
          have HPU : Hid (∀ (w1 : World) (p' : Nat), _ → _ → _) := fun w1 p' hgr hat => rowS_push (w1 := w1) (p' := p') (X := z) hbel hX hqs hpq hch hown2 hgr hat
          clear hX
          go_wp2_with fail
          refine HLD.out.mono ?_
          rintro e z2 ⟨rfl, rfl⟩
          go_wp2_with (at_builtin; refine wpList_append_lies _ rfl _ _ 87 rfl w.heap.size 90 i0 (.agg #[.int .i64 0, .int .u64 0]) 2 16 Try.underlying87 hi hz0 hz1 hz2 rfl (by decide) _ _ _ rfl hown2 ⟨z2.heap.size, 0, none⟩ 1 1 [.int .i64 (s : Int), .int .u64 (G : Int)] rfl rfl hnews pair_int (by decide) ?c3 ?c4 ?c5 (z2.heap.size + 1) (by simp) ?_)
          case c3 => unfold maxLen; omega
          case c4 => omega
          case c5 => first | omega | (simp; omega)
          intro p' cap' w1 hown' hgrow hat' hlt'
          obtain ⟨k1, k2, k3, k4⟩ := HPU.out w1 p' hgrow hat'
          clear hgrow hat' hlt' hown2 hnews HPU HLD
          go_wp2
          go_roundw
          case rel => exact ⟨k + 1, p', cap', by omega, by rw [← HSL.out], by rw [HLN.out], by rw [HLN.out, HON2.out]; exact hown', k3, k4, k2, k1⟩
          case measure => simp [intOf]; omega
        · have ek : k = 7 := by omega
          subst ek
          rw [HN.out] at hown ⊢
          have hci7 : (8 * ci + 7 : Nat) < 20000 := by omega
          generalize 8 * ci + 7 = s7 at *
          go_wp2_with fail
          refine (HLO.out _).mono ?_
          rintro e z ⟨rfl, rfl⟩
          go_wp2
          go_roundw
          case rel => exact ⟨i + 1, p, cap, by omega, by go_num, rfl, hown, hpq, hqs, hch, hbel⟩
          case measure => simp [intOf]; omega
    · have e : i = c.length := by omega
      subst e
      rw [ixUpto_all] at hown ⊢
      go_wp2
      go_ret
      exact ⟨p, cap, rfl, hown, hbel⟩
end Go.Proofs.Ytmpnbaiolmkhlaa
