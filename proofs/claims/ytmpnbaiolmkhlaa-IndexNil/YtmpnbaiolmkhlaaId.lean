/- The reference's index: Entries. -/
import Derived.Test.YtmpnbaiolmkhlaaIc
import Derived.Test.YtmpnbaiolmkhlaaWk
import Derived.Deep.RegionLaw
namespace Go.Proofs.Ytmpnbaiolmkhlaa
set_option maxRecDepth 20000
open Go.RowKit
theorem grown_keeps {w w1 : World} {row : Option Nat} {p : Nat} (h : w.grownBy w1 row) (hr : row = some p) : Keeps (fun k => k = p) w w1 :=
  (Keeps.refl (fun k => k = p) w).grown h (fun k hk _ => by rw [hr] at hk; cases hk; rfl)
/-- A chain's numbers in block q. -/
def ChnAt (w : World) (q : Nat) (c : List Nat) : Prop := ∀ j, j < c.length → w.cell? ⟨q, j, none⟩ = some (.int .i64 (c.getD j 0 : Int))
theorem ChnAt.keep {w w' : World} {q : Nat} {c : List Nat} (h : ChnAt w q c) {M : Nat → Prop} (hk : Keeps M w w') (hq : ¬ M q) : ChnAt w' q c := fun j hj => by
  have := h j hj
  rw [hk.cell (p := ⟨q, j, none⟩) (World.block_lt_of_cell? w _ this) hq]; exact this
/-- A row of words of one's own, in block p. -/
def OwU (w : World) (base : Nat) (p cap : Nat) (l : List Nat) : Prop := w.ownsRow base 32 1 (.slice (some ⟨p, 0, none⟩) l.length cap) l.length (uintsN l)
theorem cell_oneU (w : World) (a : Value) (t : TypeId) : ∀ j u, [a][j]? = some u → (w.alloc (.cells #[a] t)).cell? ((⟨w.heap.size, 0, none⟩ : Addr).add j) = some u := cell_one w a t
/-- What an append to a row of one's own leaves of the rest. -/
theorem row_push {w X Y w1 : World} {p q p' L cap : Nat} {c : List Nat} {xs : List Value} {e : TypeId} (hbel : Below w.heap.size w X) (hX : Below X.heap.size X Y) (hq : q < X.heap.size) (hpq : p ≠ q) (hch : ChnAt X q c) (ho : Y.ownsRow w.heap.size e 1 (.slice (some ⟨p, 0, none⟩) L cap) L xs)
    (hgr : Y.grownBy w1 (Value.slice (some ⟨p, 0, none⟩) L cap).ownBlock) (hat : (Value.slice (some ⟨p, 0, none⟩) L cap).ownBlock = some p' ∨ p' = X.heap.size + 1) : Below w.heap.size w w1 ∧ ChnAt w1 q c ∧ p' ≠ q ∧ q < w1.heap.size := by
  refine ⟨(hbel.trans (hX.mono hbel.size)).grown hgr (Nat.le_trans hbel.size hX.size) (fun k hk => (ho.lt k hk).1), hch.keep (M := fun k => k = p) ((Below.keeps (S := fun k => k = p) hX).trans (grown_keeps hgr rfl) (fun _ _ t => t)) (fun e => hpq e.symm), ?_, Nat.lt_of_lt_of_le hq (Nat.le_trans hX.size hgr.size)⟩
  rcases hat with h | h
  · cases h; exact hpq
  · omega
set_option maxHeartbeats 2000000 in
theorem rx_entries {w : World} {m r B S : Nat} {g : Nat → Nat} {T won lost : Nat} (h : RxIs w m r B S g T won lost) {b : Nat} {c : List Nat} (hp : IxPath g b c) (hl : c.length ≤ B + S) (hlt : ∀ x ∈ c, x < B + S) :
    Calls Try.prog 12 #[.pointer (some ⟨m, 0, none⟩), .int .i64 (b : Int)] w fun e w' => ∃ p cap, e = .returned (.slice (some ⟨p, 0, none⟩) (ixEnts g (ixSlots c)).length cap) ∧ OwU w' w.heap.size p cap (ixEnts g (ixSlots c)) ∧ Below w.heap.size w w' := by
  obtain ⟨i0, hi, hz0, hz1, hz2⟩ := info_parts Try.infoU64
  have hbs := h.bs
  have hO0 : OwU (w.alloc (.cells #[] 32)) w.heap.size w.heap.size 0 [] := World.ownsRow_made (base := w.heap.size) (e := 32) (size := 1) w #[] 0 (Nat.le_refl _) (by decide) (by simp)
  have hb0 := (Below.refl w.heap.size w).alloc (Nat.le_refl _) (.cells #[] 32)
  have H := hide h
  have HC := hide (rx_chain (h.below hb0) hp hl hlt)
  have HL := hide hlt
  go_enter Try.func12, Try.ntmps12
  go_wp2_with fail
  refine HC.out.mono ?_
  rintro e x ⟨v, rfl, ho, bx⟩
  obtain ⟨q, capq, rfl, hq1, hq2, hqc⟩ := own_slI ho hp.pos
  have hO1 : OwU x w.heap.size w.heap.size 0 [] := by
    have := bx.size
    exact own_keep hO0 (Below.keeps (S := fun _ => False) bx) (fun _ _ => id)
  have hqne : w.heap.size ≠ q := by simp at hq1; omega
  have hchn : ChnAt x q c := hqc
  have hq2' := hq2
  have hB := hb0.trans (bx.mono hb0.size)
  clear hO0 hb0 bx ho hq1 hq2 hqc HC
  go_wp2
  clear h hlt
  go_loopw [5, 7] (fun vo vi wr => ∃ (i p cap : Nat), i ≤ c.length ∧ vi = .int .i64 (i : Int) ∧ vo = .slice (some ⟨p, 0, none⟩) (ixEnts g (ixUpto c i 0)).length cap ∧ OwU wr w.heap.size p cap (ixEnts g (ixUpto c i 0)) ∧ p ≠ q ∧ q < wr.heap.size ∧ ChnAt wr q c ∧ Below w.heap.size w wr)
    (fun _ vi _ => c.length - (intOf vi).toNat)
  case atStart => exact ⟨0, w.heap.size, 0, Nat.zero_le _, rfl, by rw [ixUpto_start]; rfl, by rw [ixUpto_start]; exact hO1, hqne, hq2', hchn, hB⟩
  case round =>
    clear hO1 hchn hB hqne hq2'
    obtain ⟨i, p, cap, hi', rfl, rfl, hown, hpq, hqs, hch, hbel⟩ := hrel
    by_cases hlt : i < c.length
    · have HCI := HL.out _ (getD_mem hlt)
      obtain ⟨ci, HCE⟩ : ∃ ci, Hid (c.getD i 0 = ci) := ⟨_, rfl⟩
      rw [HCE.out] at HCI
      have HN := hide (ixUpto_next c i hlt)
      have HON : Hid (∀ k, ixEnts g (ixUpto c i (k + 1)) = ixEnts g (ixUpto c i k) ++ (if g (8 * ci + k) = 0 then [] else [g (8 * ci + k)])) := fun k => by rw [ixUpto_on, ixEnts_snoc, HCE.out]
      go_wp2
      go_loopw [5, 8] (fun vo vk wr => ∃ (k p cap : Nat), k ≤ 7 ∧ vk = .int .i64 (k : Int) ∧ vo = .slice (some ⟨p, 0, none⟩) (ixEnts g (ixUpto c i k)).length cap ∧ OwU wr w.heap.size p cap (ixEnts g (ixUpto c i k)) ∧ p ≠ q ∧ q < wr.heap.size ∧ ChnAt wr q c ∧ Below w.heap.size w wr)
        (fun _ vk _ => 7 - (intOf vk).toNat)
      case atStart => exact ⟨0, p, cap, by omega, rfl, rfl, hown, hpq, hqs, hch, hbel⟩
      case round =>
        clear hown hpq hqs hch hbel
        obtain ⟨k, p, cap, hk', rfl, rfl, hown, hpq, hqs, hch, hbel⟩ := hrel
        by_cases hk7 : k < 7
        · have hRw := H.out.below hbel
          have c2 := hRw.c2
          have cc := hRw.cs ci HCI k (by omega)
          have cq := hch i hlt
          rw [HCE.out] at cq
          have HEN := hide (HON.out k)
          have hll := ixEnts_length g (ixUpto c i k)
          have hlu : (ixUpto c i k).length ≤ 7 * c.length + 7 := by
            unfold ixUpto
            rw [List.length_append, ixSlots_length, List.length_take]; simp [ixRow]; omega
          have HCH := hide hch
          clear hRw hch
          generalize g (8 * ci + k) = G at *
          by_cases hG : 0 < G
          · have HL2 : Hid (ixEnts g (ixUpto c i (k + 1)) = ixEnts g (ixUpto c i k) ++ [G]) := by rw [Hid, HEN.out, if_neg (by omega)]
            clear HEN
            generalize ixEnts g (ixUpto c i k) = le at *
            go_wp2_with fail
            go_quiet ((fail))
            go_wp2_with fail
            have hbX := below_drewN (Below.refl wr.heap.size wr) nq
            have hownX : OwU (wr.drewN nq) w.heap.size p cap le := hown
            have hbelX := hbel.trans (hbX.mono hbel.size)
            have hchX : ChnAt (wr.drewN nq) q c := HCH.out
            have c2X : (wr.drewN nq).cell? ⟨m, 2, none⟩ = some (.slice (some ⟨r, 0, none⟩) (B + S) (B + S)) := c2
            have ccX : (wr.drewN nq).cell? ⟨r, ci * 8 + k, none⟩ = some (.int .u64 (G : Int)) := cc
            have cqX : (wr.drewN nq).cell? ⟨q, i, none⟩ = some (.int .i64 (ci : Int)) := cq
            have hqX : q < (wr.drewN nq).heap.size := hqs
            clear hown hbel HCH c2 cc cq hqs hbX
            generalize wr.drewN nq = X at *
            have hX : Below X.heap.size X ((X.drewN 1).alloc (.cells #[.int .u64 (G : Int)] 32)) := (below_drewN (Below.refl X.heap.size X) 1).alloc (by simp) _
            have hown2 := own_below hownX hX
            have hnews := cell_one (X.drewN 1) (.int .u64 (G : Int)) 32
            rw [show (X.drewN 1).heap.size = X.heap.size from rfl] at hnews
            have hbase := hbelX.size
            have HPU := fun (w1 : World) (p' cap' : Nat) hgr hat => row_push (w1 := w1) (p' := p') hbelX hX hqX hpq hchX hown2 hgr hat
            have hci : (ci : Int) < (B : Int) + (S : Int) := by omega
            have hk8 : (k : Int) < 8 := by omega
            clear hX hownX hchX hbelX
            go_region_law
              ((refine step_append_lies _ (by rfl) _ _ 37 (by rfl) w.heap.size 32 i0 (.int .u64 0) 1 8 Try.underlying37 hi hz0 hz1 hz2 rfl (by decide) _ _ _ (by rfl) hown2 ⟨X.heap.size, 0, none⟩ 1 1 [.int .u64 (G : Int)] (by rfl) rfl hnews one_int (by decide) (by unfold maxLen; omega) (by omega) (by simp; omega) (X.heap.size + 1) (by simp) ?_; intro p' cap' w1 hown' hgrow hat' hlt'; obtain ⟨k1, k2, k3, k4⟩ := HPU w1 p' cap' hgrow hat'))
            all_goals
              clear hgrow hat' hlt' hown2 hnews HPU
              go_wp2
              go_roundw
              case rel => exact ⟨k + 1, p', cap', by omega, by go_num, by rw [HL2.out, List.length_append]; rfl, by rw [HL2.out]; unfold OwU; rw [uintsN_snoc, List.length_append]; exact hown', k3, k4, k2, k1⟩
              case measure => simp [intOf]; omega
          · have hG0 : G = 0 := by omega
            subst hG0
            have HL2 : Hid (ixEnts g (ixUpto c i (k + 1)) = ixEnts g (ixUpto c i k)) := by rw [Hid, HEN.out, if_pos rfl, List.append_nil]
            clear HEN
            generalize ixEnts g (ixUpto c i k) = le at *
            go_wp2_with fail
            go_quiet ((fail))
            go_wp2
            go_roundw
            case rel => exact ⟨k + 1, p, cap, by omega, by go_num, by rw [HL2.out], by rw [HL2.out]; exact hown, hpq, hqs, HCH.out, hbel.trans ((below_drewN (Below.refl _ _) _).mono hbel.size)⟩
            case measure => simp [intOf]; omega
        · have ek : k = 7 := by omega
          subst ek
          rw [HN.out] at hown ⊢
          go_wp2
          go_roundw
          case rel => exact ⟨i + 1, p, cap, by omega, by go_num, rfl, hown, hpq, hqs, hch, hbel⟩
          case measure => simp [intOf]; omega
    · have e : i = c.length := by omega
      subst e
      rw [ixUpto_all] at hown ⊢
      go_wp2
      go_ret
      exact ⟨p, cap, rfl, hown, hbel⟩
end Go.Proofs.Ytmpnbaiolmkhlaa
