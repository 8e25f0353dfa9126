/- The program's index: Drop. -/
import Derived.Test.YtmpnbaiolmkhlaaJ3
namespace Go.Proofs.Ytmpnbaiolmkhlaa
set_option maxRecDepth 20000
open Go.RowKit
set_option maxHeartbeats 1000000 in
theorem px_lay_nil {w : World} {x rr rb tr tb B S : Nat} {g : Nat → Nat} {T won lost : Nat} {lk : Int} (h : PxIs w x rr rb tr tb B S g T won lost lk) (b : Nat) (ao : Option Addr) (cap : Nat) (hb : b < B) :
    Calls Try.prog 34 #[.pointer (some ⟨x, 0, none⟩), .int .i64 (b : Int), .slice ao 0 cap] w fun e w' => e = .returned (.tuple #[]) ∧ PxIs w' x rr rb tr tb B S g T won lost lk ∧ Keeps (PxOwn x rr rb tr tb) w w' := by
  have hbs := h.bs
  have HFI := hide (rfill (cap := cap) h.row (by omega) (8 * b) 0 (by omega) ao (fun _ => 0) (fun j hj => by omega) (fun h0 => by omega))
  rw [show ((8 * b : Nat) : Int) = 8 * (b : Int) by omega] at HFI
  have c2 := h.c2
  have H := hide h
  clear h
  go_enter Try.func34, Try.ntmps34
  go_wp2
  go_loopw [1, 2] (fun vb vl wr => vb = .int .i64 (b : Int) ∧ vl = .slice ao 0 cap ∧ wr = w) (fun _ _ _ => 0)
  case atStart => exact ⟨rfl, rfl, rfl⟩
  case round =>
    obtain ⟨rfl, rfl, rfl⟩ := hrel
    go_wp2_with fail
    refine HFI.out.mono ?_
    rintro e z ⟨rfl, r1, r2⟩
    obtain ⟨a, b'⟩ := H.out.setRow (g' := g) (r1.same (fun i hi => by unfold fillV; rw [if_neg (by omega)])) r2
    go_wp2
    go_end0
    exact ⟨rfl, a, b'⟩
/-- Rows of words, kept in block kb: the first b of them are there. -/
structure KpAt (w : World) (kb base B : Nat) (kl : Nat → List Nat) (b : Nat) : Prop where
  old : ∀ i, i < b → ∃ ao cap, w.cell? ⟨kb, i, none⟩ = some (.slice ao (kl i).length cap) ∧ (kl i).length ≤ cap ∧ Sl .u64 w ao (kl i).length (fun t => ((kl i).getD t 0 : Int)) ∧ (∀ q off, ao = some ⟨q, off, none⟩ → base ≤ q ∧ q ≠ kb ∧ q < w.heap.size)
  rest : ∀ i, b ≤ i → i < B → w.cell? ⟨kb, i, none⟩ = some (.slice none 0 0)
  fz : ∀ i, i < B → w.frozen? ⟨kb, i, none⟩ = false
  lt : kb < w.heap.size
  ge : base ≤ kb
theorem KpAt.keep {w w' : World} {kb base B : Nat} {kl : Nat → List Nat} {b : Nat} (h : KpAt w kb base B kl b) {M : Nat → Prop} (hk : Keeps M w w') (hM : ∀ i, base ≤ i → i < w.heap.size → ¬ M i) : KpAt w' kb base B kl b := by
  have hm := hM kb h.ge h.lt
  refine ⟨fun i hi => ?_, fun i h1 h2 => (hk.cell (p := ⟨kb, i, none⟩) h.lt hm).trans (h.rest i h1 h2), fun i hi => (hk.frozen (p := ⟨kb, i, none⟩) h.lt hm).trans (h.fz i hi), Nat.lt_of_lt_of_le h.lt hk.size, h.ge⟩
  obtain ⟨ao, cap, h1, h2, h3, h4⟩ := h.old i hi
  refine ⟨ao, cap, (hk.cell (p := ⟨kb, i, none⟩) h.lt hm).trans h1, h2, fun j hj => ?_, fun q off e => ?_⟩
  · obtain ⟨q, off, e, hc⟩ := h3 j hj
    obtain ⟨a1, a2, a3⟩ := h4 q off e
    exact ⟨q, off, e, (hk.cell (p := ⟨q, off + j, none⟩) a3 (hM q a1 a3)).trans hc⟩
  · obtain ⟨a1, a2, a3⟩ := h4 q off e
    exact ⟨a1, a2, Nat.lt_of_lt_of_le a3 hk.size⟩
theorem KpAt.below {w w' : World} {kb base B : Nat} {kl : Nat → List Nat} {b : Nat} (h : KpAt w kb base B kl b) (hb : Below w.heap.size w w') : KpAt w' kb base B kl b := h.keep (M := fun _ => False) (Below.keeps hb) (fun _ _ _ => id)
/-- The next row is kept. -/
theorem KpAt.push {w : World} {kb base B : Nat} {kl : Nat → List Nat} {b : Nat} (h : KpAt w kb base B kl b) (hb : b < B) {ao : Option Addr} {cap : Nat} (hc : (kl b).length ≤ cap) (hs : Sl .u64 w ao (kl b).length (fun t => ((kl b).getD t 0 : Int))) (ha : ∀ q off, ao = some ⟨q, off, none⟩ → base ≤ q ∧ q ≠ kb ∧ q < w.heap.size) : KpAt (w.setCell ⟨kb, b, none⟩ (.slice ao (kl b).length cap)) kb base B kl (b + 1) := by
  have off : ∀ i, i ≠ b → (w.setCell ⟨kb, b, none⟩ (.slice ao (kl b).length cap)).cell? ⟨kb, i, none⟩ = w.cell? ⟨kb, i, none⟩ := fun i hi => cell_set_off _ _ _ _ (fun e => hi e.symm)
  have blk : ∀ q j, q ≠ kb → (w.setCell ⟨kb, b, none⟩ (.slice ao (kl b).length cap)).cell? ⟨q, j, none⟩ = w.cell? ⟨q, j, none⟩ := fun q j hq => cell_set_block _ _ _ (fun e => hq e.symm)
  refine ⟨fun i hi => ?_, fun i h1 h2 => by rw [off i (by omega)]; exact h.rest i (by omega) h2, fun i hi => by rw [World.frozen?_setCell]; exact h.fz i hi, by simpa using h.lt, h.ge⟩
  by_cases e : i = b
  · subst e
    refine ⟨ao, cap, World.cell?_setCell_same _ _ _ (h.rest i (Nat.le_refl _) hb), hc, fun j hj => ?_, fun q off e => by simpa using ha q off e⟩
    obtain ⟨q, o, e, hq⟩ := hs j hj
    exact ⟨q, o, e, by rw [blk q _ (ha q o e).2.1]; exact hq⟩
  · obtain ⟨ao', cap', h1, h2, h3, h4⟩ := h.old i (by omega)
    refine ⟨ao', cap', by rw [off i e]; exact h1, h2, fun j hj => ?_, fun q off e => by simpa using h4 q off e⟩
    obtain ⟨q, o, e', hq⟩ := h3 j hj
    exact ⟨q, o, e', by rw [blk q _ (h4 q o e').2.1]; exact hq⟩
theorem Try.infoSlU : (Try.prog.info? 37).map (fun i => (i.zero, i.size, i.bytes)) = some (some (.slice none 0 0), 1, 24) := by kernel_rfl
end Go.Proofs.Ytmpnbaiolmkhlaa
