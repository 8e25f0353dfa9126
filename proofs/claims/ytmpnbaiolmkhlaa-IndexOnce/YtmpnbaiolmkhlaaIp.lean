/- The program's index: the first slot that fits. -/
import Derived.Test.YtmpnbaiolmkhlaaIo
namespace Go.Proofs.Ytmpnbaiolmkhlaa
set_option maxRecDepth 20000
open Go.RowKit
/-- Spots in block p: each slot and its word. -/
def SpAt (w : World) (p : Nat) (g : Nat → Nat) (sl : List Nat) : Prop := ∀ j, j < sl.length → w.cell? ⟨p, j * 2, none⟩ = some (.int .i64 (sl.getD j 0 : Int)) ∧ w.cell? ⟨p, j * 2 + 1, none⟩ = some (.int .u64 (g (sl.getD j 0) : Int))
theorem SpAt.lt {w : World} {p : Nat} {g : Nat → Nat} {sl : List Nat} (h : SpAt w p g sl) (hn : 0 < sl.length) : p < w.heap.size := World.block_lt_of_cell? w _ (h 0 hn).1
theorem SpAt.below {w w' : World} {p : Nat} {g : Nat → Nat} {sl : List Nat} (h : SpAt w p g sl) (hb : Below w.heap.size w w') : SpAt w' p g sl := fun j hj => by
  have hl := h.lt (by omega)
  obtain ⟨h1, h2⟩ := h j hj
  exact ⟨(hb.cell (p := ⟨p, j * 2, none⟩) hl).trans h1, (hb.cell (p := ⟨p, j * 2 + 1, none⟩) hl).trans h2⟩
theorem OwS.at {w : World} {base p cap : Nat} {g : Nat → Nat} {sl : List Nat} (h : OwS w base p cap sl.length (spotsN g sl)) : SpAt w p g sl := fun j hj => by
  obtain ⟨h1, h2⟩ := spotsN_get g sl j hj
  have a := World.ownsRow.cells h (g := p) rfl (2 * j) _ h1
  have b := World.ownsRow.cells h (g := p) rfl (2 * j + 1) _ h2
  have hadd : ∀ i, (⟨p, 0, none⟩ : Addr).add i = ⟨p, i, none⟩ := fun i => by unfold Addr.add; split <;> simp_all
  rw [hadd] at a b
  exact ⟨by rw [Nat.mul_comm]; exact a, by rw [Nat.mul_comm]; exact b⟩
def spotV (g : Nat → Nat) (o : Option Nat) : Value := match o with
  | some s => .tuple #[.agg #[.int .i64 (s : Int), .int .u64 (g s : Int)], .bool true]
  | none => .tuple #[.agg #[.int .i64 0, .int .u64 0], .bool false]
/-- A spot of one's own, to be told. -/
structure SpRes (w : World) (b : Nat) : Prop where
  c0 : w.cell? ⟨b, 0, none⟩ = some (.int .i64 0)
  c1 : w.cell? ⟨b, 1, none⟩ = some (.int .u64 0)
  f0 : w.frozen? ⟨b, 0, none⟩ = false
  f1 : w.frozen? ⟨b, 1, none⟩ = false
theorem SpRes.lt {w : World} {b : Nat} (h : SpRes w b) : b < w.heap.size := World.block_lt_of_cell? w _ h.c0
theorem SpRes.below {w w' : World} {b : Nat} (h : SpRes w b) (hb : Below w.heap.size w w') : SpRes w' b :=
  ⟨by rw [hb.cell h.lt]; exact h.c0, by rw [hb.cell h.lt]; exact h.c1, by rw [hb.frozen h.lt]; exact h.f0, by rw [hb.frozen h.lt]; exact h.f1⟩
theorem SpRes.made (w : World) (T : TypeId) : SpRes (w.alloc (.cells #[.int .i64 0, .int .u64 0] T)) w.heap.size := by
  refine ⟨?_, ?_, ?_, ?_⟩ <;> simp
theorem SpRes.set {w : World} {b : Nat} (h : SpRes w b) (a0 a1 : Value) : ((w.setCell ⟨b, 0, none⟩ a0).setCell ⟨b, 1, none⟩ a1).cell? ⟨b, 0, none⟩ = some a0 ∧ ((w.setCell ⟨b, 0, none⟩ a0).setCell ⟨b, 1, none⟩ a1).cell? ⟨b, 1, none⟩ = some a1 := by
  refine ⟨?_, ?_⟩
  · rw [cell_set_off _ _ _ _ (by decide)]; exact World.cell?_setCell_same _ _ _ h.c0
  · exact World.cell?_setCell_same _ _ _ ((cell_set_off _ _ _ _ (by decide)).trans h.c1)
set_option maxHeartbeats 2000000 in
theorem px_first {w : World} {p cap : Nat} {g : Nat → Nat} {sl : List Nat} (hS : SpAt w p g sl) (hn : sl.length ≤ 20000) (pr : Nat → Bool) (f : Nat) (cb : Array Value) (eg : ∀ args w, (callFunc f args).run Try.prog w = .ok (.enter f args) w)
    (HF : ∀ s ∈ sl, ∀ W, Below w.heap.size w W → Calls Try.prog f (#[.int .u64 (g s : Int)] ++ cb) W fun e W' => e = .returned (.bool (pr s)) ∧ Below W.heap.size W W') :
    Calls Try.prog 45 #[.slice (some ⟨p, 0, none⟩) sl.length cap, .func (.func f) #[] cb] w fun e w' => e = .returned (spotV g (sl.find? pr)) ∧ Below w.heap.size w w' := by
  have HS := hide hS
  have HC := hide HF
  have hR := SpRes.made w 90
  have hb0 := (Below.refl w.heap.size w).alloc (Nat.le_refl _) (.cells #[.int .i64 0, .int .u64 0] 90)
  clear hS HF
  go_enter Try.func45, Try.ntmps45
  go_wp2
  go_loopw [10] (fun vi wr => ∃ i : Nat, i ≤ sl.length ∧ vi = .int .i64 (i : Int) ∧ (sl.take i).find? pr = none ∧ SpRes wr w.heap.size ∧ Below w.heap.size w wr) (fun vi _ => sl.length - (intOf vi).toNat)
  case atStart => exact ⟨0, Nat.zero_le _, rfl, by simp, hR, hb0⟩
  case round =>
    clear hR hb0
    obtain ⟨i, hi, rfl, hno, hres, hbel⟩ := hrel
    by_cases hlt : i < sl.length
    · have hpl := HS.out.lt (by omega)
      obtain ⟨c0, c1⟩ := (HS.out i hlt)
      have d0 := (hbel.cell (p := ⟨p, i * 2, none⟩) hpl).trans c0
      have d1 := (hbel.cell (p := ⟨p, i * 2 + 1, none⟩) hpl).trans c1
      have hmem := getD_mem hlt
      have hcut : sl.take (i + 1) = sl.take i ++ [sl.getD i 0] := by
        rw [List.take_succ_eq_append_getElem hlt, List.getD_eq_getElem?_getD, List.getElem?_eq_getElem hlt]; rfl
      have hsp : sl = sl.take i ++ sl.getD i 0 :: sl.drop (i + 1) := by
        conv => lhs; rw [← List.take_append_drop i sl]
        rw [List.drop_eq_getElem_cons hlt, List.getD_eq_getElem?_getD, List.getElem?_eq_getElem hlt]; rfl
      have hff : pr (sl.getD i 0) = true → sl.find? pr = some (sl.getD i 0) := fun h => by
        rw [hsp, List.find?_append, hno]
        simp only [Option.none_or, List.find?_cons]
        have : pr ((sl.take i ++ sl.getD i 0 :: sl.drop (i + 1)).getD i 0) = true := by rw [← hsp]; exact h
        simp only [← hsp, h]
      have hnn : pr (sl.getD i 0) = false → (sl.take (i + 1)).find? pr = none := fun h => by
        rw [hcut]; exact find_snoc_none hno h
      generalize sl.getD i 0 = s at *
      clear c0 c1 hcut hsp hno
      have hb2 := (Below.refl wr.heap.size wr).alloc (Nat.le_refl _) (.cells #[.int .i64 (s : Int), .int .u64 (g s : Int)] 90)
      have hc := HC.out s hmem _ (hbel.trans (hb2.mono hbel.size))
      have hpp : ∀ j, j < 2 → (wr.alloc (.cells #[.int .i64 (s : Int), .int .u64 (g s : Int)] 90)).cell? ⟨wr.heap.size, j, none⟩ = some (if j = 0 then .int .i64 (s : Int) else .int .u64 (g s : Int)) := fun j hj => by
        match j with
        | 0 => simp
        | 1 => simp
        | j + 2 => omega
      have HV : Hid (∀ v, sl.find? pr = some s → v = g s → spotV g (sl.find? pr) = .tuple #[.agg #[.int .i64 (s : Int), .int .u64 (v : Int)], .bool true]) := fun v h e => by rw [h, e]; rfl
      have HFF := hide hff
      have HNN := hide hnn
      have HGS : ∃ G, Hid (g s = G) := ⟨_, rfl⟩
      obtain ⟨G, HG⟩ := HGS
      rw [HG.out] at hc d1 hb2 hpp
      have hres2 := hres.below hb2
      have hbel2 := hbel.trans (hb2.mono hbel.size)
      have hwl := hbel.size
      have hwr : w.heap.size < wr.heap.size := hres.lt
      have e0 := hpp 0 (by omega)
      have e1 := hpp 1 (by omega)
      rw [if_pos rfl] at e0
      rw [if_neg (by decide)] at e1
      cases hq : pr s with
      | false =>
        rw [hq] at hc
        clear hpp e0 e1 hff hnn
        go_wp2_with fail
        refine hc.mono ?_
        rintro e y ⟨rfl, by_⟩
        go_wp2
        go_roundw
        case rel => exact ⟨i + 1, by omega, by go_num, HNN.out hq, hres2.below by_, hbel2.trans (by_.mono hbel2.size)⟩
        case measure => simp [intOf]; omega
      | true =>
        rw [hq] at hc
        clear hpp hff hnn
        go_wp2_with fail
        refine hc.mono ?_
        rintro e y ⟨rfl, by_⟩
        have q0 := (by_.cell (p := ⟨wr.heap.size, 0, none⟩) (by simp)).trans e0
        have q1 := (by_.cell (p := ⟨wr.heap.size, 1, none⟩) (by simp)).trans e1
        have RES := hres2.below by_
        have BEL := hbel2.trans (by_.mono hbel2.size)
        have fz0 := RES.f0
        have fz1 := RES.f1
        have dz0 := RES.c0
        have dz1 := RES.c1
        clear e0 e1 hc by_ d0 d1
        go_wp2
        obtain ⟨z0, z1⟩ := RES.set (.int .i64 (s : Int)) (.int .u64 (G : Int))
        have hy : Below w.heap.size w ((y.setCell ⟨w.heap.size, 0, none⟩ (.int .i64 (s : Int))).setCell ⟨w.heap.size, 1, none⟩ (.int .u64 (G : Int))) := (BEL.setCell (Nat.le_refl _) _).setCell (Nat.le_refl _) _
        generalize (y.setCell ⟨w.heap.size, 0, none⟩ (.int .i64 (s : Int))).setCell ⟨w.heap.size, 1, none⟩ (.int .u64 (G : Int)) = yy at *
        (try simp only [Exit.inBlock, Exit.then])
        refine bodyPost_ret (by simp [results, Try.results45, go_sem, z0, z1]; try rfl) rfl ?_
        exact ⟨by rw [HV.out G (HFF.out hq) HG.out.symm], hy⟩
    · have e : i = sl.length := by omega
      subst e
      rw [List.take_length] at hno
      have fz0 := hres.f0
      have fz1 := hres.f1
      have dz0 := hres.c0
      have dz1 := hres.c1
      go_wp2
      obtain ⟨z0, z1⟩ := hres.set (.int .i64 0) (.int .u64 0)
      have hy : Below w.heap.size w ((wr.setCell ⟨w.heap.size, 0, none⟩ (.int .i64 0)).setCell ⟨w.heap.size, 1, none⟩ (.int .u64 0)) := (hbel.setCell (Nat.le_refl _) _).setCell (Nat.le_refl _) _
      generalize (wr.setCell ⟨w.heap.size, 0, none⟩ (.int .i64 0)).setCell ⟨w.heap.size, 1, none⟩ (.int .u64 0) = yy at *
      (try simp only [Exit.inBlock, Exit.then])
      refine bodyPost_ret (by simp [results, Try.results45, go_sem, z0, z1]; try rfl) rfl ?_
      exact ⟨by rw [hno]; rfl, hy⟩
end Go.Proofs.Ytmpnbaiolmkhlaa
