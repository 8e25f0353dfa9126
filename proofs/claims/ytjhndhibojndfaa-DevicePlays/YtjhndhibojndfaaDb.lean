/- The device's three maps, and the device in memory. -/
import Derived.Test.YtjhndhibojndfaaDn
namespace Go.Proofs.Ytjhndhibojndfaa
open Go.RowKit Go.Maps
theorem Try.laidOut : laidOutB Try.prog = true := by kernel_rfl
theorem Try.rowB : (32 : TypeId) < Try.prog.types.size := of_decide_eq_true (by kernel_rfl)
theorem Try.lawB : Keyed Try.prog 32 := Keyed.of_law (deep_law_laid Try.laidOut (m := 2) (by omega) Try.rowB (by kernel_rfl) (by rw [Try.underlying32]))
theorem Try.cellsB : Try.prog.cellsOf 32 = 2 := by kernel_rfl
theorem Try.cellsI : Try.prog.cellsOf 3 = 1 := by kernel_rfl
theorem Try.keyB : Try.prog.keyType 32 = true := by kernel_rfl
def bkV (b : Bk) : Value := .agg #[.int .i64 b.1, .int .i64 b.2]
def okK (b : Bk) : Prop := (Lit.int .i64 b.1).wf = true ∧ (Lit.int .i64 b.2).wf = true
theorem key_lits (d : Nat) (a n : Int) (ha : (Lit.int .i64 a).wf = true) (hn : (Lit.int .i64 n).wf = true) : Try.prog.keyLits (d + 2) 32 [.int .i64 a, .int .i64 n] = some [.int .i64 a, .int .i64 n] := by
  simp [Program.keyLits, Try.underlying32, Try.underlying3, Try.cellsB, Try.cellsI, ha, hn]
theorem key_lits_inv (d : Nat) (u v : Value) {x : List Lit} (h : Try.prog.keyLits (d + 2) 32 [u, v] = some x) : ∃ a n, u = .int .i64 a ∧ v = .int .i64 n ∧ (Lit.int .i64 a).wf = true ∧ (Lit.int .i64 n).wf = true := by
  have h1 : ∃ a, u = .int .i64 a ∧ (Lit.int .i64 a).wf = true := by
    cases u with
    | int q n =>
      by_cases hc : q = .i64 ∧ (Lit.int .i64 n).wf = true
      · exact ⟨n, by rw [hc.1], hc.2⟩
      · simp [Program.keyLits, Try.underlying32, Try.underlying3, Try.cellsB, Try.cellsI, hc] at h
    | _ => simp [Program.keyLits, Try.underlying32, Try.underlying3, Try.cellsB, Try.cellsI] at h
  obtain ⟨a, rfl, ha⟩ := h1
  have h2 : ∃ a, v = .int .i64 a ∧ (Lit.int .i64 a).wf = true := by
    cases v with
    | int q n =>
      by_cases hc : q = .i64 ∧ (Lit.int .i64 n).wf = true
      · exact ⟨n, by rw [hc.1], hc.2⟩
      · simp [Program.keyLits, Try.underlying32, Try.underlying3, Try.cellsB, Try.cellsI, hc, ha] at h
    | _ => simp [Program.keyLits, Try.underlying32, Try.underlying3, Try.cellsB, Try.cellsI, ha] at h
  obtain ⟨n, rfl, hn⟩ := h2
  exact ⟨a, n, rfl, rfl, ha, hn⟩
theorem types_two : ∃ d, Try.prog.types.size + 1 = d + 2 := by
  have h := Try.rowB
  generalize Try.prog.types.size = n at *
  exact ⟨n - 1, by simp only [TypeId] at h; omega⟩
theorem key_eq (v : Value) : keyOf Try.prog 32 v = if (Try.prog.keyType 32 && v.formed Try.prog 32) = true then (Try.prog.keyLits (Try.prog.types.size + 1) 32 v.cells.toList).map fun ls => .string (keyBytes ls) else none := by
  unfold keyOf
  rw [Try.underlying32]
theorem key_some (b : Bk) (h : okK b) : ∃ l, keyOf Try.prog 32 (bkV b) = some l := by
  obtain ⟨d, hd⟩ := types_two
  refine ⟨.string (keyBytes [.int .i64 b.1, .int .i64 b.2]), ?_⟩
  have hf : (bkV b).formed Try.prog 32 = true := by simp [bkV, Value.formed, Try.underlying32, Try.cellsB]
  rw [key_eq, Try.keyB, hf, hd]
  have hc : (bkV b).cells.toList = [.int .i64 b.1, .int .i64 b.2] := rfl
  rw [hc, key_lits d b.1 b.2 h.1 h.2]
  rfl
theorem key_inv (v : Value) (l : Lit) (h : keyOf Try.prog 32 v = some l) : ∃ b, okK b ∧ v = bkV b := by
  obtain ⟨d, hd⟩ := types_two
  rw [key_eq, Try.keyB, hd] at h
  cases hf : v.formed Try.prog 32 with
  | false => rw [hf] at h; simp at h
  | true =>
    rw [hf, Bool.and_true, if_pos rfl] at h
    obtain ⟨x, hx, -⟩ := Option.map_eq_some_iff.1 h
    cases v <;> simp [Value.formed, Try.underlying32] at hf
    rename_i cs
    rw [Try.cellsB] at hf
    have hl : cs.toList.length = 2 := by simpa using hf
    obtain ⟨u, v, e⟩ : ∃ u v, cs.toList = [u, v] := by
      match cs.toList, hl with
      | [u, v], _ => exact ⟨u, v, rfl⟩
    simp only [Value.cells] at hx
    rw [e] at hx
    obtain ⟨a, n, rfl, rfl, h1, h2⟩ := key_lits_inv d u v hx
    refine ⟨(a, n), ⟨h1, h2⟩, ?_⟩
    have : cs = #[.int .i64 a, .int .i64 n] := by rw [← Array.toList_inj, e]
    rw [this]; rfl
open Classical in
noncomputable def klB (b : Bk) : Lit := if h : okK b then (key_some b h).choose else .bool false
theorem klB_is (b : Bk) (h : okK b) : keyOf Try.prog 32 (bkV b) = some (klB b) := by
  unfold klB
  rw [dif_pos h]
  exact (key_some b h).choose_spec
def coV (s : ByteArray) : Value := .agg #[.string s]
def rqV (r : Rq) : Value := .agg #[.int .i64 r.b.1, .int .i64 r.b.2, .bool r.wr, .string r.s]
theorem bytes_ext {s t : ByteArray} (h : s.data.toList = t.data.toList) : s = t := by
  cases s; cases t; simp at h; rw [h]
theorem coV_inj (x y : ByteArray) (h : coV x = coV y) : x = y := by simpa [coV] using h
theorem rqV_inj (x y : Rq) (h : rqV x = rqV y) : x = y := by
  obtain ⟨⟨a, n⟩, w, s⟩ := x
  obtain ⟨⟨a', n'⟩, w', s'⟩ := y
  simp [rqV] at h
  obtain ⟨rfl, rfl, rfl, rfl⟩ := h
  rfl
def coE (s : ByteArray) : DataW Unit := .lit (.string s.data.toList)
def rqE (r : Rq) : DataW Unit := .agg [.lit (.int .i64 r.b.1), .lit (.int .i64 r.b.2), .lit (.bool r.wr), .lit (.string r.s.data.toList)]
theorem coE_inj (x y : ByteArray) (h : coE x = coE y) : x = y := by
  simp [coE] at h
  exact bytes_ext (by rw [h])
theorem rqE_inj (x y : Rq) (h : rqE x = rqE y) : x = y := by
  obtain ⟨⟨a, n⟩, w, s⟩ := x
  obtain ⟨⟨a', n'⟩, w', s'⟩ := y
  simp [rqE] at h
  obtain ⟨rfl, rfl, rfl, h⟩ := h
  rw [show s = s' from bytes_ext (by rw [h])]
theorem Try.zeroCo (w : World) : (zeroValue 75).run Try.prog w = .ok (coV ⟨#[]⟩) w := by kernel_rfl
theorem Try.zeroRq (w : World) : (zeroValue 67).run Try.prog w = .ok (rqV ⟨(0, 0), false, ⟨#[]⟩⟩) w := by kernel_rfl
/-- Blocks by their places. -/
noncomputable def MB : MK Bk ByteArray := ⟨57, 32, 75, bkV, klB, okK, coV, coE, ⟨#[]⟩, Try.lawB, Try.underlying57, klB_is, key_inv,
  fun x y h => by simpa [bkV, Prod.ext_iff] using h, coV_inj, coE_inj, Try.zeroCo⟩
def okI (t : Int) : Prop := (Lit.int .i64 t).wf = true
theorem int_inv (v : Value) (l : Lit) (h : keyOf Try.prog 3 v = some l) : ∃ x, okI x ∧ v = .int .i64 x := by
  obtain ⟨x, rfl, -, h2⟩ := Maps.keyOf_int_inv Try.underlying3 h
  exact ⟨x, h2, rfl⟩
/-- What is under way, by tickets. -/
def MF : MK Int Rq := ⟨58, 3, 67, Value.int .i64, Lit.int .i64, okI, rqV, rqE, ⟨(0, 0), false, ⟨#[]⟩⟩, int_keyed Try.underlying3, Try.underlying58, fun _ h => keyOf_int_mk Try.underlying3 h, int_inv,
  fun x y h => by simpa using h, rqV_inj, rqE_inj, Try.zeroRq⟩
/-- Answers, by tickets. -/
def MA : MK Int ByteArray := ⟨59, 3, 75, Value.int .i64, Lit.int .i64, okI, coV, coE, ⟨#[]⟩, int_keyed Try.underlying3, Try.underlying59, fun _ h => keyOf_int_mk Try.underlying3 h, int_inv,
  fun x y h => by simpa using h, coV_inj, coE_inj, Try.zeroCo⟩
/-- The blocks of memory that a device has. -/
def InD (t : Nat) : Nat → Prop := fun k => t ≤ k ∧ k ≤ t + 3
/-- The device, in block t + 3, its maps ahead of it. -/
structure DvIs (w : World) (t : Nat) (d : Dv) : Prop where
  c0 : w.cell? ⟨t + 3, 0, none⟩ = some (.bool (!d.off))
  c1 : w.cell? ⟨t + 3, 1, none⟩ = some (.int .i64 (d.jobs.length : Int))
  c2 : w.cell? ⟨t + 3, 2, none⟩ = some (.map (some t))
  c3 : w.cell? ⟨t + 3, 3, none⟩ = some (.map (some (t + 1)))
  c4 : w.cell? ⟨t + 3, 4, none⟩ = some (.map (some (t + 2)))
  f0 : w.frozen? ⟨t + 3, 0, none⟩ = false
  f1 : w.frozen? ⟨t + 3, 1, none⟩ = false
  mb : MapAs MB w t (lookL d.items)
  mf : MapAs MF w (t + 1) (fl d.jobs)
  ma : MapAs MA w (t + 2) (an d.jobs)
  good : Good d
theorem DvIs.lt {w : World} {t : Nat} {d : Dv} (h : DvIs w t d) : t + 3 < w.heap.size := World.block_lt_of_cell? w _ h.c0
theorem DvIs.keep {w w' : World} {t : Nat} {d : Dv} {S : Nat → Prop} (h : DvIs w t d) (hk : Keeps S w w') (hS : ∀ k, InD t k → ¬ S k) : DvIs w' t d := by
  have hl := h.lt
  have s3 : ¬ S (t + 3) := hS _ ⟨by omega, by omega⟩
  exact ⟨by rw [hk.cell hl s3]; exact h.c0, by rw [hk.cell hl s3]; exact h.c1, by rw [hk.cell hl s3]; exact h.c2, by rw [hk.cell hl s3]; exact h.c3, by rw [hk.cell hl s3]; exact h.c4,
    by rw [hk.frozen hl s3]; exact h.f0, by rw [hk.frozen hl s3]; exact h.f1, h.mb.keep hk (hS _ ⟨by omega, by omega⟩), h.mf.keep hk (hS _ ⟨by omega, by omega⟩), h.ma.keep hk (hS _ ⟨by omega, by omega⟩), h.good⟩
theorem DvIs.below {w w' : World} {t : Nat} {d : Dv} (h : DvIs w t d) (hb : Below w.heap.size w w') : DvIs w' t d := h.keep (Below.keeps (S := fun _ => False) hb) (fun _ _ => id)
theorem DvIs.alloc {w : World} {t : Nat} {d : Dv} (h : DvIs w t d) (o : Obj) : DvIs (w.alloc o) t d := h.below ((Below.refl _ _).alloc (Nat.le_refl _) o)
theorem DvIs.drew {w : World} {t : Nat} {d : Dv} (h : DvIs w t d) (m : Nat) : DvIs (w.drewN m) t d := h.below (below_drewN (Below.refl _ _) m)
/-- The maps have turned, the rest has not. -/
theorem DvIs.maps {w w' : World} {t : Nat} {d d' : Dv} (h : DvIs w t d) (hk : Keeps (fun k => t ≤ k ∧ k ≤ t + 2) w w') (ho : d'.off = d.off) (hj : d'.jobs.length = d.jobs.length) (mb : MapAs MB w' t (lookL d'.items)) (mf : MapAs MF w' (t + 1) (fl d'.jobs)) (ma : MapAs MA w' (t + 2) (an d'.jobs)) (g : Good d') : DvIs w' t d' := by
  have hl := h.lt
  have s3 : ¬ (t ≤ t + 3 ∧ t + 3 ≤ t + 2) := by omega
  exact ⟨by rw [hk.cell hl s3, ho]; exact h.c0, by rw [hk.cell hl s3, hj]; exact h.c1, by rw [hk.cell hl s3]; exact h.c2, by rw [hk.cell hl s3]; exact h.c3, by rw [hk.cell hl s3]; exact h.c4,
    by rw [hk.frozen hl s3]; exact h.f0, by rw [hk.frozen hl s3]; exact h.f1, mb, mf, ma, g⟩
theorem keeps_in {w w' : World} {t : Nat} (h : Keeps (fun k => t ≤ k ∧ k ≤ t + 2) w w') : Keeps (InD t) w w' := h.wider (fun k _ e => ⟨e.1, by omega⟩)
theorem wf_small {a : Int} (h1 : -9223372036854775808 ≤ a) (h2 : a ≤ 9223372036854775807) : (Lit.int .i64 a).wf = true :=
  WalkArith.wf_i64 ⟨h1, h2⟩
theorem okB_okK {b : Bk} (h : okB b = true) : okK b := by
  have := okB_iff.1 h
  exact ⟨wf_small (by omega) (by omega), wf_small (by omega) (by omega)⟩
end Go.Proofs.Ytjhndhibojndfaa
