/- A record as an argument, opened; a slice of words, opened. -/
import Derived.Test.YtmjolhmlhdhkfaaRc
import Derived.Test.YtmjolhmlhdhkfaaHe
import Derived.ChangeArms
import Derived.ChangeSame
import Derived.OpenShut
namespace Go.Proofs.Ytmjolhmlhdhkfaa
open Go.ChangeShapes Go.WideShapes Go.ChangeAt Go.RowKit
theorem rec_cells : Try.prog.cellsOf 26 = 5 := by kernel_rfl
theorem rec_str : Try.prog.cellsOf 9 = 1 := by kernel_rfl
theorem list5 {α : Type} {l : List α} (h : l.length = 5) : ∃ a b c d e, l = [a, b, c, d, e] := by
  obtain _ | ⟨a, l⟩ := l; · simp at h
  obtain _ | ⟨b, l⟩ := l; · simp at h
  obtain ⟨c, d, e, rfl⟩ := list3 (l := l) (by simpa using h)
  exact ⟨a, b, c, d, e, rfl⟩
/-- The cells of a record. -/
theorem rec_of_trod {H : Type} {enc : TypeId × Value → H} {W : World} {base : Nat} {sp : Nat → Bool} {held : Bool} {fuel : Nat} {cs : List Value} {x : DataW H × List MemPlace}
    (h : DataW.trod enc Try.prog W base sp held fuel 26 cs = some x) (hl : cs.length = 5) :
    ∃ (p : Nat) (t i : Bool) (k v : ByteArray), p < 18446744073709551616 ∧ k.size ≤ maxLen ∧ v.size ≤ maxLen ∧ cs = [.int .u64 (p : Int), .bool t, .bool i, .string k, .string v] := by
  obtain ⟨c0, c1, c2, c3, c4, rfl⟩ := list5 hl
  obtain ⟨xs, m, _, hx, _, hlen, hfs⟩ := DataW.trod_struct Try.underlying26 h
  obtain ⟨y0, y1, y2, rfl⟩ := list3 (l := xs) hlen
  have f0 := hfs 0 _ rfl
  have f1 := hfs 1 _ rfl
  have f2 := hfs 2 _ rfl
  simp [hd_cells] at f0
  simp [rec_str] at f1 f2
  obtain ⟨p, t, i, hp, e0⟩ := hd_of_trod f0 rfl
  obtain ⟨k, e1, _, hk⟩ := DataW.trod_string Try.underlying9 f1
  obtain ⟨v, e2, _, hv⟩ := DataW.trod_string Try.underlying9 f2
  cases e0; cases e1; cases e2
  exact ⟨p, t, i, k, v, hp, hk, hv, rfl⟩
/-- What is told of an argument that is a record. -/
def IsRec (u : Value) : Prop := ∃ (p : Nat) (t i : Bool) (k v : ByteArray), p < 18446744073709551616 ∧ k.size ≤ maxLen ∧ v.size ≤ maxLen ∧ u = recV p t i k v
theorem open_record {H : Type} {enc : TypeId × Value → H} {W : World} {base : Nat} {v : Value} {d : DataW H} {p : List MemPlace} (hv : Value.okWide Try.prog W .any base 26 v)
    (h : DataW.Trod enc Try.prog W 0 (fun _ => true) true 26 v d p) : IsRec v := by
  obtain ⟨cs, rfl, hsz⟩ := okWide_struct Try.underlying26 hv
  rw [rec_cells] at hsz
  obtain ⟨l⟩ := cs
  obtain ⟨fuel, hf⟩ := h
  obtain ⟨p, t, i, k, v, hp, hk, hv, e⟩ := rec_of_trod (cs := l) (by simpa [Value.cells] using hf) (by simpa using hsz)
  exact ⟨p, t, i, k, v, hp, hk, hv, by rw [e]; rfl⟩
/-- What is told of an argument that is a slice of words. -/
def IsU64s (W : World) (u : Value) : Prop := ∃ zs : List Nat, (∀ z ∈ zs, z < 18446744073709551616) ∧ zs.length ≤ maxLen ∧ SrcU W u zs
theorem open_u64s {H : Type} {enc : TypeId × Value → H} {W : World} {base : Nat} {v : Value} {d : DataW H} {p : List MemPlace} (hv : Value.okWide Try.prog W .any base 27 v)
    (h : DataW.Trod enc Try.prog W 0 (fun _ => true) true 27 v d p) : IsU64s W v := by
  obtain ⟨a0, len0, cap0, rfl⟩ := okWide_slice Try.underlying27 hv
  obtain ⟨fuel, hf⟩ := h
  rcases open_ints Try.underlying27 Try.underlying22 (by kernel_rfl) hf with ⟨hcs, _⟩ | ⟨x, l, c, zs, hcs, _, hl, hm, hz, _, hcell, hwz⟩
  · simp [Value.cells] at hcs
    obtain ⟨rfl, rfl, rfl⟩ := hcs
    exact ⟨[], (fun z hz => absurd hz (by simp)), Nat.zero_le _, .inl ⟨rfl, rfl⟩⟩
  · simp [Value.cells] at hcs
    obtain ⟨rfl, rfl, rfl⟩ := hcs
    have hzl : zs.length = cap0 := by simpa using hz
    refine ⟨(zs.take len0).map Int.toNat, ?_, by simp; omega, .inr ⟨x, cap0, by simp; omega, fun j hj => ?_⟩⟩
    · intro z hz'
      rw [List.mem_map] at hz'
      obtain ⟨y, hy, rfl⟩ := hz'
      obtain ⟨n, h1, h2⟩ := nat_of_wf (hwz y (List.mem_of_mem_take hy))
      omega
    · have hj' : j < len0 := by simp at hj; omega
      have hjz : j < zs.length := by omega
      have hw' := hwz (zs[j]) (List.getElem_mem hjz)
      obtain ⟨n, h1, h2⟩ := nat_of_wf hw'
      rw [hcell j hjz]
      simp [List.getD_eq_getElem?_getD, hj', List.getElem?_eq_getElem hjz, h1]
end Go.Proofs.Ytmjolhmlhdhkfaa
