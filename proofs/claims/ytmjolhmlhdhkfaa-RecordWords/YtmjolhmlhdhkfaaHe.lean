/- A header as an argument, opened. -/
import Derived.Test.YtmjolhmlhdhkfaaHd
import Derived.ChangeArms
import Derived.ChangeSame
import Derived.ProofKit
namespace Go.Proofs.Ytmjolhmlhdhkfaa
open Go.ChangeShapes Go.WideShapes Go.RowKit
theorem hd_cells : Try.prog.cellsOf 24 = 3 := by kernel_rfl
theorem hd_u64 : Try.prog.cellsOf 22 = 1 := by kernel_rfl
theorem hd_bool : Try.prog.cellsOf 4 = 1 := by kernel_rfl
/-- The cells of a header. -/
theorem hd_of_trod {H : Type} {enc : TypeId × Value → H} {W : World} {base : Nat} {sp : Nat → Bool} {held : Bool} {fuel : Nat} {cs : List Value} {x : DataW H × List MemPlace}
    (h : DataW.trod enc Try.prog W base sp held fuel 24 cs = some x) (hl : cs.length = 3) : ∃ (p : Nat) (t i : Bool), p < 18446744073709551616 ∧ cs = [.int .u64 (p : Int), .bool t, .bool i] := by
  obtain ⟨c0, c1, c2, rfl⟩ := list3 hl
  obtain ⟨xs, m, _, hx, _, hlen, hfs⟩ := DataW.trod_struct Try.underlying24 h
  obtain ⟨y0, y1, y2, rfl⟩ := list3 (l := xs) hlen
  have f0 := hfs 0 _ rfl
  have f1 := hfs 1 _ rfl
  have f2 := hfs 2 _ rfl
  simp [hd_u64] at f0
  simp [hd_bool] at f1 f2
  obtain ⟨e, e0, _, hw⟩ := DataW.trod_int Try.underlying22 f0
  obtain ⟨k, e1, _⟩ := DataW.trod_bool Try.underlying4 f1
  obtain ⟨p, e2, _⟩ := DataW.trod_bool Try.underlying4 f2
  cases e0; cases e1; cases e2
  obtain ⟨n, rfl, hn⟩ := nat_of_wf hw
  exact ⟨n, k, p, hn, rfl⟩
/-- What is told of an argument that is a header. -/
def IsHd (v : Value) : Prop := ∃ (p : Nat) (t i : Bool), p < 18446744073709551616 ∧ v = hdV p t i
theorem open_header {H : Type} {enc : TypeId × Value → H} {W : World} {base : Nat} {v : Value} {d : DataW H} {p : List MemPlace} (hv : Value.okWide Try.prog W .any base 24 v)
    (h : DataW.Trod enc Try.prog W 0 (fun _ => true) true 24 v d p) : IsHd v := by
  obtain ⟨cs, rfl, hsz⟩ := okWide_struct Try.underlying24 hv
  rw [hd_cells] at hsz
  obtain ⟨l⟩ := cs
  obtain ⟨fuel, hf⟩ := h
  obtain ⟨p, t, i, hp, e⟩ := hd_of_trod (cs := l) (by simpa [Value.cells] using hf) (by simpa using hsz)
  exact ⟨p, t, i, hp, by rw [e]; rfl⟩
end Go.Proofs.Ytmjolhmlhdhkfaa
