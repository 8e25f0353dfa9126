/- The law's does, whole; both buffers made; Has and At in a region that only reads. -/
import Derived.Test.YtkikfbndcaojjaaQi
import Derived.Test.YtkikfbndcaojjaaQj
import Derived.Test.YtkikfbndcaojjaaQk
namespace Go.Proofs.Ytkikfbndcaojjaa
open Go.RowKit
section
variable {B D t m n : Nat} {bits : Int} {c : Nat} {F : Nat → Option Pg} {K : List (Nat × Nat)} {V : Nat → Nat → Int} {w : World}
theorem law_does12 (h : Bo B D t m n bits c F K V w) (x : AcP) (hx : AcPOk w x) (hcc : c ≤ 100000) (hlow : 0 < x.ll → ∀ g off, x.lo = some ⟨g, off, none⟩ → g < B) :
    Calls Try.prog 9 #[.pointer (some ⟨t, 0, none⟩), .pointer (some ⟨m, 0, none⟩), .agg #[.int .i64 x.kd, .int .i64 x.pg, .int .u64 (x.a : Int), .int .i64 x.n, .int .u64 x.old, .int .u64 x.wd, .slice x.lo x.ll x.lc]] w (DoesE B t m n bits c w) := by
  by_cases g1 : x.kd = 1
  · exact does_1 h x hx g1
  by_cases g2 : x.kd = 2
  · exact does_2 h x hx g2
  by_cases g3 : x.kd = 3
  · exact does_3 h x hx g3
  by_cases g4 : x.kd = 4
  · exact does_4 h x hx g4
  by_cases g5 : x.kd = 5
  · exact does_5 h x hx hcc g5
  by_cases g6 : x.kd = 6
  · exact does_6 h x hx g6
  by_cases g7 : x.kd = 7
  · exact does_7 h x hx hlow g7
  by_cases g8 : x.kd = 8
  · exact does_8 h x hx g8
  exact does_0 h x hx (by omega)
/-- Has, and At, wherever draws alone have been made. -/
theorem has_quiet (h : Bo B D t m n bits c F K V w) (pg : Int) (hpg : pg ≤ 9223372036854775807) : ∃ (b : Bool) (i : Int), ((b = true ∧ 0 ≤ i) ∨ (b = false ∧ i = -1)) ∧
    (∀ kk, Calls Try.prog 11 #[.pointer (some ⟨t, 0, none⟩), .int .i64 pg] (w.drewN kk) fun e w' => e = .returned (.bool b) ∧ ∃ m, w' = (w.drewN kk).drewN m) ∧
    (∀ kk, Calls Try.prog 12 #[.pointer (some ⟨m, 0, none⟩), .int .i64 pg] (w.drewN kk) fun e w' => e = .returned (.int .i64 i) ∧ w' = w.drewN kk) := by
  obtain ⟨S, M, vl, h, l⟩ := h
  have h' := fun kk => h.below (below_drewN (Below.refl w.heap.size w) kk)
  rcases in_or (n := n) F pg with ⟨P, v, rfl, hF⟩ | hno
  · obtain ⟨i, hi, e1, e2, -⟩ := l.here hF
    refine ⟨true, (i : Int), .inl ⟨rfl, by omega⟩, fun kk => ?_, fun kk => rb_at_yes (h' kk).rb i hi P e1 e2⟩
    obtain ⟨fb, g, o, hp⟩ := (h' kk).pb
    exact pb_has_yes hp P v hF
  · refine ⟨false, -1, .inr ⟨rfl, rfl⟩, fun kk => ?_, fun kk => rb_at_no (h' kk).rb pg (l.gone hno)⟩
    obtain ⟨fb, g, o, hp⟩ := (h' kk).pb
    exact pb_has_no hp pg hpg hno
end
/-- Both, just made. -/
theorem bo_made {B D t n : Nat} {bits : Int} {x1 x2 x3 : World} {vl : Value} {V : Nat → Nat → Int} (hB : B ≤ x1.heap.size) (hD : D < x1.heap.size) (hp : PB x2 (fun k => x1.heap.size ≤ k ∧ k < x2.heap.size) t n bits 0 (fun _ => none))
    (hr : RbIs x3 (fun k => k = x2.heap.size) x2.heap.size n bits [] V vl) (b : Below x2.heap.size x2 x3) (hs : x3.heap.size = x2.heap.size + 1) (b1 : x1.heap.size ≤ x2.heap.size) : Bo B D t x2.heap.size n bits 0 (fun _ => none) [] V x3 :=
  ⟨_, _, _, ⟨hp.below b, hr, fun k hk => ⟨by omega, by omega, by omega⟩, fun k hk => ⟨by omega, by omega, by omega⟩, by omega, fun k h1 h2 => by omega⟩, Lk.empty (by have := hr.hn; omega) V⟩
end Go.Proofs.Ytkikfbndcaojjaa
