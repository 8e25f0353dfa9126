/- A slice of words that came in as an argument, as a list of naturals. -/
import Derived.Test.YtookklmcgidcfaaFd
import Derived.ProofKit
namespace Go.Proofs.Ytookklmcgidcfaa
open Go.RowKit Go.WideShapes
theorem words_of_ints {w : World} {x : Addr} {len cap : Nat} {zs : List Int} (hl : len ≤ cap) (hz : zs.length = cap) (hc : ∀ i, i < zs.length → w.cell? (x.add i) = some (.int .u64 (zs.getD i 0))) (hw : ∀ n ∈ zs, (Lit.int .u64 n).wf = true) :
    ∃ l : List Nat, l.length = len ∧ Sl .u64 w (some x) len (fun j => ((l[j]?.getD 0 : Nat) : Int)) ∧ ∀ j, j < len → l[j]?.getD 0 < 18446744073709551616 := by
  have hb : ∀ j, j < len → 0 ≤ zs.getD j 0 ∧ zs.getD j 0 < 18446744073709551616 := by
    intro j hj
    have hj' : j < zs.length := by omega
    have : (Lit.int .u64 (zs.getD j 0)).wf = true := by
      rw [List.getD_eq_getElem?_getD, List.getElem?_eq_getElem hj']; exact hw _ (List.getElem_mem hj')
    obtain ⟨n, h1, h2⟩ := nat_of_wf this
    omega
  refine ⟨listN (fun j => (zs.getD j 0).toNat) len, listN_length _ _, fun j hj => ?_, fun j hj => ?_⟩
  · obtain ⟨b, off, rfl, hc'⟩ := ints_at hc (by omega)
    refine ⟨b, off, rfl, ?_⟩
    simp only
    rw [listN_get _ _ _ hj, Int.toNat_of_nonneg (hb j hj).1]
    simpa using hc' j (by omega)
  · rw [listN_get _ _ _ hj]
    have := hb j hj
    omega
end Go.Proofs.Ytookklmcgidcfaa
