/- What record.Of and the reference's Of tell of any words: the same. -/
import Derived.Test.YtmjolhmlhdhkfaaRi
import Derived.Test.YtmjolhmlhdhkfaaRj
import Derived.Test.YtmjolhmlhdhkfaaRk
namespace Go.Proofs.Ytmjolhmlhdhkfaa
open Go.RowKit
/-- What a call with a slice that is read answers. -/
def SaysSl (f : Nat) (ao : Option Addr) (n cap : Nat) (v : Nat → Nat) (e : Ending) : Prop :=
  ∀ w : World, Sl .u64 w ao n (fun j => (v j : Int)) → Calls Try.prog f #[.slice ao n cap] w fun e' w' => e' = e ∧ Below w.heap.size w w'
def recE (p : Nat) (t i : Bool) (s1 s2 : ByteArray) (m e : Nat) : Ending := .returned (.tuple #[recV p t i s1 s2, .int .i64 (m : Int), .int .i64 (e : Int)])
theorem bool_of (P : Prop) : ∃ a : Bool, a = true ↔ P := ⟨@decide P (Classical.propDecidable P), by simp⟩
theorem size_bytes (v : Nat → Nat) (K : Nat) : (⟨(bytesL v K).toArray⟩ : ByteArray).size = K := by
  show (bytesL v K).toArray.size = K
  simp [bytesL_length]
theorem size_if (a : Bool) (v : Nat → Nat) (K : Nat) (hK : K ≤ 1000) : (if a then (⟨(bytesL v K).toArray⟩ : ByteArray) else ⟨#[]⟩).size ≤ 1000000 := by
  cases a
  · exact Nat.zero_le _
  · show (⟨(bytesL v K).toArray⟩ : ByteArray).size ≤ 1000000
    rw [size_bytes]; omega
theorem both_of (ao : Option Addr) (n cap : Nat) (v : Nat → Nat) (w0 : World) (hs0 : Sl .u64 w0 ao n (fun j => (v j : Int))) (hm : n ≤ 100000) (hcap : n ≤ cap) (hcm : cap ≤ 9223372036854775807) (hv : ∀ j, j < n → v j < 18446744073709551616) :
    ∃ p t i s1 s2 m e, SaysSl 14 ao n cap v (recE p t i s1 s2 m e) ∧ SaysSl 15 ao n cap v (recE p t i s1 s2 m e) ∧ m ≤ 27 ∧ e ≤ 5 := by
  by_cases h3 : n < 3
  · exact ⟨0, false, false, ⟨#[]⟩, ⟨#[]⟩, 0, 3, fun w _ => of_few ao n cap w h3, fun w _ => rof_few ao n cap w h3, by decide, by decide⟩
  · obtain ⟨b, off, rfl, _⟩ := hs0 0 (by omega)
    have hc : ∀ w : World, Sl .u64 w (some ⟨b, off, none⟩) n (fun j => (v j : Int)) → w.cell? ⟨b, off + 2, none⟩ = some (.int .u64 (v 2 : Int)) := by
      intro w hs
      obtain ⟨b', off', h1, h2⟩ := hs 2 (by omega)
      cases h1
      exact h2
    have hx := hv 2 (by omega)
    have h0 := hv 0 (by omega)
    have h1 := hv 1 (by omega)
    have h3' : 3 ≤ n := by omega
    cases ht : toldB (v 2) with
    | false => exact ⟨0, false, false, ⟨#[]⟩, ⟨#[]⟩, 0, 4, fun w hs => of_told b off n cap _ w h3' (hc w hs) hx ht, fun w hs => rof_told b off n cap _ w h3' (hc w hs) hx ht, by decide, by decide⟩
    | true =>
      obtain ⟨_, lk, lv⟩ : v 2 / 4294967296 = 44203 ∧ v 2 % 65536 ≤ 64 ∧ v 2 / 65536 % 65536 ≤ 128 := by simpa only [toldB, decide_eq_true_eq] using ht
      by_cases hn : n < sizeN (v 2 % 65536) (v 2 / 65536 % 65536)
      · exact ⟨0, false, false, ⟨#[]⟩, ⟨#[]⟩, 0, 3, fun w hs => of_short b off n cap _ w h3' (hc w hs) hx ht hn (by omega), fun w hs => rof_short b off n cap _ w h3' (hc w hs) hx ht hn (by omega), by decide, by decide⟩
      · have hn' : sizeN (v 2 % 65536) (v 2 / 65536 % 65536) ≤ n := by omega
        obtain ⟨a, ha⟩ := bool_of (Empty (shV v 3) (v 2 % 65536) (wordsFor (v 2 % 65536)))
        obtain ⟨c, hcc⟩ := bool_of (Empty (shV v (3 + wordsFor (v 2 % 65536))) (v 2 / 65536 % 65536) (wordsFor (v 2 / 65536 % 65536)))
        by_cases hg : GoodR v (v 2 % 65536) (v 2 / 65536 % 65536)
        · obtain ⟨g0, g1, g2, g3⟩ := hg
          have hl : decide (4294967296 ≤ (v 1 : Int)) = false := by rw [decide_eq_false_iff_not]; omega
          have ea := ha.2 g2
          have ec := hcc.2 g3
          by_cases hE : rightE (v 0 % 281474976710656) (tombB (v 0)) (⟨(bytesL (shV v 3) (v 2 % 65536)).toArray⟩ : ByteArray).size (⟨(bytesL (shV v (3 + wordsFor (v 2 % 65536))) (v 2 / 65536 % 65536)).toArray⟩ : ByteArray).size = 0
          · refine ⟨_, _, _, _, _, sizeN (v 2 % 65536) (v 2 / 65536 % 65536), 0, fun w hs => of_run b off n cap _ w h3' (hc w hs) hx ht v hs ⟨g0, g1, g2, g3⟩ hn' (by omega) hcap hcm _ _ _ _ _ rfl rfl rfl rfl rfl (size_bytes _ _) (size_bytes _ _) hE, fun w hs => ?_, by unfold sizeN wordsFor; omega, by decide⟩
            exact rof_run b off n cap _ w h3' (hc w hs) hx ht v hs hv hn' hm hcap hcm _ _ _ 0 (fun w => runpack_yes (v 0) w g0) a c ha hcc _ _ (by rw [ea]; rfl) (by rw [ec]; rfl) (by rw [size_bytes]; omega) (by rw [size_bytes]; omega) 0 hE rfl ea ec hl rfl
          · refine ⟨0, false, false, ⟨#[]⟩, ⟨#[]⟩, 0, 4, fun w hs => of_wrong b off n cap _ w h3' (hc w hs) hx ht v hs ⟨g0, g1, g2, g3⟩ hn' (by omega) hcap hcm _ _ _ _ _ rfl rfl rfl rfl rfl (size_bytes _ _) (size_bytes _ _) _ rfl hE, fun w hs => ?_, by decide, by decide⟩
            exact rof_e b off n cap _ w h3' (hc w hs) hx ht v hs hv hn' hm hcap hcm _ _ _ 0 (fun w => runpack_yes (v 0) w g0) a c ha hcc ⟨(bytesL (shV v 3) (v 2 % 65536)).toArray⟩ ⟨(bytesL (shV v (3 + wordsFor (v 2 % 65536))) (v 2 / 65536 % 65536)).toArray⟩ (by rw [ea]; rfl) (by rw [ec]; rfl) (by rw [size_bytes]; omega) (by rw [size_bytes]; omega) _ rfl rfl ea ec hl (by rw [bne_iff_ne]; omega)
        · refine ⟨0, false, false, ⟨#[]⟩, ⟨#[]⟩, 0, 4, fun w hs => of_form b off n cap _ w h3' (hc w hs) hx ht v hs h0 h1 hg hn' (by omega) hcap hcm, fun w hs => ?_, by decide, by decide⟩
          by_cases g0 : v 0 < 1125899906842624
          · cases ea : a with
            | false => exact rof_a b off n cap _ w h3' (hc w hs) hx ht v hs hv hn' hm hcap hcm _ _ _ 0 (fun w => runpack_yes (v 0) w g0) a c ha hcc _ _ rfl rfl (size_if _ _ _ (by omega)) (size_if _ _ _ (by omega)) _ rfl rfl ea
            | true =>
              cases ec : c with
              | false => exact rof_c b off n cap _ w h3' (hc w hs) hx ht v hs hv hn' hm hcap hcm _ _ _ 0 (fun w => runpack_yes (v 0) w g0) a c ha hcc _ _ rfl rfl (size_if _ _ _ (by omega)) (size_if _ _ _ (by omega)) _ rfl rfl ea ec
              | true =>
                have g1 : 4294967296 ≤ v 1 := by
                  apply Nat.le_of_not_lt
                  exact fun x => hg ⟨g0, x, ha.1 ea, hcc.1 ec⟩
                exact rof_l b off n cap _ w h3' (hc w hs) hx ht v hs hv hn' hm hcap hcm _ _ _ 0 (fun w => runpack_yes (v 0) w g0) a c ha hcc _ _ rfl rfl (size_if _ _ _ (by omega)) (size_if _ _ _ (by omega)) _ rfl rfl ea ec (by rw [decide_eq_true_eq]; omega)
          · exact rof_f b off n cap _ w h3' (hc w hs) hx ht v hs hv hn' hm hcap hcm _ _ _ 4 (fun w => runpack_no (v 0) w h0 (by omega)) a c ha hcc _ _ rfl rfl (size_if _ _ _ (by omega)) (size_if _ _ _ (by omega)) _ rfl (by decide)
end Go.Proofs.Ytmjolhmlhdhkfaa
