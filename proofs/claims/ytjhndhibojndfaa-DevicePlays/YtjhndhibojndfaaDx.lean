/- between. -/
import Derived.Test.YtjhndhibojndfaaDw
import Derived.Test.YtjhndhibojndfaaDv
namespace Go.Proofs.Ytjhndhibojndfaa
open Go.RowKit
theorem str_same {s t : ByteArray} : (s.toList == t.toList) = decide (s = t) := by
  by_cases h : s = t
  · subst h; simp
  · have : s.toList ≠ t.toList := fun e => h (bytes_ext (by rw [← ByteArray.toList_eq, ← ByteArray.toList_eq]; exact e))
    simp [h, this]
set_option maxHeartbeats 1000000 in
theorem between_yes (w : World) (s was next : ByteArray) (hb : Btw s was next) (h1 : was.size ≤ 131072) (h2 : next.size ≤ 131072) :
    Calls Try.prog 20 #[.string s, .string was, .string next] w fun e w' => e = .returned (.bool true) ∧ Below w.heap.size w w' := by
  have HB := hide hb
  clear hb
  obtain ⟨f, hf⟩ : ∃ f : Nat → ByteArray, ∀ n, f n = next.extract 0 n ++ was.extract (min n was.size) was.size := ⟨_, fun _ => rfl⟩
  have HF := hide hf
  clear hf
  go_enter Try.func20, Try.ntmps20
  go_wp2
  go_loopw [7] (fun v wr => ∃ k : Nat, k ≤ next.size + 1 ∧ v = .int .i64 k ∧ Hid (∀ m, m < k → s ≠ f m) ∧ Below w.heap.size w wr) (fun v _ => next.size + 1 - (intOf v).toNat)
  case atStart => exact ⟨0, by omega, rfl, fun m hm => by omega, Below.refl _ _⟩
  case round =>
    obtain ⟨k, hk, rfl, hno, hbel⟩ := hrel
    by_cases hlt : k ≤ next.size
    · have hfk := HF.out k
      have h5 : ¬ 9223372036854775807 < k := by omega
      have h6 : ¬ 9223372036854775807 < was.size := by omega
      have hsz : next.size < 9223372036854775807 := by omega
      by_cases h3 : was.size < k
      · have hm : min (k : Int) (was.size : Int) = (was.size : Int) := by omega
        have e1 : f k = next.extract 0 k := by
          rw [hfk, Nat.min_eq_right (by omega)]
          simp
        have hs := str_same (s := s) (t := next.extract 0 k)
        clear hfk
        by_cases he : s = f k
        · rw [← e1, decide_eq_true he, e1] at hs
          have hq := hide (⟨HB, he⟩ : _ ∧ _)
          clear he HB HF e1
          go_wp2
          go_region_law (fail)
          all_goals
            go_wp2
            go_ret
            exact ⟨rfl, below_drewN hbel 1⟩
        · have hs' : (s.toList == (next.extract 0 k).toList) = false := by rw [hs, ← e1]; simp [he]
          have HE := hide he
          clear he hs e1
          go_wp2
          go_region_law (fail)
          all_goals
            go_wp2
            go_roundw
            case rel => exact ⟨k + 1, by omega, by go_num, fun m hm => by
              by_cases hmk : m = k
              · subst hmk; exact HE.out
              · exact hno.out m (by omega), below_drewN hbel 1⟩
            case measure => simp [intOf]; omega
      · have h7 : k ≤ was.size := by omega
        have hm : min (k : Int) (was.size : Int) = (k : Int) := by omega
        have e1 : f k = next.extract 0 k ++ was.extract k was.size := by rw [hfk, Nat.min_eq_left (by omega)]
        have hs := str_same (s := s) (t := next.extract 0 k ++ was.extract k was.size)
        clear hfk
        by_cases he : s = f k
        · rw [← e1, decide_eq_true he, e1] at hs
          clear he HB HF e1
          go_wp2
          go_region_law (fail)
          all_goals
            go_wp2
            go_ret
            exact ⟨rfl, below_drewN hbel 1⟩
        · have hs' : (s.toList == (next.extract 0 k ++ was.extract k was.size).toList) = false := by rw [hs, ← e1]; simp [he]
          have HE := hide he
          clear he hs e1
          go_wp2
          go_region_law (fail)
          all_goals
            go_wp2
            go_roundw
            case rel => exact ⟨k + 1, by omega, by go_num, fun m hm => by
              by_cases hmk : m = k
              · subst hmk; exact HE.out
              · exact hno.out m (by omega), below_drewN hbel 1⟩
            case measure => simp [intOf]; omega
    · have e : k = next.size + 1 := by omega
      subst e
      have hsn : s = next := by
        rcases HB.out with h | ⟨n, hn, h⟩
        · exact h
        · exact absurd (h.trans (HF.out n).symm) (hno.out n (by omega))
      have hs : (s.toList == next.toList) = true := by rw [str_same]; simp [hsn]
      clear hsn
      go_wp2
      go_ret
      exact ⟨rfl, hbel⟩
end Go.Proofs.Ytjhndhibojndfaa
