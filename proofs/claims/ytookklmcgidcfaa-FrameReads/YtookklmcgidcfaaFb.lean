/- The walks of frame: rightNumber, rightCount, Bytes, Pack, opened, Unpack. -/
import Derived.Test.YtookklmcgidcfaaWu
import Derived.Test.YtookklmcgidcfaaWy
import Derived.Test.YtookklmcgidcfaaFa
namespace Go.Proofs.Ytookklmcgidcfaa
open Go.RowKit
set_option maxHeartbeats 400000 in
theorem count_yes (n : Int) (w : World) (h1 : 1 ≤ n) (h2 : n ≤ 512) :
    Calls Try.prog 16 #[.int .i64 n] w fun e w' => e = .returned (.bool true) ∧ w' = w := by
  go_enter Try.func16, Try.ntmps16
  go_wp2
  go_ret
  exact ⟨rfl, rfl⟩
set_option maxHeartbeats 400000 in
theorem count_no (n : Int) (w : World) (h : n < 1 ∨ 512 < n) :
    Calls Try.prog 16 #[.int .i64 n] w fun e w' => e = .returned (.bool false) ∧ w' = w := by
  by_cases h1 : n < 1
  · clear h
    go_enter Try.func16, Try.ntmps16
    go_wp2
    go_ret
    exact ⟨rfl, rfl⟩
  · have h2 : 512 < n := by omega
    clear h
    go_enter Try.func16, Try.ntmps16
    go_wp2
    go_ret
    exact ⟨ret_bool (by simp; omega), rfl⟩
set_option maxHeartbeats 400000 in
theorem number_yes (n : Int) (w : World) (h1 : 0 ≤ n) (h2 : n < 64) :
    Calls Try.prog 15 #[.int .i64 n] w fun e w' => e = .returned (.bool true) ∧ w' = w := by
  go_enter Try.func15, Try.ntmps15
  go_wp2
  go_ret
  exact ⟨rfl, rfl⟩
set_option maxHeartbeats 400000 in
theorem number_no (n : Int) (w : World) (h : n < 0 ∨ 64 ≤ n) :
    Calls Try.prog 15 #[.int .i64 n] w fun e w' => e = .returned (.bool false) ∧ w' = w := by
  by_cases h1 : n < 0
  · clear h
    go_enter Try.func15, Try.ntmps15
    go_wp2
    go_ret
    exact ⟨rfl, rfl⟩
  · have h2 : 64 ≤ n := by omega
    clear h
    go_enter Try.func15, Try.ntmps15
    go_wp2
    go_ret
    exact ⟨ret_bool (by simp; omega), rfl⟩
set_option maxHeartbeats 400000 in
theorem fbytes_yes (n : Int) (w : World) (h1 : 1 ≤ n) (h2 : n ≤ 512) :
    Calls Try.prog 12 #[.int .i64 n] w fun e w' => e = .returned (.int .i64 (24 + 8 * n)) ∧ w' = w := by
  go_enter Try.func12, Try.ntmps12
  go_wp2_with fail
  refine (count_yes n _ h1 h2).mono ?_
  rintro e x ⟨rfl, rfl⟩
  go_wp2
  go_ret
  exact ⟨ret_int (by omega), rfl⟩
set_option maxHeartbeats 400000 in
theorem fbytes_no (n : Int) (w : World) (h : n < 1 ∨ 512 < n) :
    Calls Try.prog 12 #[.int .i64 n] w fun e w' => e = .returned (.int .i64 0) ∧ w' = w := by
  go_enter Try.func12, Try.ntmps12
  go_wp2_with fail
  refine (count_no n _ h).mono ?_
  rintro e x ⟨rfl, rfl⟩
  go_wp2
  go_ret
  exact ⟨rfl, rfl⟩
set_option maxHeartbeats 400000 in
theorem fpack_no (p : Int) (ao : Option Addr) (n cap : Nat) (w : World) (hn : n ≤ 1000000) (h : p < 0 ∨ 64 ≤ p ∨ n < 1 ∨ 512 < n) :
    Calls Try.prog 7 #[.int .i64 p, .slice ao n cap] w fun e w' => e = .returned (.tuple #[.string ⟨#[]⟩, .int .i64 1]) ∧ w' = w := by
  by_cases hp : p < 0 ∨ 64 ≤ p
  · go_enter Try.func7, Try.ntmps7
    go_wp2_with fail
    refine (number_no p _ hp).mono ?_
    rintro e x ⟨rfl, rfl⟩
    go_wp2
    go_ret2
    exact ⟨rfl, rfl⟩
  · have hc : (n : Int) < 1 ∨ 512 < (n : Int) := by omega
    go_enter Try.func7, Try.ntmps7
    go_wp2_with fail
    refine (number_yes p _ (by omega) (by omega)).mono ?_
    rintro e x ⟨rfl, rfl⟩
    go_wp2_with fail
    refine (count_no _ _ hc).mono ?_
    rintro e x ⟨rfl, rfl⟩
    go_wp2
    go_ret2
    exact ⟨rfl, rfl⟩
theorem own_lit2 (w : World) (a c : Nat) : (w.alloc (.cells #[.int .u64 (a : Int), .int .u64 (c : Int)] 29)).ownsRow w.heap.size 29 1 (.slice (some ⟨w.heap.size, 0, none⟩) 2 2) [a, c].length (uintsN [a, c]) :=
  World.ownsRow_lit w _ 2 (Nat.le_refl _) (by decide) rfl
/-- A slice of words that is there, or empty, as an append's source. -/
theorem sl_srcU {w : World} {ao : Option Addr} {cap : Nat} {l : List Nat} (h : Sl .u64 w ao l.length (fun j => ((l[j]?.getD 0 : Nat) : Int))) (hn : 1 ≤ l.length) : SrcU w (.slice ao l.length cap) l := by
  obtain ⟨b, off, rfl, _⟩ := h 0 (by omega)
  refine .inr ⟨_, cap, rfl, fun j hj => ?_⟩
  obtain ⟨b', off', he, hc⟩ := h j hj
  cases he
  rw [Go.WideShapes.add_plain]
  exact hc
set_option maxHeartbeats 1000000 in
theorem fpack_yes (p : Nat) (ao : Option Addr) (n cap : Nat) (l : List Nat) (w : World) (hl : l.length = n) (hp : p < 64) (h1 : 1 ≤ n) (h2 : n ≤ 512) (hs : Sl .u64 w ao n (fun j => ((l[j]?.getD 0 : Nat) : Int))) :
    Calls Try.prog 7 #[.int .i64 (p : Int), .slice ao n cap] w fun e w' => e = .returned (.tuple #[.string (strL (frT p l)), .int .i64 0]) ∧ Below w.heap.size w w' := by
  subst hl
  have s0 := sl_srcU (cap := cap) hs h1
  have HF : Hid (strL (sealL (wordsT (p :: l.length :: l))) = strL (frT p l)) := rfl
  have ho := own_lit2 w p l.length
  have hb : Below w.heap.size w (w.alloc (.cells #[.int .u64 (p : Int), .int .u64 (l.length : Int)] 29)) := (Below.refl _ _).alloc (Nat.le_refl _) _
  have s1 := s0.below ((Below.refl _ _).alloc (Nat.le_refl _) (.cells #[.int .u64 (p : Int), .int .u64 (l.length : Int)] 29))
  have hB : w.heap.size ≤ (w.alloc (.cells #[.int .u64 (p : Int), .int .u64 (l.length : Int)] 29)).heap.size := by simp
  clear s0 hs
  go_enter Try.func7, Try.ntmps7
  go_wp2_with fail
  refine (number_yes p _ (by omega) (by omega)).mono ?_
  rintro e x ⟨rfl, rfl⟩
  go_wp2_with fail
  refine (count_yes _ _ (by omega) (by omega)).mono ?_
  rintro e x ⟨rfl, rfl⟩
  go_wp2_with (at_builtin; refine append_src rfl _ _ rfl x.heap.size _ _ rfl ho _ _ rfl s1 ?c1 hB ?_)
  case c1 => simp only [List.length_cons, List.length_nil]; omega
  intro v2 w2 R HR o2 g2
  have hb2 := grow_src ho (Nat.le_refl _) hB hb g2
  have hR : Hid (R.length = l.length + 2) := by unfold Hid; rw [HR.out]; simp
  have hR2 : R.length ≤ 514 := by have := hR.out; omega
  obtain ⟨g, cap2, rfl, _, _⟩ := own_form o2 (by have := hR.out; omega)
  obtain ⟨_, _, he, sR⟩ := own_slU o2 rfl
  simp only [Value.slice.injEq, true_and] at he
  obtain ⟨rfl, rfl⟩ := he
  clear ho g2 hb hB s1 o2
  have HT : Hid ((⟨(bytesL (fun j => R[j]?.getD 0) (8 * R.length)).toArray⟩ : ByteArray) = strL (wordsT (p :: l.length :: l))) := by
    unfold Hid; rw [HR.out]; rfl
  obtain ⟨m, HM⟩ : ∃ m, Hid (m = 8 * R.length) := ⟨_, rfl⟩
  have hm : (R.length : Int) * 8 = (m : Int) := by rw [HM.out]; omega
  go_wp2_with fail
  refine (bytes_ok _ R.length cap2 m (fun j => R[j]?.getD 0) _ (by omega) sR (by have := HM.out; unfold wordsFor; omega) (fun i h1 h2 => by have := HM.out; omega)).mono ?_
  rintro e w3 ⟨rfl, b3⟩
  rw [HM.out, HT.out]
  replace b3 := hb2.trans (b3.mono hb2.size)
  have hsz : Hid ((strL (wordsT (p :: l.length :: l))).size ≤ 1000000) := by unfold Hid; rw [strL_size, wordsT_length]; simp only [List.length_cons]; omega
  have HW : Hid (∀ w, Calls Try.prog 18 #[.string (strL (wordsT (p :: l.length :: l)))] w fun e w' => e = .returned (.string (strL (frT p l))) ∧ Below w.heap.size w w') := fun w => seal_any _ w hsz.out
  generalize strL (wordsT (p :: l.length :: l)) = T at *
  clear HT HF hsz sR
  go_wp2_with fail
  refine (HW.out _).mono ?_
  rintro e w4 ⟨rfl, b4⟩
  replace b4 := b3.trans (b4.mono b3.size)
  go_wp2
  go_ret2
  exact ⟨rfl, b4⟩
end Go.Proofs.Ytookklmcgidcfaa
