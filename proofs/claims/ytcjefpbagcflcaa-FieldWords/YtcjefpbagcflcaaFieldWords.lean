/- Whatever the input, haycroftlaw01.FieldWords returns true and changes no argument. Conditions: none. -/
import Derived.Test.YtcjefpbagcflcaaWj
import Derived.Test.YtcjefpbagcflcaaRows
import Derived.WalkKit
import Derived.ProofKit
import Derived.OpenShut
import Derived.ShutString
import Derived.ChangeOld
import Derived.Below
namespace Go.Proofs.Ytcjefpbagcflcaa.fieldWords
open Go.ChangeShapes Go.WideShapes Go.ChangeAt Go.RowKit
open Go.ChangeMaps (open_string shut_string)
set_option linter.unusedVariables false

theorem own : ownKnob Try.prog.godebug = none := by kernel_rfl
theorem laidOut : laidOutB Try.prog = true := by kernel_rfl

/-- WHAT THE WALK IS TOLD OF A SLICE OF INTEGERS THAT CAME IN: it is nil; or it leads to a row of 'cap' cells, the numbers 'zs' (the first 'len' are its elements, the rest its spare room), each fitting its kind. -/
def IsRow (k : IntKind) (w : World) (a : Option Addr) (len cap : Nat) (zs : List Int) : Prop :=
  (a = none ∧ len = 0 ∧ cap = 0 ∧ zs = []) ∨
  ∃ x, a = some x ∧ len ≤ cap ∧ cap ≤ maxLen ∧ zs.length = cap ∧ (∀ i, i < zs.length → w.cell? (x.add i) = some (.int k (zs.getD i 0))) ∧ ∀ n ∈ zs, (Lit.int k n).wf = true


theorem wf_getD {k : IntKind} {zs : List Int} (h : ∀ n ∈ zs, (Lit.int k n).wf = true) (j : Nat) (hj : j < zs.length) : (Lit.int k (zs.getD j 0)).wf = true := by
  rw [List.getD_eq_getElem?_getD, List.getElem?_eq_getElem hj]; exact h _ (List.getElem_mem hj)
theorem sl_of_row {k : IntKind} {w : World} {a : Option Addr} {len cap : Nat} {zs : List Int} (h : IsRow k w a len cap zs) : Sl k w a len (fun j => zs.getD j 0) := by
  rcases h with ⟨rfl, rfl, rfl, rfl⟩ | ⟨x, rfl, hl, hm, hz, hc, hw⟩
  · intro j hj; omega
  · intro j hj
    obtain ⟨b, off, rfl, hc'⟩ := ints_at hc (by omega)
    exact ⟨b, off, rfl, by simpa using hc' j (by omega)⟩
theorem sl_of_rowU {w : World} {a : Option Addr} {len cap : Nat} {zs : List Int} (h : IsRow .u64 w a len cap zs) : Sl .u64 w a len (fun j => ((zs.getD j 0).toNat : Int)) ∧ ∀ j, j < len → (zs.getD j 0).toNat < 18446744073709551616 := by
  have h0 := sl_of_row h
  have hb : ∀ j, j < len → 0 ≤ zs.getD j 0 ∧ zs.getD j 0 < 18446744073709551616 := by
    intro j hj
    rcases h with ⟨rfl, rfl, rfl, rfl⟩ | ⟨x, rfl, hl, hm, hz, hc, hw⟩
    · omega
    · obtain ⟨n, h1, h2⟩ := nat_of_wf (wf_getD hw j (by omega))
      omega
  refine ⟨fun j hj => ?_, fun j hj => by have := hb j hj; omega⟩
  obtain ⟨b, off, h1, h2⟩ := h0 j hj
  exact ⟨b, off, h1, by rw [h2]; simp only [Int.toNat_of_nonneg (hb j hj).1]⟩
theorem str_back (s : ByteArray) : (⟨(bytesL (wordAt s.data.toList) s.size).toArray⟩ : ByteArray) = s := by
  have h := bytes_of_words s.data.toList
  rw [show s.data.toList.length = s.size by simp] at h
  rw [h]
theorem own_slW {w : World} {base g N : Nat} {e : TypeId} {bs : List UInt8} (h : w.ownsRow base e 1 (.slice (some ⟨g, 0, none⟩) N N) N (uintsN (wordsL bs N))) : Sl .u64 w (some ⟨g, 0, none⟩) N (fun j => (wordAt bs j : Int)) := by
  intro j hj
  refine ⟨g, 0, rfl, ?_⟩
  rw [Nat.zero_add, own_cellsU h (wordsL_length _ _) j hj, wordsL_get _ _ _ hj]
  rfl
theorem extract_bytes (v : Nat → Nat) (n m : Nat) (h : m ≤ n) : (⟨(bytesL v n).toArray⟩ : ByteArray).extract 0 m = ⟨(bytesL v m).toArray⟩ := by
  apply ByteArray.ext
  rw [ByteArray.data_extract]
  apply Array.ext'
  simp [bytesL_take v m n h]
theorem rwords_bytes (v : Nat → Nat) (m : Nat) (w : World) (hm : m ≤ 1000000) : Calls Try.prog 28 #[.string ⟨(bytesL v m).toArray⟩] w fun e w' => ∃ ao cap, e = .returned (.slice ao (wordsFor m) cap) ∧
      Sl .u64 w' ao (wordsFor m) (fun j => (wordAt (bytesL v m) j : Int)) ∧ Below w.heap.size w w' := by
  have hsz : (⟨(bytesL v m).toArray⟩ : ByteArray).size = m := by show (bytesL v m).toArray.size = m; simp [bytesL_length]
  have h := rwords_any ⟨(bytesL v m).toArray⟩ w (by rw [hsz]; exact hm)
  rw [hsz] at h
  exact h
set_option maxHeartbeats 1000000 in
theorem walk_far (s : ByteArray) (a1 : Option Addr) (n1 c1 : Nat) (n : Int) (w : World) (hs : s.size ≤ 9223372036854775807) (h1 : n1 ≤ 9223372036854775807) (h : 1000 < s.size ∨ 1000 < n1) :
    Calls Try.prog 7 #[.string s, .slice a1 n1 c1, .int .i64 n] w fun e w' => e = .returned (.bool true) ∧ Below w.heap.size w w' := by
  by_cases h0 : 1000 < s.size
  · clear h
    go_enter Try.func7, Try.ntmps7
    go_wp2_with (go_at_call 8; refine (awake_any _).mono ?_; rintro e x1 ⟨rfl, b1⟩)
    go_ret
    exact ⟨rfl, by assumption⟩
  · have h3 : 1000 < n1 := by omega
    clear h
    go_enter Try.func7, Try.ntmps7
    go_wp2_with (go_at_call 8; refine (awake_any _).mono ?_; rintro e x1 ⟨rfl, b1⟩)
    go_ret
    exact ⟨rfl, by assumption⟩
set_option maxHeartbeats 4000000 in
theorem walk_near (s : ByteArray) (a1 : Option Addr) (N c1 : Nat) (n : Int) (v : Nat → Nat) (w : World) (hs : s.size ≤ 1000) (hN : N ≤ 1000) (s1 : Sl .u64 w a1 N (fun j => (v j : Int))) (hv : ∀ j, j < N → v j < 18446744073709551616) (hn1 : n ≤ 9223372036854775807) :
    Calls Try.prog 7 #[.string s, .slice a1 N c1, .int .i64 n] w fun e w' => e = .returned (.bool true) ∧ Below w.heap.size w w' := by
  have S1 := hide s1
  have HV := hide hv
  have HST := hide (str_back s)
  have HEM : Hid (Empty (wordAt s.data.toList) s.size (wordsFor s.size)) := by
    have := empty_words s.data.toList (wordsFor s.size)
    simpa [Hid] using this
  have hwf : wordsFor s.size ≤ 1000 := by unfold wordsFor; omega
  clear s1 hv
  go_enter Try.func7, Try.ntmps7
  go_wp2_with fail
  refine (awake_any _).mono ?_
  rintro e x1 ⟨rfl, b1⟩
  go_wp2_with fail
  refine (words_any _ _ (by omega)).mono ?_
  rintro e x2 ⟨g, rfl, hown, b2⟩
  have SW := hide (own_slW hown)
  clear hown
  replace b2 := b1.trans (b2.mono b1.size)
  clear b1
  go_wp2_with fail
  refine (bytes_ok _ _ _ _ (wordAt s.data.toList) _ (by omega) SW.out rfl HEM.out).mono ?_
  rintro e x3 ⟨rfl, b3⟩
  have SW3 := hide (SW.out.below b3)
  replace b3 := b2.trans (b3.mono b2.size)
  rw [HST.out]
  clear b2 SW HEM HST
  go_wp2_with fail
  refine (rwords_any _ _ (by omega)).mono ?_
  rintro e x4 ⟨ar, cr, rfl, sr, b4⟩
  have SR := hide sr
  have SW4 := hide (SW3.out.below b4)
  replace b4 := b3.trans (b4.mono b3.size)
  clear sr SW3 b3
  go_wp2_with fail
  refine (same_any _ _ _ _ _ _ _ _ true _ (by omega) (by omega) SW4.out SR.out (by simp)).mono ?_
  rintro e x5 ⟨rfl, b5'⟩
  have b5 := b4.trans ((below_drewN' b5').mono b4.size)
  clear b4 b5' SR SW4
  have S5 := hide (S1.out.below b5)
  clear S1
  by_cases hneg : n < 0
  · go_wp2_with fail
    refine (bytes_neg _ _ _ _ _ hneg).mono ?_
    rintro e x6 ⟨rfl, rfl⟩
    go_wp2
    go_ret
    exact ⟨rfl, b5⟩
  · obtain ⟨m, rfl⟩ := Int.eq_ofNat_of_zero_le (show 0 ≤ n by omega)
    clear hneg
    have hm : m ≤ 9223372036854775807 := by omega
    by_cases hsh : 8 * N < m
    · have hsh' : N < wordsFor m := by unfold wordsFor; omega
      go_wp2_with fail
      refine (bytes_short _ _ _ _ _ hm hsh').mono ?_
      rintro e x6 ⟨rfl, rfl⟩
      clear hsh'
      go_wp2
      go_ret
      exact ⟨rfl, b5⟩
    · have hle : wordsFor m ≤ N := by unfold wordsFor; omega
      have hall : Hid (Empty v (8 * N) N) := fun i h1 h2 => by omega
      have hall0 : Hid (wordsFor (8 * N) = N) := by unfold Hid wordsFor; omega
      by_cases hlong : wordsFor m < N
      · go_wp2_with fail
        refine (bytes_form _ _ _ _ v _ (by omega) hm S5.out hle (.inl hlong)).mono ?_
        rintro e x6 ⟨rfl, rfl⟩
        have hq : (m + 7) / 8 < N := hlong
        clear hle hlong
        go_wp2_with fail
        refine (bytes_ok _ _ _ (8 * N) v _ (by omega) S5.out hall0.out hall.out).mono ?_
        rintro e x7 ⟨rfl, b7⟩
        replace b7 := b5.trans (b7.mono b5.size)
        go_wp2
        go_ret
        exact ⟨rfl, b7⟩
      · have heq : wordsFor m = N := by omega
        by_cases hem : Empty v m N
        · go_wp2_with fail
          refine (bytes_ok _ _ _ m v _ (by omega) S5.out heq hem).mono ?_
          rintro e x6 ⟨rfl, b6⟩
          have S6 := hide (S5.out.below b6)
          replace b6 := b5.trans (b6.mono b5.size)
          have hsz : (⟨(bytesL v m).toArray⟩ : ByteArray).size = m := by show (bytesL v m).toArray.size = m; simp [bytesL_length]
          have HEQ := hide heq
          have HSAME : Hid (∀ j, j < N → wordAt (bytesL v m) j = v j) := (words_of_bytes v m N HV.out).2 hem
          clear hle hlong heq hem S5
          go_wp2_with fail
          refine (rwords_bytes v m _ (by omega)).mono ?_
          rintro e x7 ⟨ao, cp, rfl, s7, b7⟩
          have S7 := hide s7
          have S8 := hide (S6.out.below b7)
          replace b7 := b6.trans (b7.mono b6.size)
          clear s7 S6 b6
          rw [HEQ.out] at S7 ⊢
          go_wp2_with fail
          refine (same_any _ _ _ _ _ _ _ _ true _ (by omega) (by omega) S7.out S8.out (by simpa using HSAME.out)).mono ?_
          rintro e x8 ⟨rfl, b8'⟩
          have b8 := b7.trans ((below_drewN' b8').mono b7.size)
          go_wp2
          go_ret
          exact ⟨rfl, b8⟩
        · have hq : ¬ (m + 7) / 8 < N := hlong
          go_wp2_with fail
          refine (bytes_form _ _ _ _ v _ (by omega) hm S5.out hle (.inr hem)).mono ?_
          rintro e x6 ⟨rfl, rfl⟩
          have HEQ := hide heq
          have HDIFF : Hid (¬ ∀ j, j < N → wordAt (bytesL v m) j = v j) := fun h => hem ((words_of_bytes v m N HV.out).1 h)
          clear hle hlong heq hem
          go_wp2_with fail
          refine (bytes_ok _ _ _ (8 * N) v _ (by omega) S5.out hall0.out hall.out).mono ?_
          rintro e x7 ⟨rfl, b7⟩
          have S7 := hide (S5.out.below b7)
          replace b7 := b5.trans (b7.mono b5.size)
          have hsz : (⟨(bytesL v (8 * N)).toArray⟩ : ByteArray).size = 8 * N := by show (bytesL v (8 * N)).toArray.size = 8 * N; simp [bytesL_length]
          have HX := hide (extract_bytes v (8 * N) m (by omega))
          go_wp2_with fail
          rw [HX.out]
          refine (rwords_bytes v m _ (by omega)).mono ?_
          rintro e x8 ⟨ao, cp, rfl, s8, b8⟩
          have S8 := hide s8
          have S9 := hide (S7.out.below b8)
          replace b8 := b7.trans (b8.mono b7.size)
          clear s8 S7 b7
          rw [HEQ.out] at S8 ⊢
          go_wp2_with fail
          refine (same_any _ _ _ _ _ _ _ _ false _ (by omega) (by omega) S8.out S9.out (by simpa using HDIFF.out)).mono ?_
          rintro e x9 ⟨rfl, b9'⟩
          have b9 := b8.trans ((below_drewN' b9').mono b8.size)
          go_wp2
          go_ret
          exact ⟨rfl, b9⟩
theorem walk (a0 : ByteArray) (a1 : Option Addr) (len1 cap1 : Nat) (z1 : List Int) (a2 : Int) (w : World) (w0 : a0.size ≤ maxLen) (w1 : IsRow .u64 w a1 len1 cap1 z1) (w2 : (Lit.int .i64 a2).wf = true) :
    Calls Try.prog 7 #[.string a0, .slice a1 len1 cap1, .int .i64 a2] w fun e w' => e = .returned (.bool true) ∧ Below w.heap.size w w' := by
  obtain ⟨s1, hv⟩ := sl_of_rowU w1
  have hm : len1 ≤ 9223372036854775807 := by
    rcases w1 with ⟨_, rfl, _⟩ | ⟨_, _, hl, hm, _⟩
    · omega
    · unfold maxLen at hm; omega
  have hb := bounds_i64 w2
  unfold maxLen at w0
  by_cases hfar : 1000 < a0.size ∨ 1000 < len1
  · exact walk_far a0 a1 len1 cap1 a2 w w0 hm hfar
  · exact walk_near a0 a1 len1 cap1 a2 _ w (by omega) (by omega) s1 hv (by omega)
/-! ### THE ROW's STEP: WRITTEN OUT: LEAVE IT -/
set_option maxRecDepth 100000 in
theorem lifted (os : Os) (started : os.Started) (H : Type) (enc : TypeId × Value → H) :
    ReturnsInHanded {} Try.checked os 7 .any (Rows.fieldWordsSpec.pre6 enc Try.prog Try.f7 Rows.fieldWordsRow.domain false) (Rows.fieldWordsSpec.post enc Try.prog Try.f7 false true false false) := by
  refine returnsInHanded_of_change (C := Try.checked) own started (by kernel_rfl) Try.func7
    (ChangeSpec.witness6 (enc := enc) (C := Try.checked) false ⟨#[], #[.string ByteArray.empty, .slice none 0 0, .int .i64 0], []⟩ 8 (by kernel_rfl) (by kernel_rfl) (by kernel_rfl) (by kernel_rfl)) ?_
  intro W base args ds gs before hval0 hW hcnd _
  have hval : ∀ (j : Nat) t v, Try.f7.params[j]? = some t → args[j]? = some v → Value.okWide Try.prog W .any base t v := hval0
  have hW' := hW
  obtain ⟨p, q, hA0, hV, rfl, hfz, hnd⟩ := hW
  have hA : DataW.TrodAll enc Try.prog W 0 (fun _ => true) true Try.f7.params.toList args.toList ds p := hA0
  rw [Try.params7] at hA hval
  obtain ⟨v0, vs0, d0, ds0, p0, q0, hargs, rfl, rfl, h0, r0⟩ := trodAll_cons hA
  obtain ⟨v1, vs1, d1, ds1, p1, q1, rfl, rfl, rfl, h1, r1⟩ := trodAll_cons r0
  obtain ⟨v2, vs2, d2, ds2, p2, q2, rfl, rfl, rfl, h2, r2⟩ := trodAll_cons r1
  obtain ⟨rfl, rfl, rfl⟩ := trodAll_nil r2
  obtain rfl : args = #[v0, v1, v2] := by cases args; simp_all
  obtain ⟨rfl, rfl⟩ := trodVars_none hV
  obtain ⟨a0, rfl, rfl, rfl, w0⟩ := open_string Try.underlying9 (hval 0 9 v0 rfl rfl) h0
  obtain ⟨a1, len1, cap1, rfl⟩ := okWide_slice Try.underlying38 (hval 1 38 v1 rfl rfl)
  have k1 := h1
  have lt1 : ∀ x ∈ p1, x.block < W.heap.size := by obtain ⟨m, hm⟩ := k1; exact DataW.trod_lt m _ _ _ hm
  obtain ⟨z1, w1⟩ : ∃ zs, IsRow .u64 W a1 len1 cap1 zs := by
    obtain ⟨fuel, hf⟩ := h1
    rcases open_ints Try.underlying38 Try.underlying22 (by kernel_rfl) hf with ⟨hcs, _⟩ | ⟨x, l, c, zs, hcs, _, hl, hm, hz, _, hcell, hwz⟩
    · simp [Value.cells] at hcs
      obtain ⟨rfl, rfl, rfl⟩ := hcs
      exact ⟨[], .inl ⟨rfl, rfl, rfl, rfl⟩⟩
    · simp [Value.cells] at hcs
      obtain ⟨rfl, rfl, rfl⟩ := hcs
      exact ⟨zs, .inr ⟨_, rfl, hl, hm, by simpa using hz, hcell, hwz⟩⟩
  obtain ⟨a2, rfl, rfl, rfl, w2⟩ := open_int Try.underlying3 (hval 2 3 v2 rfl rfl) h2
  clear hA0 hval0
  refine (walk a0 a1 len1 cap1 z1 a2 W w0 w1 w2).mono fun e W' ⟨he, bel⟩ => ?_
  subst he
  exact ⟨_, rfl, _, _, _, [], _, [], hW', trodAll_mk1 (shut_bool Try.underlying4 _), (trodAll_cons_mk (shut_string Try.underlying9 w0) (trodAll_cons_mk (Below.trod laidOut (by kernel_rfl) (of_decide_eq_true (by kernel_rfl)) k1 bel lt1) (trodAll_cons_mk (shut_int Try.underlying3 w2) trodAll_mk0))), rfl, bel.frame _, fun h => by cases h⟩

theorem over : Rows.fieldWordsRow.holds Try.pinned (OpenSpec.ofChange Rows.fieldWordsSpec) :=
  OpenClaim.holds_of_wide 7 Try.f7 rfl rfl rfl rfl rfl rfl rfl ⟨rfl, rfl, rfl, rfl, rfl⟩ rfl rfl rfl rfl rfl (by kernel_rfl) Try.func7 (by kernel_rfl)
    (of_decide_eq_true (by kernel_rfl)) (by unfold Func.isWrapper; first | (rw [if_pos (by decide +kernel)]; kernel_rfl) | (rw [if_neg (by decide +kernel)]; exact ⟨rfl, rfl⟩))
    (fun os started H enc _ => lifted os started H enc)

/-- ████ THE STATEMENT ████ -/
theorem proved : Rows.FieldWordsSaid := over
#print axioms proved

end Go.Proofs.Ytcjefpbagcflcaa.fieldWords
