/- Whatever the input, haycroftlaw09.RecordWords returns true and changes no argument. Conditions: none. -/
import Derived.Test.YtmjolhmlhdhkfaaRm
import Derived.Test.YtmjolhmlhdhkfaaRn
import Derived.Test.YtmjolhmlhdhkfaaWh
import Derived.Test.YtmjolhmlhdhkfaaRows
import Derived.WalkKit
import Derived.ProofKit
import Derived.OpenShut
import Derived.ShutString
import Derived.ChangeOld
import Derived.Below
import Derived.ChangeSame
namespace Go.Proofs.Ytmjolhmlhdhkfaa.recordWords
open Go.ChangeShapes Go.WideShapes Go.ChangeAt Go.RowKit
open Go.ChangeMaps (open_string shut_string)
set_option linter.unusedVariables false
theorem own : ownKnob Try.prog.godebug = none := by kernel_rfl
theorem laidOut : laidOutB Try.prog = true := by kernel_rfl

theorem str_refl (s : ByteArray) : (s.toList == s.toList) = true := by simp
theorem src_form {w : World} {u : Value} {zs : List Nat} (h : SrcU w u zs) : ∃ ao c, u = .slice ao zs.length c := by
  rcases h with ⟨h, rfl⟩ | ⟨ad, c, h, _⟩
  · exact ⟨_, _, h⟩
  · exact ⟨_, _, h⟩
theorem sl_own {w : World} {base : Nat} {e : TypeId} {v : Value} {zs : List Nat} (h : w.ownsRow base e 1 v zs.length (uintsN zs)) (hn : 0 < zs.length) : ∃ g cap, v = .slice (some ⟨g, 0, none⟩) zs.length cap ∧ base ≤ g ∧ zs.length ≤ cap ∧ cap ≤ 9223372036854775807 ∧ Sl .u64 w (some ⟨g, 0, none⟩) zs.length (fun j => (zs[j]?.getD 0 : Nat)) := by
  obtain ⟨g, cap, rfl, h1, _⟩ := own_form h hn
  obtain ⟨c1, _, _, c2⟩ := own_cap h
  exact ⟨g, cap, rfl, h1, c1, c2, fun j hj => ⟨g, 0, rfl, by rw [Nat.zero_add]; exact own_cellsU h rfl j hj⟩⟩
set_option maxHeartbeats 1000000 in
theorem walk_far (p : Nat) (t i : Bool) (k v : ByteArray) (ao : Option Addr) (n c : Nat) (w : World) (hk : k.size ≤ maxLen) (hv : v.size ≤ maxLen) (hn : n ≤ maxLen) (h : 1000 < k.size ∨ 1000 < v.size ∨ 100 < n) :
    Calls Try.prog 3 #[recV p t i k v, .slice ao n c] w fun e w' => e = .returned (.bool true) ∧ Below w.heap.size w w' := by
  unfold recV
  unfold maxLen at hk hv hn
  have BR := hide (Box5.made w (.int .u64 (p : Int)) (.bool t) (.bool i) (.string k) (.string v) 26)
  have hb : Below w.heap.size w (w.alloc (.cells #[.int .u64 (p : Int), .bool t, .bool i, .string k, .string v] 26)) := (Below.refl _ w).alloc (Nat.le_refl _) _
  have H := hide h
  clear h
  by_cases h1 : 1000 < k.size
  · go_enter Try.func3, Try.ntmps3
    go_wp2_with fail
    refine (awake_any _).mono ?_
    rintro e x1 ⟨rfl, b1⟩
    replace BR := hide (BR.out.below b1)
    replace hb := hb.trans (b1.mono hb.size)
    obtain ⟨d0, d1, d2, d3, d4, _⟩ := BR.out
    go_wp2
    go_ret
    exact ⟨rfl, hb⟩
  · by_cases h2 : 1000 < v.size
    · go_enter Try.func3, Try.ntmps3
      go_wp2_with fail
      refine (awake_any _).mono ?_
      rintro e x1 ⟨rfl, b1⟩
      replace BR := hide (BR.out.below b1)
      replace hb := hb.trans (b1.mono hb.size)
      obtain ⟨d0, d1, d2, d3, d4, _⟩ := BR.out
      go_wp2
      go_ret
      exact ⟨rfl, hb⟩
    · have h3 : 100 < n := by have := H.out; omega
      go_enter Try.func3, Try.ntmps3
      go_wp2_with fail
      refine (awake_any _).mono ?_
      rintro e x1 ⟨rfl, b1⟩
      replace BR := hide (BR.out.below b1)
      replace hb := hb.trans (b1.mono hb.size)
      obtain ⟨d0, d1, d2, d3, d4, _⟩ := BR.out
      go_wp2
      go_ret
      exact ⟨rfl, hb⟩
set_option maxHeartbeats 2000000 in
theorem walk_no (p : Nat) (t i : Bool) (k v : ByteArray) (ao : Option Addr) (n c : Nat) (w : World) (hk : k.size ≤ 1000) (hv : v.size ≤ 1000) (hn : n ≤ 100) (h : rightE p t k.size v.size ≠ 0) :
    Calls Try.prog 3 #[recV p t i k v, .slice ao n c] w fun e w' => e = .returned (.bool true) ∧ Below w.heap.size w w' := by
  have R1 := hide (fun w => rec_right p t i k v w (by omega) (by omega))
  have R2 := hide (fun w => ref_right p t i k v w (by omega) (by omega))
  have WN := hide (fun w => words_no p t i k v w (by omega) (by omega) h)
  have hne : ((rightE p t k.size v.size : Int) != 0) = true := by rw [bne_iff_ne]; omega
  have hee : ((rightE p t k.size v.size : Int) != (rightE p t k.size v.size : Int)) = false := by simp
  clear h
  generalize rightE p t k.size v.size = E at *
  unfold recV at *
  have BR := hide (Box5.made w (.int .u64 (p : Int)) (.bool t) (.bool i) (.string k) (.string v) 26)
  have hb : Below w.heap.size w (w.alloc (.cells #[.int .u64 (p : Int), .bool t, .bool i, .string k, .string v] 26)) := (Below.refl _ w).alloc (Nat.le_refl _) _
  go_enter Try.func3, Try.ntmps3
  go_wp2_with fail
  refine (awake_any _).mono ?_
  rintro e x1 ⟨rfl, b1⟩
  replace BR := hide (BR.out.below b1)
  replace hb := hb.trans (b1.mono hb.size)
  clear b1
  obtain ⟨d0, d1, d2, d3, d4, _⟩ := BR.out
  go_wp2_with fail
  refine (R1.out _).mono ?_
  rintro e x2 ⟨rfl, b1⟩
  replace BR := hide (BR.out.below b1)
  replace hb := hb.trans (b1.mono hb.size)
  clear b1 d0 d1 d2 d3 d4
  obtain ⟨d0, d1, d2, d3, d4, _⟩ := BR.out
  go_wp2_with fail
  refine (WN.out _).mono ?_
  rintro e x3 ⟨rfl, b1⟩
  replace BR := hide (BR.out.below b1)
  replace hb := hb.trans (b1.mono hb.size)
  clear b1 d0 d1 d2 d3 d4
  obtain ⟨d0, d1, d2, d3, d4, _⟩ := BR.out
  go_wp2_with fail
  refine (R2.out _).mono ?_
  rintro e x4 ⟨rfl, b1⟩
  replace BR := hide (BR.out.below b1)
  replace hb := hb.trans (b1.mono hb.size)
  clear b1 d0 d1 d2 d3 d4
  obtain ⟨d0, d1, d2, d3, d4, _⟩ := BR.out
  go_wp2
  go_ret
  exact ⟨ret_bool (by simp), hb⟩
set_option maxRecDepth 10000 in
set_option maxHeartbeats 4000000 in
theorem walk_yes (p : Nat) (t i : Bool) (k v : ByteArray) (u : Value) (zs : List Nat) (w : World) (hn : zs.length ≤ 100) (hsrc : SrcU w u zs) (h : rightE p t k.size v.size = 0) :
    Calls Try.prog 3 #[recV p t i k v, u] w fun e w' => e = .returned (.bool true) ∧ Below w.heap.size w w' := by
  obtain ⟨hp, hk0, hk, hv, _⟩ := right_parts h
  have R1 := hide (fun w => rec_right p t i k v w (by omega) (by omega))
  have R2 := hide (fun w => ref_right p t i k v w (by omega) (by omega))
  rw [h] at R1 R2
  have W1 := hide (fun w => words_yes p t i k v w h)
  have W2 := hide (fun w => ref_words p t i k v w h)
  have OW := hide (fun bs => of_words p t i k v h bs)
  have OP := hide (fun g n cap w => of_prefix p t i k v h g n cap w)
  have HL := hide (recL_length p t i k v)
  have hN : sizeN k.size v.size ≤ 27 := by unfold sizeN wordsFor; omega
  have hN4 : 4 ≤ sizeN k.size v.size := by unfold sizeN wordsFor; omega
  generalize recL p t i k v = R at *
  have HS := hide hsrc
  obtain ⟨ao, c, rfl⟩ := src_form hsrc
  clear hsrc
  unfold recV at *
  have BR := hide (Box5.made w (.int .u64 (p : Int)) (.bool t) (.bool i) (.string k) (.string v) 26)
  have hb : Below w.heap.size w (w.alloc (.cells #[.int .u64 (p : Int), .bool t, .bool i, .string k, .string v] 26)) := (Below.refl _ w).alloc (Nat.le_refl _) _
  have HSZ := hide (fun w => size_yes k.size v.size w hk hv)
  generalize sizeN k.size v.size = N at *
  have eN : ((N : Int) != (N : Int)) = false := by simp
  clear h
  go_enter Try.func3, Try.ntmps3
  go_wp2_with fail
  refine (awake_any _).mono ?_
  rintro e x1 ⟨rfl, b1⟩
  replace BR := hide (BR.out.below b1)
  replace hb := hb.trans (b1.mono hb.size)
  clear b1
  obtain ⟨d0, d1, d2, d3, d4, _⟩ := BR.out
  go_wp2_with fail
  refine (R1.out _).mono ?_
  rintro e x2 ⟨rfl, b1⟩
  replace BR := hide (BR.out.below b1)
  replace hb := hb.trans (b1.mono hb.size)
  clear b1 d0 d1 d2 d3 d4
  obtain ⟨d0, d1, d2, d3, d4, _⟩ := BR.out
  go_wp2_with fail
  refine (W1.out _).mono ?_
  rintro e x3 ⟨u1, rfl, o1, b1⟩
  obtain ⟨g, cap, rfl, hg, hc1, hc2, s1⟩ := sl_own o1 (by rw [HL.out]; omega)
  rw [HL.out] at s1 hc1 ⊢
  have S1 := hide s1
  have O1 := hide o1
  have hgw : w.heap.size ≤ g := Nat.le_trans hb.size hg
  have hgx : g < x3.heap.size := (own_cap o1).2.2.1
  replace BR := hide (BR.out.below b1)
  replace hb := hb.trans (b1.mono hb.size)
  clear b1 d0 d1 d2 d3 d4 s1 o1 hg
  obtain ⟨d0, d1, d2, d3, d4, _⟩ := BR.out
  go_wp2_with fail
  refine (R2.out _).mono ?_
  rintro e x4 ⟨rfl, b1⟩
  replace BR := hide (BR.out.below b1)
  replace hb := hb.trans (b1.mono hb.size)
  replace S1 := hide (S1.out.below b1)
  clear b1 d0 d1 d2 d3 d4
  obtain ⟨d0, d1, d2, d3, d4, _⟩ := BR.out
  go_wp2_with fail
  refine (W2.out _).mono ?_
  rintro e x5 ⟨u2, rfl, o2, b1⟩
  obtain ⟨g2, cap2, rfl, _, _, _, s2⟩ := sl_own o2 (by rw [HL.out]; omega)
  rw [HL.out] at s2 ⊢
  replace BR := hide (BR.out.below b1)
  replace hb := hb.trans (b1.mono hb.size)
  replace S1 := hide (S1.out.below b1)
  have S2 := hide s2
  clear b1 d0 d1 d2 d3 d4 o2 s2
  obtain ⟨d0, d1, d2, d3, d4, _⟩ := BR.out
  go_wp2_with fail
  refine (same_any _ _ N N _ _ (fun j => R[j]?.getD 0) (fun j => R[j]?.getD 0) true _ (by omega) (by omega) S1.out S2.out (by simp)).mono ?_
  rintro e x6 ⟨rfl, b1⟩
  replace b1 := below_drewN' b1
  replace BR := hide (BR.out.below b1)
  replace hb := hb.trans (b1.mono hb.size)
  replace S1 := hide (S1.out.below b1)
  clear b1 d0 d1 d2 d3 d4 S2
  obtain ⟨d0, d1, d2, d3, d4, _⟩ := BR.out
  go_wp2_with fail
  refine (HSZ.out _).mono ?_
  rintro e x7 ⟨rfl, b1⟩
  replace BR := hide (BR.out.below b1)
  replace hb := hb.trans (b1.mono hb.size)
  replace S1 := hide (S1.out.below b1)
  clear b1 d0 d1 d2 d3 d4
  have ho : (x7.alloc (.cells #[] 22)).ownsRow x7.heap.size 22 1 (.slice (some ⟨x7.heap.size, 0, none⟩) 0 0) ([] : List Nat).length (uintsN []) := World.ownsRow_made (e := 22) (size := 1) x7 #[] 0 (Nat.le_refl _) (by decide) (by simp)
  have bx : Below x7.heap.size x7 (x7.alloc (.cells #[] 22)) := (Below.refl _ _).alloc (Nat.le_refl _) _
  have hx7 : x7.heap.size ≤ (x7.alloc (.cells #[] 22)).heap.size := by simp
  have src1 : SrcU (x7.alloc (.cells #[] 22)) (.slice (some ⟨g, 0, none⟩) N cap) R := by
    refine .inr ⟨_, cap, by rw [HL.out], fun j hj => ?_⟩
    obtain ⟨_, _, a1, a2⟩ := S1.out.below bx j (by rw [← HL.out]; exact hj)
    cases a1
    rw [Go.WideShapes.add_plain]; exact a2
  have SRC1 := hide src1
  have HO := hide ho
  clear src1 ho
  go_wp2_with (at_builtin; refine append_src rfl _ _ rfl x7.heap.size _ _ rfl HO.out _ _ rfl SRC1.out ?c1 hx7 ?_)
  case c1 => rw [HL.out]; simp; omega
  intro v8 w8 R8 H8 o8 g8
  have bx8 := grow_src HO.out (Nat.le_refl _) hx7 bx g8
  obtain rfl : R8 = R := H8.out
  have O8 := hide o8
  have SRC2 := hide (HS.out.below (hb.trans (bx8.mono hb.size)))
  have hx8 := bx8.size
  clear bx hx7 SRC1 HO g8 o8 H8
  go_wp2_with (at_builtin; refine append_src rfl _ _ rfl x7.heap.size _ _ rfl O8.out _ _ rfl SRC2.out ?c2 hx8 ?_)
  case c2 => rw [HL.out]; omega
  intro v9 w9 R9 H9 o9 g9
  have bx9 := grow_src O8.out (Nat.le_refl _) hx8 bx8 g9
  have hR9 : R9.length = N + zs.length := by rw [H9.out, List.length_append, HL.out]
  obtain ⟨gg, cg, rfl, _, hq1, hq2, s9⟩ := sl_own o9 (by omega)
  have S9 := hide s9
  clear bx8 hx8 SRC2 O8 g9 o9 s9
  rw [hR9] at S9 hq1
  have OW9 := hide (OW.out zs gg 0 (N + zs.length) cg w9 (by rw [← H9.out, hR9]) (by omega) hq1 hq2 (by rw [← H9.out]; exact S9.out))
  rw [hR9]
  clear S9 OW
  go_wp2_with fail
  refine OW9.out.mono ?_
  rintro e x10 ⟨rfl, b1⟩
  replace bx9 := bx9.trans (b1.mono bx9.size)
  clear b1 OW9
  replace BR := hide (BR.out.below bx9)
  replace S1 := hide (S1.out.below bx9)
  replace hb := hb.trans (bx9.mono hb.size)
  clear bx9
  have ba : Below x10.heap.size x10 (x10.alloc (.cells #[.int .u64 (p : Int), .bool t, .bool i, .string k, .string v] 26)) := (Below.refl _ _).alloc (Nat.le_refl _) _
  replace BR := hide (BR.out.below ba)
  replace S1 := hide (S1.out.below ba)
  replace hb := hb.trans (ba.mono hb.size)
  clear ba
  obtain ⟨d0, d1, d2, d3, d4, _⟩ := BR.out
  have e1 := str_refl k
  have e2 := str_refl v
  go_wp2
  generalize (x10.alloc (.cells #[.int .u64 (p : Int), .bool t, .bool i, .string k, .string v] 26)) = z at *
  clear d0 d1 d2 d3 d4 BR e1 e2
  go_loopw [11] (fun i wr => ∃ q : Nat, q ≤ N ∧ i = .int .i64 q ∧ Below z.heap.size z wr) (fun i _ => N - (intOf i).toNat)
  case atStart => exact ⟨0, Nat.zero_le _, rfl, Below.refl _ _⟩
  case round =>
    obtain ⟨q, hq, rfl, bz⟩ := hrel
    by_cases hlt : q < N
    · have hqc : q ≤ cap := by omega
      go_wp2_with fail
      refine (OP.out g q cap wr hlt (S1.out.below bz)).mono ?_
      rintro e y ⟨rfl, b1⟩
      unfold noRec
      rw [recV_zero]
      replace bz := bz.trans (b1.mono bz.size)
      replace bz := bz.alloc bz.size (.cells #[.int .u64 0, .bool false, .bool false, .string ⟨#[]⟩, .string ⟨#[]⟩] 26)
      clear b1
      go_wp2
      go_roundw
      case rel => exact ⟨q + 1, by omega, by go_num, bz⟩
      case measure => simp [intOf]; omega
    · have e : q = N := by omega
      subst e
      go_wp2
      go_ret
      exact ⟨rfl, hb.trans (bz.mono hb.size)⟩
theorem walk (w : World) (u0 : Value) (o0 : IsRec u0) (u1 : Value) (o1 : IsU64s w u1) :
    Calls Try.prog 3 #[u0, u1] w fun e w' => e = .returned (.bool true) ∧ Below w.heap.size w w' := by
  obtain ⟨p, t, i, k, v, hp, hk, hv, rfl⟩ := o0
  obtain ⟨zs, hz, hl, hs⟩ := o1
  obtain ⟨ao, c, rfl⟩ := src_form hs
  by_cases hf : 1000 < k.size ∨ 1000 < v.size ∨ 100 < zs.length
  · exact walk_far p t i k v ao zs.length c w hk hv hl hf
  · by_cases h : rightE p t k.size v.size = 0
    · exact walk_yes p t i k v _ zs w (by omega) hs h
    · exact walk_no p t i k v ao zs.length c w (by omega) (by omega) (by omega) h

set_option maxRecDepth 100000 in
theorem lifted (os : Os) (started : os.Started) (H : Type) (enc : TypeId × Value → H) :
    ReturnsInHanded {} Try.checked os 3 .any (Rows.recordWordsSpec.pre6 enc Try.prog Try.f3 Rows.recordWordsRow.domain false) (Rows.recordWordsSpec.post enc Try.prog Try.f3 false true false false) := by
  refine returnsInHanded_of_change (C := Try.checked) own started (by kernel_rfl) Try.func3
    (ChangeSpec.witness6 (enc := enc) (C := Try.checked) false ⟨#[], #[.agg #[.int .u64 0, .bool false, .bool false, .string ⟨#[]⟩, .string ⟨#[]⟩], .slice none 0 0], []⟩ 8 (by kernel_rfl) (by kernel_rfl) (by kernel_rfl) (by kernel_rfl)) ?_
  intro W base args ds gs before hval0 hW hcnd _
  have hval : ∀ (j : Nat) t v, Try.f3.params[j]? = some t → args[j]? = some v → Value.okWide Try.prog W .any base t v := hval0
  have hW' := hW
  obtain ⟨p, q, hA0, hV, rfl, hfz, hnd⟩ := hW
  have hA : DataW.TrodAll enc Try.prog W 0 (fun _ => true) true Try.f3.params.toList args.toList ds p := hA0
  rw [Try.params3] at hA hval
  obtain ⟨v0, vs0, d0, ds0, p0, q0, hargs, rfl, rfl, h0, r0⟩ := trodAll_cons hA
  obtain ⟨v1, vs1, d1, ds1, p1, q1, rfl, rfl, rfl, h1, r1⟩ := trodAll_cons r0
  obtain ⟨rfl, rfl, rfl⟩ := trodAll_nil r1
  obtain rfl : args = #[v0, v1] := by cases args; simp_all
  obtain ⟨rfl, rfl⟩ := trodVars_none hV
  have k0 := h0
  have lt0 : ∀ x ∈ p0, x.block < W.heap.size := by obtain ⟨m, hm⟩ := k0; exact DataW.trod_lt m _ _ _ hm
  have o0 := open_record (hval 0 26 v0 rfl rfl) h0
  have k1 := h1
  have lt1 : ∀ x ∈ p1, x.block < W.heap.size := by obtain ⟨m, hm⟩ := k1; exact DataW.trod_lt m _ _ _ hm
  have o1 := open_u64s (hval 1 27 v1 rfl rfl) h1
  clear hA0 hval0
  refine (walk W v0 o0 v1 o1).mono fun e W' ⟨he, bel⟩ => ?_
  subst he
  exact ⟨_, rfl, _, _, _, [], _, [], hW', trodAll_mk1 (shut_bool Try.underlying4 _), (trodAll_cons_mk (Below.trod laidOut (by kernel_rfl) (of_decide_eq_true (by kernel_rfl)) k0 bel lt0) (trodAll_cons_mk (Below.trod laidOut (by kernel_rfl) (of_decide_eq_true (by kernel_rfl)) k1 bel lt1) trodAll_mk0)), rfl, bel.frame _, fun h => by cases h⟩

theorem over : Rows.recordWordsRow.holds Try.pinned (OpenSpec.ofChange Rows.recordWordsSpec) :=
  OpenClaim.holds_of_wide 3 Try.f3 rfl rfl rfl rfl rfl rfl rfl ⟨rfl, rfl, rfl, rfl, rfl⟩ rfl rfl rfl rfl rfl (by kernel_rfl) Try.func3 (by kernel_rfl)
    (of_decide_eq_true (by kernel_rfl)) (by unfold Func.isWrapper; first | (rw [if_pos (by decide +kernel)]; kernel_rfl) | (rw [if_neg (by decide +kernel)]; exact ⟨rfl, rfl⟩))
    (fun os started H enc _ => lifted os started H enc)

theorem proved : Rows.RecordWordsSaid := over
#print axioms proved

end Go.Proofs.Ytmjolhmlhdhkfaa.recordWords
