/- Whatever the input, haycroftlaw04.SealTells returns true and changes no argument. Conditions: none. -/
import Derived.Test.YtnkipbncelgbnaaWv
import Derived.Test.YtnkipbncelgbnaaRows
import Derived.WalkKit
import Derived.ProofKit
import Derived.OpenShut
import Derived.ShutString
import Derived.ChangeOld
import Derived.Below
namespace Go.Proofs.Ytnkipbncelgbnaa.sealTells
open Go.ChangeShapes Go.WideShapes Go.ChangeAt Go.RowKit
open Go.ChangeMaps (open_string shut_string)
set_option linter.unusedVariables false      -- a walk need not use every 'w<i>' (that an integer argument fits its kind)

theorem own : ownKnob Try.prog.godebug = none := by kernel_rfl


set_option maxHeartbeats 1000000 in
theorem walk_long (s : ByteArray) (a : Int) (p : Nat) (hs : s.size ≤ 9223372036854775807) (hl : 2000 < s.size) (w : World) :
    Calls Try.prog 5 #[.string s, .int .i64 a, .int .u64 (p : Int)] w fun e w' => e = .returned (.bool true) ∧ Below w.heap.size w w' := by
  go_enter Try.func5, Try.ntmps5
  go_wp2_with fail
  refine (awake4_any _).mono ?_
  rintro e x1 ⟨rfl, rfl⟩
  go_wp2
  go_ret
  exact ⟨rfl, Below.refl _ _⟩
theorem from_at (n : Int) (m : Nat) (hm : m ≤ 2008) (h8 : 8 ≤ m) : ∃ p : Nat, p < 8 * m ∧ wrap64 ((IntKind.u64.wrap n).tmod (8 * (m : Int))) = (p : Int) := by
  have h0 : 0 ≤ IntKind.u64.wrap n := by rw [IntKind.wrap_u64]; omega
  rw [Int.tmod_eq_emod_of_nonneg h0]
  have h1 := Int.emod_nonneg (IntKind.u64.wrap n) (show (8 * (m : Int)) ≠ 0 by omega)
  have h2 := Int.emod_lt_of_pos (IntKind.u64.wrap n) (show 0 < (8 * (m : Int)) by omega)
  refine ⟨((IntKind.u64.wrap n) % (8 * (m : Int))).toNat, by omega, ?_⟩
  unfold wrap64
  omega
theorem xor_byte (b : UInt8) (r : Nat) (hr : r < 8) : bits .xor .u8 (b.toNat : Int) ((2 : Int) ^ r % 256) = ((UInt8.ofNat (b.toNat ^^^ 2 ^ r)).toNat : Int) := by
  have hb : b.toNat < 2 ^ 8 := b.toNat_lt
  have hp : 2 ^ r < 2 ^ 8 := Nat.pow_lt_pow_right (by decide) hr
  have hx : b.toNat ^^^ 2 ^ r < 2 ^ 8 := Nat.xor_lt_two_pow hb hp
  have e1 : ((2 : Int) ^ r % 256) = ((2 ^ r : Nat) : Int) := by
    have h3 : ((2 : Int) ^ r) = ((2 ^ r : Nat) : Int) := by simp
    have hp' : 2 ^ r < 256 := hp
    rw [h3]
    generalize 2 ^ r = q at hp' ⊢
    omega
  have ho : ∀ n : Nat, n < 2 ^ 8 → (BitVec.ofInt 8 (n : Int)).toNat = n := fun n hn => by
    simp; omega
  rw [e1, ofNat_toNat hx]
  show IntKind.u8.wrap ((BitVec.ofInt 8 (b.toNat : Int) ^^^ BitVec.ofInt 8 ((2 ^ r : Nat) : Int)).toNat : Int) = _
  rw [BitVec.toNat_xor, ho _ hb, ho _ hp, IntKind.wrap_u8]
  omega
def turnedB (p k : Nat) : Bool := decide (p % 2 ^ k ≠ 0)
set_option maxHeartbeats 1000000 in
theorem walk_short (s : ByteArray) (a : Int) (p : Nat) (hp : p < 18446744073709551616) (hl : s.size ≤ 2000) (w : World) :
    Calls Try.prog 5 #[.string s, .int .i64 a, .int .u64 (p : Int)] w fun e w' => e = .returned (.bool true) ∧ Below w.heap.size w w' := by
  have hlen : s.data.toList.length = s.size := by simp
  have h8 : 8 ≤ (sealL s.data.toList).length := by rw [sealL_length]; omega
  have hlm : (sealL s.data.toList).length ≤ 2008 := by rw [sealL_length]; omega
  have HO := hide (seal_opens s.data.toList)
  have HS : Hid (∀ w, Calls Try.prog 10 #[.string s] w fun e w' => e = .returned (.string (strL (sealL s.data.toList))) ∧ Below w.heap.size w w') := fun w => seal_any s w (by omega)
  generalize sealL s.data.toList = l at *
  have hts := strL_size l
  go_enter Try.func5, Try.ntmps5
  go_wp2_with fail
  refine (awake4_any _).mono ?_
  rintro e x1 ⟨rfl, rfl⟩
  go_wp2_with fail
  refine (HS.out _).mono ?_
  rintro e x2 ⟨rfl, b2⟩
  have kb := run_bytes_of_string (P := Try.prog) x2 9 33 5 (strL l) Try.underlying9 Try.underlying33 Try.underlying5
  have B3 := hide (Bl.made x2 5 l (grownCap x2 (strL l).size 0 5))
  have b3 : Below x2.heap.size x2 (x2.drew.alloc (.cells (bytesRow (strL l) (grownCap x2 (strL l).size 0 5)) 5 ((bytesRow (strL l) (grownCap x2 (strL l).size 0 5)).size, (bytesRow (strL l) (grownCap x2 (strL l).size 0 5)).size + 1))) := (Below.refl _ x2).drew.alloc (Nat.le_refl _) _
  rw [hts] at kb B3 b3
  generalize grownCap x2 l.length 0 5 = cap at *
  generalize (x2.drew.alloc (.cells (bytesRow (strL l) cap) 5 ((bytesRow (strL l) cap).size, (bytesRow (strL l) cap).size + 1))) = x3 at *
  generalize strL l = t at *
  obtain ⟨f, hf, hff⟩ := from_at a l.length (by omega) (by omega)
  have HF := hide hff
  replace b3 := b2.trans (b3.mono b2.size)
  clear hff hlen
  have H8 : Hid (8 ≤ l.length ∧ l.length ≤ 2008) := ⟨h8, hlm⟩
  generalize hn : l.length = n at *
  have HL : Hid (l.length = n) := hn
  clear hn
  go_wp2
  rw [HF.out]
  have hgs : x1.heap.size ≤ x2.heap.size := b2.size
  generalize x2.heap.size = g at *
  clear kb HS HF b2
  go_loopw [2, 9, 10] (fun m tr i wr => ∃ (k : Nat) (lk : List UInt8), k ≤ 64 ∧ f + k ≤ 8 * n ∧ i = .int .i64 k ∧ m = .int .u64 ((p / 2 ^ k : Nat) : Int) ∧ tr = .bool (turnedB p k) ∧ Hid (lk.length = n) ∧ Hid (leN lk = leN l ^^^ p % 2 ^ k * 2 ^ f) ∧ Hid (Bl wr g lk) ∧ Below x1.heap.size x1 wr) (fun _ _ i _ => 64 - (intOf i).toNat)
  case atStart => exact ⟨0, l, by omega, by omega, rfl, by simp, by simp [turnedB, Nat.mod_one], HL, by simp [Hid, Nat.mod_one], B3, b3⟩
  case round =>
    obtain ⟨k, lk, hk, hfk, rfl, rfl, rfl, HLK, HE, HB, b4⟩ := hrel
    clear B3 b3
    by_cases hgo : k < 64 ∧ f + k < 8 * n
    · obtain ⟨hk64, hend⟩ := hgo
      · obtain ⟨m, HM⟩ : ∃ m, Hid (m = p / 2 ^ k) := ⟨_, rfl⟩
        have hm : m < 18446744073709551616 := by rw [HM.out]; exact Nat.lt_of_le_of_lt (Nat.div_le_self _ _) hp
        have HM2 : Hid (m / 2 = p / 2 ^ (k + 1)) := by rw [HM.out]; unfold Hid; rw [Nat.div_div_eq_div_mul, Nat.pow_succ]
        rw [← HM.out]
        rcases Nat.mod_two_eq_zero_or_one m with e | e
        · have HZ : Hid (p % 2 ^ (k + 1) = p % 2 ^ k) := pat_zero p k (by rw [← HM.out]; exact e)
          have HTB : Hid (turnedB p (k + 1) = turnedB p k) := by unfold Hid turnedB; rw [HZ.out]
          generalize turnedB p k = tb at *
          go_wp2
          go_roundw
          case rel => exact ⟨k + 1, lk, by omega, by omega, by go_num, by rw [← HM2.out]; go_num, by rw [HTB.out], HLK, by rw [HZ.out]; exact HE, HB, b4⟩
          case measure => simp [intOf]; omega
        · have h1 := pat_one p k f (by rw [← HM.out]; exact e)
          have hj : (f + k) / 8 < lk.length := by rw [HLK.out]; omega
          obtain ⟨hc, hz⟩ := HB.out ((f + k) / 8) _ (List.getElem?_eq_getElem hj)
          generalize turnedB p k = tb at *
          have HX := hide (xor_byte lk[(f + k) / 8] ((f + k) % 8) (by omega))
          have HTB : Hid (turnedB p (k + 1) = true) := by unfold Hid turnedB; rw [decide_eq_true_iff]; exact pat_some p k (by rw [← HM.out]; exact e)
          have HS2 := hide (HB.out.set ((f + k) / 8) (UInt8.ofNat (lk[(f + k) / 8].toNat ^^^ 2 ^ ((f + k) % 8))))
          have HE2 : Hid (leN (lk.set ((f + k) / 8) (UInt8.ofNat (lk[(f + k) / 8].toNat ^^^ 2 ^ ((f + k) % 8)))) = leN l ^^^ p % 2 ^ (k + 1) * 2 ^ f) := by
            unfold Hid
            rw [leN_turn lk ((f + k) % 8) (by omega) _ _ (List.getElem?_eq_getElem hj), HE.out, show 8 * ((f + k) / 8) + (f + k) % 8 = f + k by omega, Nat.xor_assoc, h1]
          have HL2 : Hid ((lk.set ((f + k) / 8) (UInt8.ofNat (lk[(f + k) / 8].toNat ^^^ 2 ^ ((f + k) % 8)))).length = n) := by unfold Hid; rw [List.length_set]; exact HLK.out
          have b5 := b4.setCell (p := ⟨g, (f + k) / 8, none⟩) hgs (.int .u8 ((UInt8.ofNat (lk[(f + k) / 8].toNat ^^^ 2 ^ ((f + k) % 8))).toNat : Int))
          have HB5 := hide b5
          clear b5 h1
          go_wp2
          rw [HX.out]
          go_roundw
          case rel => exact ⟨k + 1, _, by omega, by omega, by go_num, by rw [← HM2.out]; go_num, by rw [HTB.out], HL2, HE2, HS2, HB5.out⟩
          case measure => simp [intOf]; omega
    · have kb2 := HB.out.back n cap HLK.out.symm
      have h8' := H8.out
      have hbu := burst l lk (p % 2 ^ k) f (by rw [HL.out]; exact h8'.1) (by rw [HLK.out, HL.out]) (pat_lt p k hp) (by rw [HL.out]; omega) HE.out HO.out
      cases hT : turnedB p k
      · have hz : p % 2 ^ k = 0 := by simpa [turnedB] using hT
        have HOP : Hid (∀ w, Calls Try.prog 11 #[.string (strL lk)] w fun e w' => e = .returned (.tuple #[.string (strL (lk.take (lk.length - 8))), .int .i64 0]) ∧ Below w.heap.size w w') := fun w => open_yes lk w (by rw [HLK.out]; exact h8'.1) (by rw [HLK.out]; omega) (hbu.2 hz)
        generalize strL (lk.take (lk.length - 8)) = v at *
        generalize strL lk = t' at *
        clear hbu hT hz h8'
        by_cases hk64 : k < 64
        · have hend : ¬ f + k < 8 * n := fun h => hgo ⟨hk64, h⟩
          clear hgo
          go_wp2_with fail
          refine (HOP.out _).mono ?_
          rintro e x5 ⟨rfl, b5⟩
          replace b5 := b4.trans (b5.mono b4.size)
          go_wp2
          go_ret
          exact ⟨rfl, b5⟩
        · clear hgo
          go_wp2_with fail
          refine (HOP.out _).mono ?_
          rintro e x5 ⟨rfl, b5⟩
          replace b5 := b4.trans (b5.mono b4.size)
          go_wp2
          go_ret
          exact ⟨rfl, b5⟩
      · have hz : ¬ p % 2 ^ k = 0 := by simpa [turnedB] using hT
        have HOP : Hid (∀ w, Calls Try.prog 11 #[.string (strL lk)] w fun e w' => e = .returned (.tuple #[.string ⟨#[]⟩, .int .i64 4]) ∧ Below w.heap.size w w') := fun w => open_no lk w (by rw [HLK.out]; exact h8'.1) (by rw [HLK.out]; omega) (fun h => hz (hbu.1 h))
        generalize strL lk = t' at *
        clear hbu hT hz h8'
        by_cases hk64 : k < 64
        · have hend : ¬ f + k < 8 * n := fun h => hgo ⟨hk64, h⟩
          clear hgo
          go_wp2_with fail
          refine (HOP.out _).mono ?_
          rintro e x5 ⟨rfl, b5⟩
          replace b5 := b4.trans (b5.mono b4.size)
          go_wp2
          go_ret
          exact ⟨rfl, b5⟩
        · clear hgo
          go_wp2_with fail
          refine (HOP.out _).mono ?_
          rintro e x5 ⟨rfl, b5⟩
          replace b5 := b4.trans (b5.mono b4.size)
          go_wp2
          go_ret
          exact ⟨rfl, b5⟩
theorem walk (a0 : ByteArray) (a1 : Int) (a2 : Int) (w0 : a0.size ≤ maxLen) (w1 : (Lit.int .i64 a1).wf = true) (w2 : (Lit.int .u64 a2).wf = true) (w : World) :
    Calls Try.prog 5 #[.string a0, .int .i64 a1, .int .u64 a2] w fun e w' => e = .returned (.bool true) ∧ Below w.heap.size w w' := by
  obtain ⟨p, rfl, hp⟩ := nat_of_wf w2
  unfold maxLen at w0
  by_cases h : a0.size ≤ 2000
  · exact walk_short a0 a1 p hp h w
  · exact walk_long a0 a1 p (by omega) (by omega) w
/-! ### THE ROW's STEP: WRITTEN OUT: LEAVE IT -/
set_option maxRecDepth 100000 in
theorem lifted (os : Os) (started : os.Started) (H : Type) (enc : TypeId × Value → H) :
    ReturnsInHanded {} Try.checked os 5 .any (Rows.sealTellsSpec.pre6 enc Try.prog Try.f5 Rows.sealTellsRow.domain false) (Rows.sealTellsSpec.post enc Try.prog Try.f5 false true false false) := by
  refine returnsInHanded_of_change (C := Try.checked) own started (by kernel_rfl) Try.func5
    (ChangeSpec.witness6 (enc := enc) (C := Try.checked) false ⟨#[], #[.string ByteArray.empty, .int .i64 0, .int .u64 0], []⟩ 8 (by kernel_rfl) (by kernel_rfl) (by kernel_rfl) (by kernel_rfl)) ?_
  intro W base args ds gs before hval0 hW hcnd _
  have hval : ∀ (j : Nat) t v, Try.f5.params[j]? = some t → args[j]? = some v → Value.okWide Try.prog W .any base t v := hval0
  have hW' := hW
  obtain ⟨p, q, hA0, hV, rfl, hfz, hnd⟩ := hW
  have hA : DataW.TrodAll enc Try.prog W 0 (fun _ => true) true Try.f5.params.toList args.toList ds p := hA0
  rw [Try.params5] at hA hval
  obtain ⟨v0, vs0, d0, ds0, p0, q0, hargs, rfl, rfl, h0, r0⟩ := trodAll_cons hA
  obtain ⟨v1, vs1, d1, ds1, p1, q1, rfl, rfl, rfl, h1, r1⟩ := trodAll_cons r0
  obtain ⟨v2, vs2, d2, ds2, p2, q2, rfl, rfl, rfl, h2, r2⟩ := trodAll_cons r1
  obtain ⟨rfl, rfl, rfl⟩ := trodAll_nil r2
  obtain rfl : args = #[v0, v1, v2] := by cases args; simp_all
  obtain ⟨rfl, rfl⟩ := trodVars_none hV
  obtain ⟨a0, rfl, rfl, rfl, w0⟩ := open_string Try.underlying9 (hval 0 9 v0 rfl rfl) h0
  obtain ⟨a1, rfl, rfl, rfl, w1⟩ := open_int Try.underlying3 (hval 1 3 v1 rfl rfl) h1
  obtain ⟨a2, rfl, rfl, rfl, w2⟩ := open_int Try.underlying24 (hval 2 24 v2 rfl rfl) h2
  clear hA0 hval0
  simp only [List.append_nil] at hW'
  refine (walk a0 a1 a2 w0 w1 w2 W).mono fun e W' ⟨he, bel⟩ => ?_
  subst he
  exact ⟨_, rfl, _, _, _, [], _, [], hW', (trodAll_cons_mk (shut_bool Try.underlying4 _) trodAll_mk0), (trodAll_cons_mk (shut_string Try.underlying9 w0) (trodAll_cons_mk (shut_int Try.underlying3 w1) (trodAll_cons_mk (shut_int Try.underlying24 w2) trodAll_mk0))), rfl, bel.frame _, fun h => by cases h⟩

theorem over : Rows.sealTellsRow.holds Try.pinned (OpenSpec.ofChange Rows.sealTellsSpec) :=
  OpenClaim.holds_of_wide 5 Try.f5 rfl rfl rfl rfl rfl rfl rfl ⟨rfl, rfl, rfl, rfl, rfl⟩ rfl rfl rfl rfl rfl (by kernel_rfl) Try.func5 (by kernel_rfl)
    (of_decide_eq_true (by kernel_rfl)) (by unfold Func.isWrapper; first | (rw [if_pos (by decide +kernel)]; kernel_rfl) | (rw [if_neg (by decide +kernel)]; exact ⟨rfl, rfl⟩))
    (fun os started H enc _ => lifted os started H enc)

/-- ████ THE STATEMENT ████ -/
theorem proved : Rows.SealTellsSaid :=
  over
#print axioms proved

end Go.Proofs.Ytnkipbncelgbnaa.sealTells
