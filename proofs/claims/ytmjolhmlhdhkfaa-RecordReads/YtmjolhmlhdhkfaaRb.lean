/- The walks of record.Right, and of the reference's. -/
import Derived.Test.YtmjolhmlhdhkfaaRa
import Derived.Test.YtmjolhmlhdhkfaaHd
namespace Go.Proofs.Ytmjolhmlhdhkfaa
open Go.RowKit
/-- A record as a value. -/
def recV (p : Nat) (t i : Bool) (k v : ByteArray) : Value := .agg #[.int .u64 (p : Int), .bool t, .bool i, .string k, .string v]
theorem cell_arg5 {w x : World} {a b c d e : Value} {T : TypeId} (hb : Below (w.alloc (.cells #[a, b, c, d, e] T)).heap.size (w.alloc (.cells #[a, b, c, d, e] T)) x) :
    x.cell? ⟨w.heap.size, 0, none⟩ = some a ∧ x.cell? ⟨w.heap.size, 1, none⟩ = some b ∧ x.cell? ⟨w.heap.size, 2, none⟩ = some c ∧ x.cell? ⟨w.heap.size, 3, none⟩ = some d ∧ x.cell? ⟨w.heap.size, 4, none⟩ = some e := by
  refine ⟨?_, ?_, ?_, ?_, ?_⟩ <;> rw [hb.cell (by simp)] <;> simp
/-- What Right tells. -/
def rightE (p : Nat) (t : Bool) (k v : Nat) : Nat := if 281474976710656 ≤ p ∨ k = 0 ∨ t = true ∧ 0 < v then 1 else if 64 < k ∨ 128 < v then 5 else 0
set_option maxHeartbeats 1000000 in
theorem right_hd (p : Nat) (t i : Bool) (k v : ByteArray) (w : World) (h : 281474976710656 ≤ p) :
    Calls Try.prog 8 #[recV p t i k v] w fun e w' => e = .returned (.int .i64 1) ∧ Below w.heap.size w w' := by
  unfold recV
  go_enter Try.func8, Try.ntmps8
  go_wp2_with fail
  refine (pack_no p t i _ h).mono ?_
  rintro e x ⟨rfl, b1⟩
  have hb : Below w.heap.size w x := ((Below.refl _ w).alloc (Nat.le_refl _) _).trans (b1.mono (by simp))
  clear b1
  go_wp2
  go_ret
  exact ⟨rfl, hb⟩
theorem str_none {s : ByteArray} (h : s.size = 0) : s.toList.isEmpty = true := by
  have h1 : s.data.toList.length = 0 := by simpa using h
  rw [ByteArray.toList_eq, List.eq_nil_of_length_eq_zero h1]; rfl
theorem str_some {s : ByteArray} (h : s.size ≠ 0) : s.toList.isEmpty = false := by
  have h1 : s.data.toList.length ≠ 0 := by simpa using h
  rw [ByteArray.toList_eq]
  cases e : s.data.toList with
  | nil => rw [e] at h1; exact absurd rfl h1
  | cons _ _ => rfl
set_option maxHeartbeats 1000000 in
theorem right_key (p : Nat) (t i : Bool) (k v : ByteArray) (w : World) (h : p < 281474976710656) (hk : k.size = 0) :
    Calls Try.prog 8 #[recV p t i k v] w fun e w' => e = .returned (.int .i64 1) ∧ Below w.heap.size w w' := by
  have hk' := str_none hk
  clear hk
  unfold recV
  go_enter Try.func8, Try.ntmps8
  go_wp2_with fail
  refine (pack_yes p t i _ h).mono ?_
  rintro e x ⟨rfl, b1⟩
  obtain ⟨d0, d1, d2, d3, d4⟩ := cell_arg5 b1
  have hb : Below w.heap.size w x := ((Below.refl _ w).alloc (Nat.le_refl _) _).trans (b1.mono (by simp))
  clear b1
  go_wp2
  all_goals
    go_ret
    exact ⟨rfl, hb⟩
set_option maxHeartbeats 1000000 in
theorem right_tomb (p : Nat) (t i : Bool) (k v : ByteArray) (w : World) (h : p < 281474976710656) (hk : k.size ≠ 0) (ht : t = true) (hv : v.size ≠ 0) :
    Calls Try.prog 8 #[recV p t i k v] w fun e w' => e = .returned (.int .i64 1) ∧ Below w.heap.size w w' := by
  have hk' := str_some hk
  have hv' := str_some hv
  subst ht
  clear hk hv
  unfold recV
  go_enter Try.func8, Try.ntmps8
  go_wp2_with fail
  refine (pack_yes p true i _ h).mono ?_
  rintro e x ⟨rfl, b1⟩
  obtain ⟨d0, d1, d2, d3, d4⟩ := cell_arg5 b1
  have hb : Below w.heap.size w x := ((Below.refl _ w).alloc (Nat.le_refl _) _).trans (b1.mono (by simp))
  clear b1
  go_wp2
  go_ret
  exact ⟨rfl, hb⟩
set_option maxHeartbeats 1000000 in
theorem right_len (p : Nat) (t i : Bool) (k v : ByteArray) (w : World) (h : p < 281474976710656) (hk : k.size ≠ 0) (ht : t = true → v.size = 0) (hs : k.size ≤ 1000000) (hs' : v.size ≤ 1000000) :
    Calls Try.prog 8 #[recV p t i k v] w fun e w' => e = .returned (.int .i64 (if 64 < k.size ∨ 128 < v.size then 5 else 0)) ∧ Below w.heap.size w w' := by
  have hk' := str_some hk
  clear hk
  cases t
  · clear ht
    by_cases hl : 64 < k.size ∨ 128 < v.size
    · rw [if_pos hl]
      have hl' : Hid (64 < (k.size : Int) ∨ 128 < (v.size : Int)) := by unfold Hid; omega
      clear hl
      unfold recV
      go_enter Try.func8, Try.ntmps8
      go_wp2_with fail
      refine (pack_yes p false i _ h).mono ?_
      rintro e x ⟨rfl, b1⟩
      obtain ⟨d0, d1, d2, d3, d4⟩ := cell_arg5 b1
      have hb : Below w.heap.size w x := ((Below.refl _ w).alloc (Nat.le_refl _) _).trans (b1.mono (by simp))
      clear b1
      go_wp2_with fail
      refine (len_long _ _ _ (by omega) (by omega) hl'.out).mono ?_
      rintro e x2 ⟨rfl, b2⟩
      go_wp2
      go_ret
      exact ⟨rfl, hb.trans (b2.mono hb.size)⟩
    · rw [if_neg hl]
      have l1 : Hid (k.size ≤ 64) := by unfold Hid; omega
      have l2 : Hid (v.size ≤ 128) := by unfold Hid; omega
      clear hl
      unfold recV
      go_enter Try.func8, Try.ntmps8
      go_wp2_with fail
      refine (pack_yes p false i _ h).mono ?_
      rintro e x ⟨rfl, b1⟩
      obtain ⟨d0, d1, d2, d3, d4⟩ := cell_arg5 b1
      have hb : Below w.heap.size w x := ((Below.refl _ w).alloc (Nat.le_refl _) _).trans (b1.mono (by simp))
      clear b1
      go_wp2_with fail
      refine (len_yes _ _ _ l1.out l2.out).mono ?_
      rintro e x2 ⟨rfl, b2⟩
      go_wp2
      go_ret
      exact ⟨rfl, hb.trans (b2.mono hb.size)⟩
  · have hv := str_none (ht rfl)
    clear ht
    by_cases hl : 64 < k.size ∨ 128 < v.size
    · rw [if_pos hl]
      have hl' : Hid (64 < (k.size : Int) ∨ 128 < (v.size : Int)) := by unfold Hid; omega
      clear hl
      unfold recV
      go_enter Try.func8, Try.ntmps8
      go_wp2_with fail
      refine (pack_yes p true i _ h).mono ?_
      rintro e x ⟨rfl, b1⟩
      obtain ⟨d0, d1, d2, d3, d4⟩ := cell_arg5 b1
      have hb : Below w.heap.size w x := ((Below.refl _ w).alloc (Nat.le_refl _) _).trans (b1.mono (by simp))
      clear b1
      go_wp2_with fail
      refine (len_long _ _ _ (by omega) (by omega) hl'.out).mono ?_
      rintro e x2 ⟨rfl, b2⟩
      go_wp2
      go_ret
      exact ⟨rfl, hb.trans (b2.mono hb.size)⟩
    · rw [if_neg hl]
      have l1 : Hid (k.size ≤ 64) := by unfold Hid; omega
      have l2 : Hid (v.size ≤ 128) := by unfold Hid; omega
      clear hl
      unfold recV
      go_enter Try.func8, Try.ntmps8
      go_wp2_with fail
      refine (pack_yes p true i _ h).mono ?_
      rintro e x ⟨rfl, b1⟩
      obtain ⟨d0, d1, d2, d3, d4⟩ := cell_arg5 b1
      have hb : Below w.heap.size w x := ((Below.refl _ w).alloc (Nat.le_refl _) _).trans (b1.mono (by simp))
      clear b1
      go_wp2_with fail
      refine (len_yes _ _ _ l1.out l2.out).mono ?_
      rintro e x2 ⟨rfl, b2⟩
      go_wp2
      go_ret
      exact ⟨rfl, hb.trans (b2.mono hb.size)⟩
theorem rec_right (p : Nat) (t i : Bool) (k v : ByteArray) (w : World) (hs : k.size ≤ 1000000) (hs' : v.size ≤ 1000000) :
    Calls Try.prog 8 #[recV p t i k v] w fun e w' => e = .returned (.int .i64 (rightE p t k.size v.size : Int)) ∧ Below w.heap.size w w' := by
  unfold rightE
  by_cases h : 281474976710656 ≤ p
  · rw [if_pos (.inl h)]; exact right_hd p t i k v w h
  · by_cases hk : k.size = 0
    · rw [if_pos (.inr (.inl hk))]; exact right_key p t i k v w (by omega) hk
    · by_cases hv : t = true ∧ 0 < v.size
      · rw [if_pos (.inr (.inr hv))]; exact right_tomb p t i k v w (by omega) hk hv.1 (by omega)
      · rw [if_neg (by rintro (a | a | a); exact h a; exact hk a; exact hv a)]
        have := right_len p t i k v w (by omega) hk (fun e => Nat.eq_zero_of_not_pos fun a => hv ⟨e, a⟩) hs hs'
        refine this.mono ?_
        rintro e x ⟨rfl, b⟩
        exact ⟨by split <;> rfl, b⟩
set_option maxHeartbeats 1000000 in
theorem ref_right (p : Nat) (t i : Bool) (k v : ByteArray) (w : World) (hs : k.size ≤ 1000000) (hs' : v.size ≤ 1000000) :
    Calls Try.prog 10 #[recV p t i k v] w fun e w' => e = .returned (.int .i64 (rightE p t k.size v.size : Int)) ∧ Below w.heap.size w w' := by
  unfold recV
  have HR : Hid (rightE p t k.size v.size = if 281474976710656 ≤ p ∨ k.size = 0 ∨ t = true ∧ 0 < v.size then 1 else if 64 < k.size ∨ 128 < v.size then 5 else 0) := rfl
  generalize rightE p t k.size v.size = E at *
  have hb : Below w.heap.size w (w.alloc (.cells #[.int .u64 (p : Int), .bool t, .bool i, .string k, .string v] 26)) := (Below.refl _ w).alloc (Nat.le_refl _) _
  by_cases h : 281474976710656 ≤ p
  · have HE : Hid (E = 1) := by rw [HR.out, if_pos (.inl h)]; rfl
    have h' : 281474976710656 ≤ (p : Int) := by omega
    clear HR h
    go_enter Try.func10, Try.ntmps10
    go_wp2
    go_ret
    exact ⟨ret_int (by rw [HE.out]; rfl), hb⟩
  · have hd : decide (281474976710656 ≤ (p : Int)) = false := by rw [decide_eq_false_iff_not]; omega
    by_cases hk : k.size = 0
    · have HE : Hid (E = 1) := by rw [HR.out, if_pos (.inr (.inl hk))]; rfl
      have hk' : ((k.size : Int) == 0) = true := by rw [beq_iff_eq]; omega
      clear HR h
      go_enter Try.func10, Try.ntmps10
      go_wp2
      all_goals
        go_ret
        exact ⟨ret_int (by rw [HE.out]; rfl), hb⟩
    · have hk' : ((k.size : Int) == 0) = false := by rw [beq_eq_false_iff_ne]; omega
      by_cases hv : t = true ∧ 0 < v.size
      · have HE : Hid (E = 1) := by rw [HR.out, if_pos (.inr (.inr hv))]; rfl
        obtain ⟨rfl, hv⟩ := hv
        clear HR h hk
        go_enter Try.func10, Try.ntmps10
        go_wp2
        go_ret
        exact ⟨ret_int (by rw [HE.out]; rfl), hb⟩
      · have HE : Hid (E = if 64 < k.size ∨ 128 < v.size then 5 else 0) := by rw [HR.out, if_neg (by rintro (a | a | a); exact h a; exact hk a; exact hv a)]; rfl
        clear HR h hk
        have hv' : Hid (t = true → v.size = 0) := fun e => Nat.eq_zero_of_not_pos fun a => hv ⟨e, a⟩
        clear hv
        by_cases l1 : 64 < k.size
        · have HE' : Hid (E = 5) := by rw [HE.out, if_pos (.inl l1)]; rfl
          cases t
          · go_enter Try.func10, Try.ntmps10
            go_wp2
            go_ret
            exact ⟨ret_int (by rw [HE'.out]; rfl), hb⟩
          · have hv := hv'.out rfl
            go_enter Try.func10, Try.ntmps10
            go_wp2
            go_ret
            exact ⟨ret_int (by rw [HE'.out]; rfl), hb⟩
        · by_cases l2 : 128 < v.size
          · have HE' : Hid (E = 5) := by rw [HE.out, if_pos (.inr l2)]; rfl
            cases t
            · go_enter Try.func10, Try.ntmps10
              go_wp2
              go_ret
              exact ⟨ret_int (by rw [HE'.out]; rfl), hb⟩
            · have hv := hv'.out rfl
              omega
          · have HE' : Hid (E = 0) := by rw [HE.out, if_neg (by omega)]; rfl
            cases t
            · go_enter Try.func10, Try.ntmps10
              go_wp2
              go_ret
              exact ⟨ret_int (by rw [HE'.out]; rfl), hb⟩
            · have hv := hv'.out rfl
              go_enter Try.func10, Try.ntmps10
              go_wp2
              go_ret
              exact ⟨ret_int (by rw [HE'.out]; rfl), hb⟩
end Go.Proofs.Ytmjolhmlhdhkfaa
