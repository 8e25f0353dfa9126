/- Package tail: New, Take; a nil tail; the chapter's example (awake). -/
import Derived.Test.YtpkoohpobcfjcaaTe
namespace Go.Proofs.Ytpkoohpobcfjcaa
open Go.RowKit
/-- What Take tells, and where the tail is behind it. -/
def takeE (S : Nat) (n : Int) : Int := if n < 1 then 1 else if (S : Int) < n then 5 else 0
def takeK (S sp P O : Nat) (n : Int) : Nat := if n < 1 ∨ (S : Int) < n then 0 else roomK S sp P O n.toNat
def takeA (S P O : Nat) (n : Int) : Nat := if n < 1 ∨ (S : Int) < n then 0 else roomA S P O n.toNat
def takeO (S O : Nat) (n : Int) : Nat := if n < 1 ∨ (S : Int) < n ∨ S < O then O else O + n.toNat
set_option maxHeartbeats 1000000 in
theorem tNew_no (bs sp : Int) (h : ¬ ((5 ≤ bs ∧ bs ≤ 9) ∧ 1 ≤ sp ∧ sp ≤ 64)) (w : World) :
    Calls Try.prog 7 #[.int .i64 bs, .int .i64 sp] w fun e w' => e = .returned (.tuple #[.pointer none, .int .i64 1]) ∧ Below w.heap.size w w' := by
  have hm : mayB bs = decide (5 ≤ bs ∧ bs ≤ 9) := rfl
  by_cases hb : 5 ≤ bs ∧ bs ≤ 9
  · rw [decide_eq_true hb] at hm
    by_cases h1 : 1 ≤ sp
    · have h2 : 64 < sp := by omega
      clear h
      go_enter Try.func7, Try.ntmps7
      go_wp2_with fail
      refine (may_any _ _).mono ?_
      rintro e y ⟨rfl, rfl⟩
      go_wp2
      go_ret2
      exact ⟨rfl, Below.refl _ _⟩
    · clear h
      go_enter Try.func7, Try.ntmps7
      go_wp2_with fail
      refine (may_any _ _).mono ?_
      rintro e y ⟨rfl, rfl⟩
      go_wp2
      go_ret2
      exact ⟨rfl, Below.refl _ _⟩
  · rw [decide_eq_false hb] at hm
    clear h
    go_enter Try.func7, Try.ntmps7
    go_wp2_with fail
    refine (may_any _ _).mono ?_
    rintro e y ⟨rfl, rfl⟩
    go_wp2
    go_ret2
    exact ⟨rfl, Below.refl _ _⟩
set_option maxHeartbeats 1000000 in
theorem tNew_yes (bs : Int) (sp : Nat) (hb : 5 ≤ bs ∧ bs ≤ 9) (hs : 1 ≤ sp ∧ sp ≤ 64) (w : World) :
    Calls Try.prog 7 #[.int .i64 bs, .int .i64 (sp : Int)] w fun e w' => ∃ t r b, e = .returned (.tuple #[.pointer (some ⟨t, 0, none⟩), .int .i64 0]) ∧ TlAt w' t r b bs sp 0 1 0 ∧ w.heap.size ≤ t ∧ w.heap.size ≤ r ∧ w.heap.size ≤ b ∧ Below w.heap.size w w' := by
  have hm : mayB bs = true := decide_eq_true hb
  have hs1 : ¬ (sp : Int) < 1 := by omega
  have hs2 : ¬ (64 : Int) < (sp : Int) := by omega
  have hc := fun (x : World) => new_yes 1 (by decide) (by decide) x
  go_enter Try.func7, Try.ntmps7
  go_wp2_with fail
  refine (may_any _ _).mono ?_
  rintro e y ⟨rfl, rfl⟩
  go_wp2_with fail
  refine (hc _).mono ?_
  rintro e x ⟨r, b, rfl, hr, h1, h2, hB⟩
  have hlr : r < x.heap.size := World.block_lt_of_cell? x _ hr.c0
  have hlb : b < x.heap.size := World.block_lt_of_cell? x _ (hr.cs 0 (by decide))
  have h0 : TlAt (x.alloc (Obj.cells #[.int .i64 bs, .int .i64 (sp : Int), .pointer (some ⟨r, 0, none⟩)] 53)) x.heap.size r b bs sp 0 0 0 :=
    ⟨by simp, by simp, by simp, hr.under ((Below.refl _ _).alloc (Nat.le_refl _) _), by omega, by omega, hb, hs, by omega, by omega⟩
  have hB1 : Below y.heap.size y (x.alloc (Obj.cells #[.int .i64 bs, .int .i64 (sp : Int), .pointer (some ⟨r, 0, none⟩)] 53)) := hB.alloc hB.size _
  have hbg := fun (z : World) (hz : TlAt z x.heap.size r b bs sp 0 0 0) => tBegin_yes hz 0 (by omega)
  clear hc
  go_wp2_with fail
  refine (hbg _ h0).mono ?_
  rintro e z ⟨rfl, h3, k3⟩
  go_wp2
  go_ret2
  have hsz := hB.size
  exact ⟨_, r, b, rfl, h3, by omega, h1, h2, hB1.trans (k3.below hB1.size (fun k hk => by rcases hk with hk | hk <;> omega))⟩
set_option maxHeartbeats 1000000 in
theorem tTake_no {w : World} {t r b : Nat} {bs : Int} {sp P O won : Nat} (h : TlAt w t r b bs sp P O won) (n : Int) (hn : n < 1 ∨ (sizeN bs : Int) < n) :
    Calls Try.prog 9 #[.pointer (some ⟨t, 0, none⟩), .int .i64 n] w fun e w' => e = .returned (.tuple #[.int .u64 0, .int .i64 0, .int .i64 (takeE (sizeN bs) n)]) ∧ w' = w := by
  have hz := tsize h
  unfold takeE
  generalize sizeN bs = S at *
  by_cases h1 : n < 1
  · rw [if_pos h1]
    go_enter Try.func9, Try.ntmps9
    go_wp2
    go_ret3
    exact ⟨rfl, rfl⟩
  · have h2 : (S : Int) < n := by omega
    rw [if_neg h1, if_pos h2]
    go_enter Try.func9, Try.ntmps9
    go_wp2_with fail
    refine hz.mono ?_
    rintro e y ⟨rfl, rfl⟩
    go_wp2
    go_ret3
    exact ⟨rfl, rfl⟩
set_option maxHeartbeats 1000000 in
theorem tTake_over {w : World} {t r b : Nat} {bs : Int} {sp P O won : Nat} (h : TlAt w t r b bs sp P O won) (n : Nat) (hn : 1 ≤ n ∧ n ≤ sizeN bs) (ho : sizeN bs < O) :
    Calls Try.prog 9 #[.pointer (some ⟨t, 0, none⟩), .int .i64 (n : Int)] w fun e w' => e = .returned (.tuple #[.int .u64 (roomA (sizeN bs) P O n : Int), .int .i64 (roomK (sizeN bs) sp P O n : Int), .int .i64 0]) ∧ Below w.heap.size w w' := by
  have hz := tsize h
  have hN := sizeN_bounds bs
  have hp := h.hp
  have hs := h.hs
  have hO := h.ho
  have hov := fun (x : World) (hx : TlAt x t r b bs sp P O won) => tover hx P O
  rw [show decide (sizeN bs < O) = true by simp; omega] at hov
  have hrm := fun (x : World) (hx : TlAt x t r b bs sp P O won) => troom hx P O n (by omega) (by omega) (by omega)
  generalize roomA (sizeN bs) P O n = A at *
  generalize roomK (sizeN bs) sp P O n = K at *
  generalize sizeN bs = S at *
  have g1 : ¬ (n : Int) < 1 := by omega
  have g2 : ¬ (S : Int) < (n : Int) := by omega
  clear hN hp hs hO
  go_enter Try.func9, Try.ntmps9
  go_wp2_with fail
  refine hz.mono ?_
  rintro e y ⟨rfl, rfl⟩
  go_wp2_with fail
  refine (tat h).mono ?_
  rintro e y2 ⟨rfl, b1⟩
  have h1 := (h.below b1).alloc (Obj.cells #[.int .i64 (P : Int), .int .i64 (O : Int)] 56)
  have hB : Below y.heap.size y (y2.alloc (Obj.cells #[.int .i64 (P : Int), .int .i64 (O : Int)] 56)) := b1.alloc b1.size _
  clear h b1 hz
  unfold spV at *
  go_wp2_with fail
  refine (hov _ h1).mono ?_
  rintro e z ⟨rfl, b2⟩
  have c0 : z.cell? ⟨y2.heap.size, 0, none⟩ = some (.int .i64 (P : Int)) := by rw [b2.cell (by simp)]; simp
  have c1 : z.cell? ⟨y2.heap.size, 1, none⟩ = some (.int .i64 (O : Int)) := by rw [b2.cell (by simp)]; simp
  go_wp2_with fail
  refine (hrm _ (h1.below b2)).mono ?_
  rintro e z3 ⟨rfl, b3⟩
  go_wp2
  go_ret3
  exact ⟨rfl, (hB.trans (b2.mono hB.size)).trans (b3.mono (hB.trans (b2.mono hB.size)).size)⟩
set_option maxHeartbeats 1000000 in
theorem tTake_on {w : World} {t r b : Nat} {bs : Int} {sp P O won : Nat} (h : TlAt w t r b bs sp P O won) (n : Nat) (hn : 1 ≤ n ∧ n ≤ sizeN bs) (ho : O ≤ sizeN bs) :
    Calls Try.prog 9 #[.pointer (some ⟨t, 0, none⟩), .int .i64 (n : Int)] w fun e w' => e = .returned (.tuple #[.int .u64 (roomA (sizeN bs) P O n : Int), .int .i64 (roomK (sizeN bs) sp P O n : Int), .int .i64 0]) ∧ TlAt w' t r b bs sp P (O + n) won ∧ Keeps (InRow r b) w w' := by
  have hz := tsize h
  have hN := sizeN_bounds bs
  have hp := h.hp
  have hs := h.hs
  have hov := fun (x : World) (hx : TlAt x t r b bs sp P O won) => tover hx P O
  rw [show decide (sizeN bs < O) = false by simp; omega] at hov
  have hrm := fun (x : World) (hx : TlAt x t r b bs sp P (O + n) won) => troom hx P O n (by omega) (by omega) (by omega)
  have hsx : spN P O + n < 18446744073709551616 := by unfold spN; omega
  have had := fun (x : World) (hx : TlAt x t r b bs sp P O won) => kadd hx.row 0 (by decide) ((spN P O : Nat) : Int) rfl (n : Int) (by omega) (by omega) (by omega)
  have hso := fun (x : World) => tspotOf P O (by omega) (by omega) x
  have hO' : O + n ≤ 1024 := by omega
  have hu := u64_of_nat (show n ≤ 9223372036854775807 by omega)
  have heq : Hid ((spN P O : Int) + (n : Int) = (spN P (O + n) : Int)) := by unfold Hid spN; omega
  generalize roomA (sizeN bs) P O n = A at *
  generalize roomK (sizeN bs) sp P O n = K at *
  generalize sizeN bs = S at *
  have g1 : ¬ (n : Int) < 1 := by omega
  have g2 : ¬ (S : Int) < (n : Int) := by omega
  clear hN hs hsx
  go_enter Try.func9, Try.ntmps9
  go_wp2_with fail
  refine hz.mono ?_
  rintro e y ⟨rfl, rfl⟩
  go_wp2_with fail
  refine (tat h).mono ?_
  rintro e y2 ⟨rfl, b1⟩
  have h1 := (h.below b1).alloc (Obj.cells #[.int .i64 (P : Int), .int .i64 (O : Int)] 56)
  have hB : Below y.heap.size y (y2.alloc (Obj.cells #[.int .i64 (P : Int), .int .i64 (O : Int)] 56)) := b1.alloc b1.size _
  have hnew : ¬ InRow r b y2.heap.size := (h.below b1).new
  have hyl : y.heap.size ≤ y2.heap.size := b1.size
  have htl : t < y2.heap.size := (h.below b1).lt
  clear h b1 hz
  unfold spV at *
  go_wp2_with fail
  refine (hov _ h1).mono ?_
  rintro e z ⟨rfl, b2⟩
  have c0 : z.cell? ⟨y2.heap.size, 0, none⟩ = some (.int .i64 (P : Int)) := by rw [b2.cell (by simp)]; simp
  have c1 : z.cell? ⟨y2.heap.size, 1, none⟩ = some (.int .i64 (O : Int)) := by rw [b2.cell (by simp)]; simp
  have f0 : z.frozen? ⟨y2.heap.size, 0, none⟩ = false := by rw [b2.frozen (by simp)]; simp
  have f1 : z.frozen? ⟨y2.heap.size, 1, none⟩ = false := by rw [b2.frozen (by simp)]; simp
  have h2 := h1.below b2
  have c2 := h2.c2
  have hB2 := hB.trans (b2.mono hB.size)
  clear b2 hB h1
  go_wp2_with fail
  refine (had _ h2).mono ?_
  rintro e z3 ⟨rfl, hr3, k3⟩
  rw [heq.out] at hr3
  have h3 := h2.turned k3 hr3 hp hO'
  have hpl : y2.heap.size < z.heap.size := World.block_lt_of_cell? z _ c0
  replace c0 := (k3.cell (p := ⟨y2.heap.size, 0, none⟩) hpl hnew).trans c0
  replace c1 := (k3.cell (p := ⟨y2.heap.size, 1, none⟩) hpl hnew).trans c1
  replace f0 := (k3.frozen (p := ⟨y2.heap.size, 0, none⟩) hpl hnew).trans f0
  replace f1 := (k3.frozen (p := ⟨y2.heap.size, 1, none⟩) hpl hnew).trans f1
  have k4 : Keeps (InRow r b) y z3 := (Below.keeps hB2).trans k3 (fun _ _ h => h)
  replace hpl : y2.heap.size < z3.heap.size := World.block_lt_of_cell? z3 _ c0
  clear hr3 k3 h2 c2 hB2
  go_wp2_with fail
  refine (hso _).mono ?_
  rintro e z4 ⟨rfl, b4⟩
  replace c0 := (b4.cell (p := ⟨y2.heap.size, 0, none⟩) hpl).trans c0
  replace c1 := (b4.cell (p := ⟨y2.heap.size, 1, none⟩) hpl).trans c1
  replace f0 := (b4.frozen (p := ⟨y2.heap.size, 0, none⟩) hpl).trans f0
  replace f1 := (b4.frozen (p := ⟨y2.heap.size, 1, none⟩) hpl).trans f1
  have h4 := h3.below b4
  have k5 : Keeps (InRow r b) y z4 := k4.trans (Below.keeps (S := InRow r b) b4) (fun _ _ h => h)
  clear b4 h3 k4 hpl
  have kp : Keeps (fun k => k = y2.heap.size) z4 ((z4.setCell ⟨y2.heap.size, 0, none⟩ (.int .i64 (P : Int))).setCell ⟨y2.heap.size, 1, none⟩ (.int .i64 (O : Int))) := ((Keeps.refl (fun k => k = y2.heap.size) z4).setCell ⟨y2.heap.size, 0, none⟩ (fun _ => rfl) _).setCell ⟨y2.heap.size, 1, none⟩ (fun _ => rfl) _
  have h5 := h4.keep kp (show ¬ t = y2.heap.size by omega) (fun e => hnew (.inl e.symm)) (fun e => hnew (.inr e.symm))
  have k6 : Keeps (InRow r b) y ((z4.setCell ⟨y2.heap.size, 0, none⟩ (.int .i64 (P : Int))).setCell ⟨y2.heap.size, 1, none⟩ (.int .i64 (O : Int))) := (k5.setCell ⟨y2.heap.size, 0, none⟩ (fun hh => absurd hh (by simp only; omega)) _).setCell ⟨y2.heap.size, 1, none⟩ (fun hh => absurd hh (by simp only; omega)) _
  obtain ⟨d0, d1⟩ := set_two c0 c1 (.int .i64 (P : Int)) (.int .i64 (O : Int))
  clear k5 kp h4
  go_wp2_with fail
  refine (hrm _ h5).mono ?_
  rintro e z6 ⟨rfl, b6⟩
  go_wp2
  go_ret3
  exact ⟨rfl, h5.below b6, k6.trans (Below.keeps (S := InRow r b) b6) (fun _ _ h => h)⟩
theorem tTake {w : World} {t r b : Nat} {bs : Int} {sp P O won : Nat} (h : TlAt w t r b bs sp P O won) (n : Int) :
    Calls Try.prog 9 #[.pointer (some ⟨t, 0, none⟩), .int .i64 n] w fun e w' => e = .returned (.tuple #[.int .u64 (takeA (sizeN bs) P O n : Int), .int .i64 (takeK (sizeN bs) sp P O n : Int), .int .i64 (takeE (sizeN bs) n)]) ∧ TlAt w' t r b bs sp P (takeO (sizeN bs) O n) won ∧ Keeps (InRow r b) w w' := by
  by_cases hn : n < 1 ∨ (sizeN bs : Int) < n
  · unfold takeA takeK takeO
    rw [if_pos hn, if_pos hn, if_pos (by omega)]
    exact (tTake_no h n hn).mono fun e w' ⟨h1, h2⟩ => ⟨h1, by rw [h2]; exact h, by rw [h2]; exact Keeps.refl _ _⟩
  · obtain ⟨N, rfl⟩ := Int.eq_ofNat_of_zero_le (show 0 ≤ n by omega)
    have e3 : takeE (sizeN bs) (N : Int) = 0 := by unfold takeE; rw [if_neg (by omega), if_neg (by omega)]
    unfold takeA takeK takeO
    rw [if_neg hn, if_neg hn, e3]
    simp only [Int.toNat_natCast]
    by_cases ho : sizeN bs < O
    · rw [if_pos (by omega)]
      exact (tTake_over h N (by omega) ho).mono fun e w' ⟨h1, h2⟩ => ⟨h1, h.below h2, Below.keeps h2⟩
    · rw [if_neg (by omega)]
      exact tTake_on h N (by omega) (by omega)
section
theorem tn_take (n : Int) (w : World) : Calls Try.prog 9 #[.pointer none, .int .i64 n] w fun e w' => e = .returned (.tuple #[.int .u64 0, .int .i64 0, .int .i64 2]) ∧ w' = w := by
  go_enter Try.func9, Try.ntmps9
  go_wp2
  go_ret3
  exact ⟨rfl, rfl⟩
theorem tn_turn (w : World) : Calls Try.prog 11 #[.pointer none] w fun e w' => e = .returned (.int .i64 2) ∧ w' = w := by
  go_enter Try.func11, Try.ntmps11
  go_wp2
  go_ret
  exact ⟨rfl, rfl⟩
theorem tn_close (w : World) : Calls Try.prog 13 #[.pointer none] w fun e w' => e = .returned (.int .i64 2) ∧ w' = w := by
  go_enter Try.func13, Try.ntmps13
  go_wp2
  go_ret
  exact ⟨rfl, rfl⟩
theorem tn_begin (p : Int) (w : World) : Calls Try.prog 15 #[.pointer none, .int .i64 p] w fun e w' => e = .returned (.int .i64 2) ∧ w' = w := by
  go_enter Try.func15, Try.ntmps15
  go_wp2
  go_ret
  exact ⟨rfl, rfl⟩
theorem tn_page (w : World) : Calls Try.prog 17 #[.pointer none] w fun e w' => e = .returned (.int .i64 0) ∧ w' = w := by
  go_enter Try.func17, Try.ntmps17
  go_wp2
  go_ret
  exact ⟨rfl, rfl⟩
theorem tn_offset (w : World) : Calls Try.prog 18 #[.pointer none] w fun e w' => e = .returned (.int .i64 0) ∧ w' = w := by
  go_enter Try.func18, Try.ntmps18
  go_wp2
  go_ret
  exact ⟨rfl, rfl⟩
theorem tn_over (w : World) : Calls Try.prog 19 #[.pointer none] w fun e w' => e = .returned (.bool false) ∧ w' = w := by
  go_enter Try.func19, Try.ntmps19
  go_wp2
  go_ret
  exact ⟨rfl, rfl⟩
theorem tn_addr (w : World) : Calls Try.prog 20 #[.pointer none] w fun e w' => e = .returned (.int .u64 0) ∧ w' = w := by
  go_enter Try.func20, Try.ntmps20
  go_wp2
  go_ret
  exact ⟨rfl, rfl⟩
theorem tn_last (w : World) : Calls Try.prog 21 #[.pointer none] w fun e w' => e = .returned (.bool false) ∧ w' = w := by
  go_enter Try.func21, Try.ntmps21
  go_wp2
  go_ret
  exact ⟨rfl, rfl⟩
end
set_option maxHeartbeats 1000000 in
theorem awake14 (w : World) : Calls Try.prog 6 #[] w fun e w' => e = .returned (.bool true) ∧ Below w.heap.size w w' := by
  go_enter Try.func6, Try.ntmps6
  go_wp2_with fail
  refine (tNew_yes 5 2 (by decide) (by decide) _).mono ?_
  rintro e x1 ⟨t, r, b, rfl, h, ht, hr, hb, b1⟩
  have hin : ∀ k, InRow r b k → w.heap.size ≤ k := fun k hk => by rcases hk with hk | hk <;> omega
  have s2 := tTake h 30
  rw [show takeA (sizeN 5) 0 1 30 = 1 by decide, show takeK (sizeN 5) 2 0 1 30 = 1 by decide, show takeE (sizeN 5) 30 = 0 by decide, show takeO (sizeN 5) 1 30 = 31 by decide] at s2
  go_wp2_with fail
  refine s2.mono ?_
  rintro e x2 ⟨rfl, h2, k2⟩
  have b2 := b1.trans (k2.below b1.size hin)
  clear s2 h b1 k2
  have s3 := tTake h2 2
  rw [show takeA (sizeN 5) 0 31 2 = 0 by decide, show takeK (sizeN 5) 2 0 31 2 = 2 by decide, show takeE (sizeN 5) 2 = 0 by decide, show takeO (sizeN 5) 31 2 = 33 by decide] at s3
  go_wp2_with fail
  refine s3.mono ?_
  rintro e x3 ⟨rfl, h3, k3⟩
  have b3 := b2.trans (k3.below b2.size hin)
  clear s3 h2 b2 k3
  have s4 := tTake h3 1
  rw [show takeA (sizeN 5) 0 33 1 = 0 by decide, show takeK (sizeN 5) 2 0 33 1 = 3 by decide, show takeE (sizeN 5) 1 = 0 by decide, show takeO (sizeN 5) 33 1 = 33 by decide] at s4
  go_wp2_with fail
  refine s4.mono ?_
  rintro e x4 ⟨rfl, h4, k4⟩
  have b4 := b3.trans (k4.below b3.size hin)
  clear s4 h3 b3 k4
  have s5 := tTurn h4 (by decide)
  rw [show turnE (sizeN 5) 2 0 33 = 0 by decide, show turnP (sizeN 5) 2 0 33 = 1 by decide, show turnO (sizeN 5) 2 0 33 = 0 by decide] at s5
  go_wp2_with fail
  refine s5.mono ?_
  rintro e x5 ⟨rfl, ⟨wn, -, h5⟩, k5⟩
  have b5 := b4.trans (k5.below b4.size hin)
  clear s5 h4 b4 k5
  have s6 := tTake h5 2
  rw [show takeA (sizeN 5) 1 0 2 = 32 by decide, show takeK (sizeN 5) 2 1 0 2 = 1 by decide, show takeE (sizeN 5) 2 = 0 by decide, show takeO (sizeN 5) 0 2 = 2 by decide] at s6
  go_wp2_with fail
  refine s6.mono ?_
  rintro e x6 ⟨rfl, h6, k6⟩
  have b6 := b5.trans (k6.below b5.size hin)
  clear s6 h5 b5 k6
  go_wp2
  go_ret
  exact ⟨rfl, b6⟩
end Go.Proofs.Ytpkoohpobcfjcaa
