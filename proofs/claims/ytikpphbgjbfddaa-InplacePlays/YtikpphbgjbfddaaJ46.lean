/- Parts of the proof: Bh. -/
import Derived.Test.YtikpphbgjbfddaaJ13
import Derived.Test.YtikpphbgjbfddaaJ32
import Derived.Test.YtikpphbgjbfddaaJ45
namespace Go.Proofs.Ytikpphbgjbfddaa
set_option maxRecDepth 20000
open Go.RowKit
theorem pw_made (w : World) (t L V N : Nat) (l a : Value) (T : TypeId) : PwAt (w.alloc (.cells #[.pointer (some ⟨t, 0, none⟩), .int .u64 (L : Int), .int .u64 (V : Int), .int .i64 (N : Int), .int .i64 0, .int .i64 0, .int .u64 0, l, a] T)) w.heap.size (pwV t L V N 0 0 0 l a) := by
  refine ⟨fun i hi => ?_, fun i _ => by simp⟩
  match i, hi with
  | 0, _ => simp [pwV]
  | 1, _ => simp [pwV]
  | 2, _ => simp [pwV]
  | 3, _ => simp [pwV]
  | 4, _ => simp [pwV]
  | 5, _ => simp [pwV]
  | 6, _ => simp [pwV]
  | 7, _ => simp [pwV]
  | 8, _ => simp [pwV]
/-- The cells of a spot in a block. -/
def Spot7 (W : World) (r t L V N : Nat) : Prop := W.cell? ⟨r, 0, none⟩ = some (.pointer (some ⟨t, 0, none⟩)) ∧ W.cell? ⟨r, 1, none⟩ = some (.int .u64 (L : Int)) ∧ W.cell? ⟨r, 2, none⟩ = some (.int .u64 (V : Int)) ∧ W.cell? ⟨r, 3, none⟩ = some (.int .i64 (N : Int)) ∧ W.cell? ⟨r, 4, none⟩ = some (.int .i64 0) ∧ W.cell? ⟨r, 5, none⟩ = some (.int .i64 0) ∧ W.cell? ⟨r, 6, none⟩ = some (.int .u64 0)
theorem Spot7.below {w w' : World} {r t L V N : Nat} (h : Spot7 w r t L V N) (hr : r < w.heap.size) (hb : Below w.heap.size w w') : Spot7 w' r t L V N := by
  obtain ⟨d0, d1, d2, d3, d4, d5, d6⟩ := h
  exact ⟨(hb.cell (p := ⟨r, 0, none⟩) hr).trans d0, (hb.cell (p := ⟨r, 1, none⟩) hr).trans d1, (hb.cell (p := ⟨r, 2, none⟩) hr).trans d2, (hb.cell (p := ⟨r, 3, none⟩) hr).trans d3, (hb.cell (p := ⟨r, 4, none⟩) hr).trans d4, (hb.cell (p := ⟨r, 5, none⟩) hr).trans d5, (hb.cell (p := ⟨r, 6, none⟩) hr).trans d6⟩
section
variable {w : World} {t L V N : Nat}
set_option maxHeartbeats 2000000 in
theorem nw_no (b : Option Addr) (a K : Int) (s : ByteArray) (E : Int) (hE : E ≠ 0) (HN : Calls Try.prog 37 #[.pointer b, .int .u64 a, .int .i64 K, .int .i64 (s.size : Int)] w fun e w' => e = .returned (.tuple #[spotV none 0 0 0, .int .i64 E]) ∧ Below w.heap.size w w') :
    Calls Try.prog 19 #[.pointer b, .int .u64 a, .int .i64 K, .string s] w fun e w' => e = .returned (.tuple #[.pointer none, .int .i64 E]) ∧ Below w.heap.size w w' := by
  have hE' : (E != 0) = true := by rw [bne_iff_ne]; exact hE
  have H := hide HN
  clear HN hE
  unfold spotV at H
  go_enter Try.func19, Try.ntmps19
  go_wp2_with fail
  refine H.out.mono ?_
  rintro e x1 ⟨rfl, b1⟩
  have hb := b1.alloc b1.size (.cells #[.pointer none, .int .u64 0, .int .u64 0, .int .i64 0, .int .i64 0, .int .i64 0, .int .u64 0] 80)
  clear b1
  go_wp2
  go_ret2
  exact ⟨rfl, hb⟩
set_option maxHeartbeats 4000000 in
theorem nw_yes (a K : Int) (s : ByteArray) (hs : s.size ≤ 1000) (HN : Calls Try.prog 37 #[.pointer (some ⟨t, 0, none⟩), .int .u64 a, .int .i64 K, .int .i64 (s.size : Int)] w fun e w' => e = .returned (.tuple #[spotV (some ⟨t, 0, none⟩) L V N, .int .i64 0]) ∧ Below w.heap.size w w') :
    Calls Try.prog 19 #[.pointer (some ⟨t, 0, none⟩), .int .u64 a, .int .i64 K, .string s] w fun e w' => ∃ p g, e = .returned (.tuple #[.pointer (some ⟨p, 0, none⟩), .int .i64 0]) ∧ PwAt w' p (pwV t L V N 0 0 0 (.slice (some ⟨g, 0, none⟩) (wordsFor s.size) (wordsFor s.size)) (.bool false)) ∧
      w'.ownsRow 0 43 1 (.slice (some ⟨g, 0, none⟩) (wordsFor s.size) (wordsFor s.size)) (wordsFor s.size) (uintsN (wordsL s.data.toList (wordsFor s.size))) ∧ g ≠ p ∧ w.heap.size ≤ p ∧ w.heap.size ≤ g ∧ Below w.heap.size w w' := by
  have H := hide HN
  clear HN
  unfold spotV at H
  have HW := hide (fun y => words_any s y (by omega))
  generalize wordsL s.data.toList (wordsFor s.size) = ml at *
  generalize wordsFor s.size = n at *
  go_enter Try.func19, Try.ntmps19
  go_wp2_with fail
  refine H.out.mono ?_
  rintro e x1 ⟨rfl, b1⟩
  have hb := b1.alloc b1.size (.cells #[.pointer (some ⟨t, 0, none⟩), .int .u64 (L : Int), .int .u64 (V : Int), .int .i64 (N : Int), .int .i64 0, .int .i64 0, .int .u64 0] 80)
  have hs1 := b1.size
  have hlt : x1.heap.size < (x1.alloc (.cells #[.pointer (some ⟨t, 0, none⟩), .int .u64 (L : Int), .int .u64 (V : Int), .int .i64 (N : Int), .int .i64 0, .int .i64 0, .int .u64 0] 80)).heap.size := by simp
  have hC : Spot7 (x1.alloc (.cells #[.pointer (some ⟨t, 0, none⟩), .int .u64 (L : Int), .int .u64 (V : Int), .int .i64 (N : Int), .int .i64 0, .int .i64 0, .int .u64 0] 80)) x1.heap.size t L V N := ⟨by simp, by simp, by simp, by simp, by simp, by simp, by simp⟩
  clear b1 H
  go_wp2_with fail
  generalize x1.alloc (.cells #[.pointer (some ⟨t, 0, none⟩), .int .u64 (L : Int), .int .u64 (V : Int), .int .i64 (N : Int), .int .i64 0, .int .i64 0, .int .u64 0] 80) = y0 at *
  generalize x1.heap.size = r at *
  have HC := hide hC
  have hC2 : Spot7 y0 r t L V N := hC
  unfold Spot7 at hC2
  obtain ⟨d0, d1, d2, d3, d4, d5, d6⟩ := hC2
  have HSZ := hide hs1
  have HLT := hide hlt
  clear hC hs1 hlt
  go_region_held3 (fun W => W.cell? ⟨r, 0, none⟩ = some (.pointer (some ⟨t, 0, none⟩)) ∧ W.cell? ⟨r, 1, none⟩ = some (.int .u64 (L : Int)) ∧ W.cell? ⟨r, 2, none⟩ = some (.int .u64 (V : Int)) ∧ W.cell? ⟨r, 3, none⟩ = some (.int .i64 (N : Int)) ∧ W.cell? ⟨r, 4, none⟩ = some (.int .i64 0) ∧ W.cell? ⟨r, 5, none⟩ = some (.int .i64 0) ∧ W.cell? ⟨r, 6, none⟩ = some (.int .u64 0)) (first | assumption | go_keep) (first | (go_at_call 38; refine (HW.out (y0.drewN 1)).mono ?_; rintro e y1 ⟨g, rfl, ho, b2⟩; have q2 : _ ∧ _ ∧ _ ∧ _ ∧ _ ∧ _ ∧ _ := HC.out.below HLT.out ((below_drewN (Below.refl y0.heap.size y0) 1).trans (b2.mono (by simp)))))
  have B1 := hb.trans (((below_drewN (Below.refl y0.heap.size y0) 1).trans (b2.mono (by simp))).mono hb.size)
  have HB := hide (B1.alloc B1.size (.cells #[.pointer (some ⟨t, 0, none⟩), .int .u64 (L : Int), .int .u64 (V : Int), .int .i64 (N : Int), .int .i64 0, .int .i64 0, .int .u64 0, .slice (some ⟨g, 0, none⟩) n n, .bool false] 86))
  have HP := hide (pw_made y1 t L V N (.slice (some ⟨g, 0, none⟩) n n) (.bool false) 86)
  have HO := hide (own_base (base' := 0) (ho.alloc (.cells #[.pointer (some ⟨t, 0, none⟩), .int .u64 (L : Int), .int .u64 (V : Int), .int .i64 (N : Int), .int .i64 0, .int .i64 0, .int .u64 0, .slice (some ⟨g, 0, none⟩) n n, .bool false] 86)) (Nat.zero_le _))
  have hg : (y0.drewN 1).heap.size ≤ g ∧ g < y1.heap.size := ho.lt g rfl
  have hdz : (y0.drewN 1).heap.size = y0.heap.size := by simp
  have hwz := hb.size
  have HG := hide (show g ≠ y1.heap.size ∧ w.heap.size ≤ y1.heap.size ∧ w.heap.size ≤ g from ⟨by omega, B1.size, by omega⟩)
  clear hdz hwz q2 ho b2 B1 hg d0 d1 d2 d3 d4 d5 d6 HC HLT HSZ HW hb
  go_wp2
  go_ret2
  exact ⟨_, _, rfl, HP.out, HO.out, HG.out.1, HG.out.2.1, HG.out.2.2, HB.out⟩
set_option maxHeartbeats 2000000 in
theorem na_no (b : Option Addr) (a K : Int) (n : Nat) (E : Int) (hE : E ≠ 0) (HN : ∀ y, Below w.heap.size w y → Calls Try.prog 37 #[.pointer b, .int .u64 a, .int .i64 K, .int .i64 8] y fun e w' => e = .returned (.tuple #[spotV none 0 0 0, .int .i64 E]) ∧ Below y.heap.size y w') :
    Calls Try.prog 21 #[.pointer b, .int .u64 a, .int .i64 K, .int .u64 (n : Int)] w fun e w' => e = .returned (.tuple #[.pointer none, .int .i64 E]) ∧ Below w.heap.size w w' := by
  have hE' : (E != 0) = true := by rw [bne_iff_ne]; exact hE
  have HV := hide (value_any n w)
  have HW : Hid (∀ y, Below w.heap.size w y → Calls Try.prog 19 #[.pointer b, .int .u64 a, .int .i64 K, .string (valS n)] y fun e w' => e = .returned (.tuple #[.pointer none, .int .i64 E]) ∧ Below y.heap.size y w') := fun y hy => by
    have := HN y hy
    refine nw_no b a K (valS n) E hE ?_
    rw [valS_size]; exact this
  clear HN hE
  generalize valS n = s at *
  go_enter Try.func21, Try.ntmps21
  go_wp2_with fail
  refine HV.out.mono ?_
  rintro e y1 ⟨rfl, b1⟩
  go_wp2_with fail
  refine (HW.out y1 b1).mono ?_
  rintro e y2 ⟨rfl, b2⟩
  have hb := b1.trans (b2.mono b1.size)
  clear b1 b2
  go_wp2
  go_ret2
  exact ⟨rfl, hb⟩
set_option maxHeartbeats 4000000 in
theorem na_yes (a K : Int) (n : Nat) (hn : n < 18446744073709551616) (HN : ∀ y, Below w.heap.size w y → Calls Try.prog 37 #[.pointer (some ⟨t, 0, none⟩), .int .u64 a, .int .i64 K, .int .i64 8] y fun e w' => e = .returned (.tuple #[spotV (some ⟨t, 0, none⟩) L V N, .int .i64 0]) ∧ Below y.heap.size y w') :
    Calls Try.prog 21 #[.pointer (some ⟨t, 0, none⟩), .int .u64 a, .int .i64 K, .int .u64 (n : Int)] w fun e w' => ∃ p g, e = .returned (.tuple #[.pointer (some ⟨p, 0, none⟩), .int .i64 0]) ∧ PwAt w' p (pwV t L V N 0 0 0 (.slice (some ⟨g, 0, none⟩) 1 1) (.bool true)) ∧
      w'.ownsRow 0 43 1 (.slice (some ⟨g, 0, none⟩) 1 1) 1 (uintsN [n]) ∧ g ≠ p ∧ w.heap.size ≤ p ∧ w.heap.size ≤ g ∧ Below w.heap.size w w' := by
  have HV := hide (value_any n w)
  have HW : Hid (∀ y, Below w.heap.size w y → Calls Try.prog 19 #[.pointer (some ⟨t, 0, none⟩), .int .u64 a, .int .i64 K, .string (valS n)] y fun e w' => ∃ p g, e = .returned (.tuple #[.pointer (some ⟨p, 0, none⟩), .int .i64 0]) ∧ PwAt w' p (pwV t L V N 0 0 0 (.slice (some ⟨g, 0, none⟩) 1 1) (.bool false)) ∧
      w'.ownsRow 0 43 1 (.slice (some ⟨g, 0, none⟩) 1 1) 1 (uintsN [n]) ∧ g ≠ p ∧ y.heap.size ≤ p ∧ y.heap.size ≤ g ∧ Below y.heap.size y w') := fun y hy => by
    have h1 := HN y hy
    obtain ⟨e1, e2⟩ := valS_words n hn
    have h2 := nw_yes (w := y) (t := t) (L := L) (V := V) (N := N) a K (valS n) (by rw [valS_size]; decide) (by rw [valS_size]; exact h1)
    rw [e1, e2] at h2
    exact h2
  clear HN hn
  generalize valS n = s at *
  go_enter Try.func21, Try.ntmps21
  go_wp2_with fail
  refine HV.out.mono ?_
  rintro e y1 ⟨rfl, b1⟩
  go_wp2_with fail
  refine (HW.out y1 b1).mono ?_
  rintro e y2 ⟨p, g, rfl, hp, ho, hgp, h1, h2, b2⟩
  have hs := b1.size
  have hb := b1.trans (b2.mono b1.size)
  have f8 := hp.fs 8 (by omega)
  have c8 := hp.c8
  have HP := hide (hp.setAd (.bool true))
  have HO := hide (own_keep ho (one_keeps y2 ⟨p, 8, none⟩ (.bool true)) (fun q hq e => hgp (by cases hq; exact e)))
  have HB := hide (hb.setCell (p := ⟨p, 8, none⟩) (Nat.le_trans hs h1) (.bool true))
  have HG := hide (show g ≠ p ∧ w.heap.size ≤ p ∧ w.heap.size ≤ g from ⟨hgp, Nat.le_trans hs h1, Nat.le_trans hs h2⟩)
  clear hp ho b1 b2 HW HV h1 h2 hs hb hgp
  go_wp2
  go_ret2
  exact ⟨_, _, rfl, HP.out, HO.out, HG.out.1, HG.out.2.1, HG.out.2.2, HB.out⟩
end
end Go.Proofs.Ytikpphbgjbfddaa
