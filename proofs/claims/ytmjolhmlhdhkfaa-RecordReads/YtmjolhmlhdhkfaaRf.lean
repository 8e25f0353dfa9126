/- The walk of record.Of. -/
import Derived.Test.YtmjolhmlhdhkfaaRe
namespace Go.Proofs.Ytmjolhmlhdhkfaa
open Go.RowKit
set_option linter.unusedVariables false
theorem recV_zero : recV 0 false false ⟨#[]⟩ ⟨#[]⟩ = .agg #[.int .u64 0, .bool false, .bool false, .string ⟨#[]⟩, .string ⟨#[]⟩] := rfl
/-- No record, and an error. -/
def noRec (e : Int) : Ending := .returned (.tuple #[recV 0 false false ⟨#[]⟩ ⟨#[]⟩, .int .i64 0, .int .i64 e])
/-- Words whose bytes stand where those of a record with such lengths do. -/
def GoodR (v : Nat → Nat) (K V : Nat) : Prop := v 0 < 1125899906842624 ∧ v 1 < 4294967296 ∧ Empty (shV v 3) K (wordsFor K) ∧ Empty (shV v (3 + wordsFor K)) V (wordsFor V)
theorem read_no (b off K V cap : Nat) (v : Nat → Nat) (w : World) (hK : K ≤ 64) (hV : V ≤ 128) (hcap : sizeN K V ≤ cap) (hcm : cap ≤ 9223372036854775807)
    (hs : Sl .u64 w (some ⟨b, off, none⟩) (sizeN K V) (fun j => (v j : Int))) (h0 : v 0 < 18446744073709551616) (h1 : v 1 < 18446744073709551616) (h : ¬ GoodR v K V) :
    Calls Try.prog 32 #[.slice (some ⟨b, off, none⟩) (sizeN K V) cap, .int .i64 (K : Int), .int .i64 (V : Int)] w fun e w' =>
      e = .returned (.tuple #[recV 0 false false ⟨#[]⟩ ⟨#[]⟩, .int .i64 4]) ∧ Below w.heap.size w w' := by
  by_cases a : v 0 < 1125899906842624
  · by_cases c : v 1 < 4294967296
    · by_cases d : Empty (shV v 3) K (wordsFor K)
      · exact read_val b off K V cap v w hK hV hcap hcm hs h0 h1 a c d fun x => h ⟨a, c, d, x⟩
      · exact read_key b off K V cap v w hK hV hcap hcm hs h0 h1 a c d
    · exact read_lock b off K V cap v w hK hV hcap hcm hs h0 h1 a (by omega)
  · exact read_hd b off K V cap v w hK hV hcap hcm hs h0 h1 (by omega)
set_option maxHeartbeats 1000000 in
theorem of_few (ao : Option Addr) (n cap : Nat) (w : World) (h : n < 3) :
    Calls Try.prog 14 #[.slice ao n cap] w fun e w' => e = noRec 3 ∧ Below w.heap.size w w' := by
  have B5 := hide (Box5.made w (.int .u64 0) (.bool false) (.bool false) (.string ⟨#[]⟩) (.string ⟨#[]⟩) 26)
  have hb : Below w.heap.size w (w.alloc (.cells #[.int .u64 0, .bool false, .bool false, .string ⟨#[]⟩, .string ⟨#[]⟩] 26)) := (Below.refl _ w).alloc (Nat.le_refl _) _
  go_enter Try.func14, Try.ntmps14
  go_wp2_with fail
  refine (head_short ao n cap _ h).mono ?_
  rintro e x1 ⟨rfl, rfl⟩
  generalize (w.alloc (.cells #[.int .u64 0, .bool false, .bool false, .string ⟨#[]⟩, .string ⟨#[]⟩] 26)) = x1 at *
  obtain ⟨d0, d1, d2, d3, d4, hf⟩ := B5.out
  have f0 := hf 0
  have f1 := hf 1
  have f2 := hf 2
  have f3 := hf 3
  have f4 := hf 4
  go_wp2
  obtain ⟨q0, q1, q2, q3, q4, _⟩ := Box5.set B5.out (.int .u64 0) (.bool false) (.bool false) (.string ⟨#[]⟩) (.string ⟨#[]⟩)
  have hy := below_set5 hb (Nat.le_refl w.heap.size) (.int .u64 0) (.bool false) (.bool false) (.string ⟨#[]⟩) (.string ⟨#[]⟩)
  generalize (((((x1.setCell ⟨w.heap.size, 0, none⟩ (.int .u64 0)).setCell ⟨w.heap.size, 1, none⟩ (.bool false)).setCell ⟨w.heap.size, 2, none⟩ (.bool false)).setCell ⟨w.heap.size, 3, none⟩ (.string ⟨#[]⟩)).setCell ⟨w.heap.size, 4, none⟩ (.string ⟨#[]⟩)) = y at *
  (try simp only [Exit.inBlock, Exit.then])
  refine bodyPost_ret (by simp [results, Try.results14, go_sem, q0, q1, q2, q3, q4]; try rfl) rfl ?_
  exact ⟨rfl, hy⟩
set_option maxHeartbeats 1000000 in
theorem of_told (b off n cap x : Nat) (w : World) (h : 3 ≤ n) (hc : w.cell? ⟨b, off + 2, none⟩ = some (.int .u64 (x : Int))) (hx : x < 18446744073709551616) (ht : toldB x = false) :
    Calls Try.prog 14 #[.slice (some ⟨b, off, none⟩) n cap] w fun e w' => e = noRec 4 ∧ Below w.heap.size w w' := by
  replace hc := cell_alloc hc (.cells #[.int .u64 0, .bool false, .bool false, .string ⟨#[]⟩, .string ⟨#[]⟩] 26)
  have B5 := hide (Box5.made w (.int .u64 0) (.bool false) (.bool false) (.string ⟨#[]⟩) (.string ⟨#[]⟩) 26)
  have hb : Below w.heap.size w (w.alloc (.cells #[.int .u64 0, .bool false, .bool false, .string ⟨#[]⟩, .string ⟨#[]⟩] 26)) := (Below.refl _ w).alloc (Nat.le_refl _) _
  go_enter Try.func14, Try.ntmps14
  go_wp2_with fail
  refine (head_no b off n cap x _ h hc hx ht).mono ?_
  rintro e x1 ⟨rfl, b1⟩
  replace B5 := hide (B5.out.below b1)
  replace hb := hb.trans (b1.mono hb.size)
  clear b1 hc
  obtain ⟨d0, d1, d2, d3, d4, hf⟩ := B5.out
  have f0 := hf 0
  have f1 := hf 1
  have f2 := hf 2
  have f3 := hf 3
  have f4 := hf 4
  go_wp2
  obtain ⟨q0, q1, q2, q3, q4, _⟩ := Box5.set B5.out (.int .u64 0) (.bool false) (.bool false) (.string ⟨#[]⟩) (.string ⟨#[]⟩)
  have hy := below_set5 hb (Nat.le_refl w.heap.size) (.int .u64 0) (.bool false) (.bool false) (.string ⟨#[]⟩) (.string ⟨#[]⟩)
  generalize (((((x1.setCell ⟨w.heap.size, 0, none⟩ (.int .u64 0)).setCell ⟨w.heap.size, 1, none⟩ (.bool false)).setCell ⟨w.heap.size, 2, none⟩ (.bool false)).setCell ⟨w.heap.size, 3, none⟩ (.string ⟨#[]⟩)).setCell ⟨w.heap.size, 4, none⟩ (.string ⟨#[]⟩)) = y at *
  (try simp only [Exit.inBlock, Exit.then])
  refine bodyPost_ret (by simp [results, Try.results14, go_sem, q0, q1, q2, q3, q4]; try rfl) rfl ?_
  exact ⟨rfl, hy⟩
set_option maxHeartbeats 1000000 in
theorem of_short (b off n cap x : Nat) (w : World) (h : 3 ≤ n) (hc : w.cell? ⟨b, off + 2, none⟩ = some (.int .u64 (x : Int))) (hx : x < 18446744073709551616) (ht : toldB x = true) (hn : n < sizeN (x % 65536) (x / 65536 % 65536)) (hm : n ≤ 1000000) :
    Calls Try.prog 14 #[.slice (some ⟨b, off, none⟩) n cap] w fun e w' => e = noRec 3 ∧ Below w.heap.size w w' := by
  replace hc := cell_alloc hc (.cells #[.int .u64 0, .bool false, .bool false, .string ⟨#[]⟩, .string ⟨#[]⟩] 26)
  have B5 := hide (Box5.made w (.int .u64 0) (.bool false) (.bool false) (.string ⟨#[]⟩) (.string ⟨#[]⟩) 26)
  have hb : Below w.heap.size w (w.alloc (.cells #[.int .u64 0, .bool false, .bool false, .string ⟨#[]⟩, .string ⟨#[]⟩] 26)) := (Below.refl _ w).alloc (Nat.le_refl _) _
  obtain ⟨_, lk, lv⟩ : x / 4294967296 = 44203 ∧ x % 65536 ≤ 64 ∧ x / 65536 % 65536 ≤ 128 := by simpa only [toldB, decide_eq_true_eq] using ht
  have HD := hide (fun w hc => head_yes b off n cap x w h hc hx ht)
  generalize x % 65536 = K at *
  generalize x / 65536 % 65536 = V at *
  go_enter Try.func14, Try.ntmps14
  go_wp2_with fail
  refine (HD.out _ hc).mono ?_
  rintro e x1 ⟨rfl, b1⟩
  replace B5 := hide (B5.out.below b1)
  replace hb := hb.trans (b1.mono hb.size)
  clear b1 hc
  go_wp2_with fail
  refine (size_yes K V _ lk lv).mono ?_
  rintro e x2 ⟨rfl, b2⟩
  replace B5 := hide (B5.out.below b2)
  replace hb := hb.trans (b2.mono hb.size)
  clear b2
  obtain ⟨d0, d1, d2, d3, d4, hf⟩ := B5.out
  have f0 := hf 0
  have f1 := hf 1
  have f2 := hf 2
  have f3 := hf 3
  have f4 := hf 4
  go_wp2
  obtain ⟨q0, q1, q2, q3, q4, _⟩ := Box5.set B5.out (.int .u64 0) (.bool false) (.bool false) (.string ⟨#[]⟩) (.string ⟨#[]⟩)
  have hy := below_set5 hb (Nat.le_refl w.heap.size) (.int .u64 0) (.bool false) (.bool false) (.string ⟨#[]⟩) (.string ⟨#[]⟩)
  generalize (((((x2.setCell ⟨w.heap.size, 0, none⟩ (.int .u64 0)).setCell ⟨w.heap.size, 1, none⟩ (.bool false)).setCell ⟨w.heap.size, 2, none⟩ (.bool false)).setCell ⟨w.heap.size, 3, none⟩ (.string ⟨#[]⟩)).setCell ⟨w.heap.size, 4, none⟩ (.string ⟨#[]⟩)) = y at *
  (try simp only [Exit.inBlock, Exit.then])
  refine bodyPost_ret (by simp [results, Try.results14, go_sem, q0, q1, q2, q3, q4]; try rfl) rfl ?_
  exact ⟨rfl, hy⟩
set_option maxHeartbeats 1000000 in
theorem of_form (b off n cap x : Nat) (w : World) (h : 3 ≤ n) (hc : w.cell? ⟨b, off + 2, none⟩ = some (.int .u64 (x : Int))) (hx : x < 18446744073709551616) (ht : toldB x = true) (v : Nat → Nat) (hs : Sl .u64 w (some ⟨b, off, none⟩) n (fun j => (v j : Int))) (h0 : v 0 < 18446744073709551616) (h1 : v 1 < 18446744073709551616) (hg : ¬ GoodR v (x % 65536) (x / 65536 % 65536))
    (hn : sizeN (x % 65536) (x / 65536 % 65536) ≤ n) (hm : n ≤ 1000000) (hcap : n ≤ cap) (hcm : cap ≤ 9223372036854775807) :
    Calls Try.prog 14 #[.slice (some ⟨b, off, none⟩) n cap] w fun e w' => e = noRec 4 ∧ Below w.heap.size w w' := by
  have HS := hide hs
  have HG := hide hg
  clear hs hg
  replace hc := cell_alloc hc (.cells #[.int .u64 0, .bool false, .bool false, .string ⟨#[]⟩, .string ⟨#[]⟩] 26)
  have B5 := hide (Box5.made w (.int .u64 0) (.bool false) (.bool false) (.string ⟨#[]⟩) (.string ⟨#[]⟩) 26)
  have hb : Below w.heap.size w (w.alloc (.cells #[.int .u64 0, .bool false, .bool false, .string ⟨#[]⟩, .string ⟨#[]⟩] 26)) := (Below.refl _ w).alloc (Nat.le_refl _) _
  obtain ⟨_, lk, lv⟩ : x / 4294967296 = 44203 ∧ x % 65536 ≤ 64 ∧ x / 65536 % 65536 ≤ 128 := by simpa only [toldB, decide_eq_true_eq] using ht
  have HD := hide (fun w hc => head_yes b off n cap x w h hc hx ht)
  generalize x % 65536 = K at *
  generalize x / 65536 % 65536 = V at *
  go_enter Try.func14, Try.ntmps14
  go_wp2_with fail
  refine (HD.out _ hc).mono ?_
  rintro e x1 ⟨rfl, b1⟩
  replace B5 := hide (B5.out.below b1)
  replace hb := hb.trans (b1.mono hb.size)
  clear b1 hc
  go_wp2_with fail
  refine (size_yes K V _ lk lv).mono ?_
  rintro e x2 ⟨rfl, b2⟩
  replace B5 := hide (B5.out.below b2)
  replace hb := hb.trans (b2.mono hb.size)
  clear b2
  have RD := hide (read_no b off K V cap v x2 lk lv (by omega) hcm ((HS.out.below hb).mono hn) h0 h1 HG.out)
  generalize sizeN K V = N at *
  go_wp2_with fail
  refine RD.out.mono ?_
  rintro e x3 ⟨rfl, b3⟩
  rw [recV_zero]
  replace B5 := hide (B5.out.below b3)
  replace hb := hb.trans (b3.mono hb.size)
  have ba : Below x3.heap.size x3 (x3.alloc (.cells #[.int .u64 0, .bool false, .bool false, .string ⟨#[]⟩, .string ⟨#[]⟩] 26)) := (Below.refl _ _).alloc (Nat.le_refl _) _
  replace B5 := hide (B5.out.below ba)
  replace hb := hb.trans (ba.mono hb.size)
  clear b3 RD ba
  obtain ⟨d0, d1, d2, d3, d4, hf⟩ := B5.out
  have f0 := hf 0
  have f1 := hf 1
  have f2 := hf 2
  have f3 := hf 3
  have f4 := hf 4
  go_wp2
  obtain ⟨q0, q1, q2, q3, q4, _⟩ := Box5.set B5.out (.int .u64 0) (.bool false) (.bool false) (.string ⟨#[]⟩) (.string ⟨#[]⟩)
  have hy := below_set5 hb (Nat.le_refl w.heap.size) (.int .u64 0) (.bool false) (.bool false) (.string ⟨#[]⟩) (.string ⟨#[]⟩)
  generalize ((((((x3.alloc (.cells #[.int .u64 0, .bool false, .bool false, .string ⟨#[]⟩, .string ⟨#[]⟩] 26)).setCell ⟨w.heap.size, 0, none⟩ (.int .u64 0)).setCell ⟨w.heap.size, 1, none⟩ (.bool false)).setCell ⟨w.heap.size, 2, none⟩ (.bool false)).setCell ⟨w.heap.size, 3, none⟩ (.string ⟨#[]⟩)).setCell ⟨w.heap.size, 4, none⟩ (.string ⟨#[]⟩)) = y at *
  (try simp only [Exit.inBlock, Exit.then])
  refine bodyPost_ret (by simp [results, Try.results14, go_sem, q0, q1, q2, q3, q4]; try rfl) rfl ?_
  exact ⟨rfl, hy⟩
set_option maxHeartbeats 1000000 in
theorem of_wrong (b off n cap x : Nat) (w : World) (h : 3 ≤ n) (hc : w.cell? ⟨b, off + 2, none⟩ = some (.int .u64 (x : Int))) (hx : x < 18446744073709551616) (ht : toldB x = true) (v : Nat → Nat) (hs : Sl .u64 w (some ⟨b, off, none⟩) n (fun j => (v j : Int))) (hg : GoodR v (x % 65536) (x / 65536 % 65536))
    (hn : sizeN (x % 65536) (x / 65536 % 65536) ≤ n) (hm : n ≤ 1000000) (hcap : n ≤ cap) (hcm : cap ≤ 9223372036854775807)
    (p : Nat) (t i : Bool) (s1 s2 : ByteArray) (hp : v 0 % 281474976710656 = p) (htt : tombB (v 0) = t) (hii : invalidB (v 0) = i) (hs1 : ⟨(bytesL (shV v 3) (x % 65536)).toArray⟩ = s1) (hs2 : ⟨(bytesL (shV v (3 + wordsFor (x % 65536))) (x / 65536 % 65536)).toArray⟩ = s2)
    (hz1 : s1.size = x % 65536) (hz2 : s2.size = x / 65536 % 65536) (E : Nat) (hE : rightE p t s1.size s2.size = E) (hE0 : E ≠ 0) :
    Calls Try.prog 14 #[.slice (some ⟨b, off, none⟩) n cap] w fun e w' => e = noRec 4 ∧ Below w.heap.size w w' := by
  have HS := hide hs
  have HG := hide hg
  have HP := hide hp
  have HT := hide htt
  have HI := hide hii
  have HS1 := hide hs1
  have HS2 := hide hs2
  have HR := hide (fun w => rec_right p t i s1 s2 w (by omega) (by omega))
  have HE := hide hE
  clear hs hg hp htt hii hs1 hs2 hE
  replace hc := cell_alloc hc (.cells #[.int .u64 0, .bool false, .bool false, .string ⟨#[]⟩, .string ⟨#[]⟩] 26)
  have B5 := hide (Box5.made w (.int .u64 0) (.bool false) (.bool false) (.string ⟨#[]⟩) (.string ⟨#[]⟩) 26)
  have hb : Below w.heap.size w (w.alloc (.cells #[.int .u64 0, .bool false, .bool false, .string ⟨#[]⟩, .string ⟨#[]⟩] 26)) := (Below.refl _ w).alloc (Nat.le_refl _) _
  obtain ⟨_, lk, lv⟩ : x / 4294967296 = 44203 ∧ x % 65536 ≤ 64 ∧ x / 65536 % 65536 ≤ 128 := by simpa only [toldB, decide_eq_true_eq] using ht
  have HD := hide (fun w hc => head_yes b off n cap x w h hc hx ht)
  generalize x % 65536 = K at *
  generalize x / 65536 % 65536 = V at *
  go_enter Try.func14, Try.ntmps14
  go_wp2_with fail
  refine (HD.out _ hc).mono ?_
  rintro e x1 ⟨rfl, b1⟩
  replace B5 := hide (B5.out.below b1)
  replace hb := hb.trans (b1.mono hb.size)
  clear b1 hc
  go_wp2_with fail
  refine (size_yes K V _ lk lv).mono ?_
  rintro e x2 ⟨rfl, b2⟩
  replace B5 := hide (B5.out.below b2)
  replace hb := hb.trans (b2.mono hb.size)
  clear b2
  obtain ⟨G0, G1, G2, G3⟩ := HG.out
  have RD := hide (read_run b off K V cap v x2 lk lv (by omega) hcm ((HS.out.below hb).mono hn) G0 G1 G2 G3 p t i s1 s2 HP.out HT.out HI.out HS1.out HS2.out)
  clear G0 G1 G2 G3
  generalize sizeN K V = N at *
  unfold recV at *
  go_wp2_with fail
  refine RD.out.mono ?_
  rintro e x3 ⟨rfl, b3⟩
  replace B5 := hide (B5.out.below b3)
  replace hb := hb.trans (b3.mono hb.size)
  have ba : Below x3.heap.size x3 (x3.alloc (.cells #[.int .u64 (p : Int), .bool t, .bool i, .string s1, .string s2] 26)) := (Below.refl _ _).alloc (Nat.le_refl _) _
  have BR := hide (Box5.made x3 (.int .u64 (p : Int)) (.bool t) (.bool i) (.string s1) (.string s2) 26)
  replace B5 := hide (B5.out.below ba)
  replace hb := hb.trans (ba.mono hb.size)
  clear b3 RD ba
  go_wp2_with fail
  refine (HR.out _).mono ?_
  rintro e x4 ⟨rfl, b4⟩
  rw [HE.out]
  replace B5 := hide (B5.out.below b4)
  replace BR := hide (BR.out.below b4)
  replace hb := hb.trans (b4.mono hb.size)
  clear b4
  generalize x3.heap.size = r3 at *
  have hne : ((E : Int) != 0) = true := by rw [bne_iff_ne]; omega
  obtain ⟨d0, d1, d2, d3, d4, hf⟩ := B5.out
  have f0 := hf 0
  have f1 := hf 1
  have f2 := hf 2
  have f3 := hf 3
  have f4 := hf 4
  go_wp2
  obtain ⟨q0, q1, q2, q3, q4, _⟩ := Box5.set B5.out (.int .u64 0) (.bool false) (.bool false) (.string ⟨#[]⟩) (.string ⟨#[]⟩)
  have hy := below_set5 hb (Nat.le_refl w.heap.size) (.int .u64 0) (.bool false) (.bool false) (.string ⟨#[]⟩) (.string ⟨#[]⟩)
  generalize (((((x4.setCell ⟨w.heap.size, 0, none⟩ (.int .u64 0)).setCell ⟨w.heap.size, 1, none⟩ (.bool false)).setCell ⟨w.heap.size, 2, none⟩ (.bool false)).setCell ⟨w.heap.size, 3, none⟩ (.string ⟨#[]⟩)).setCell ⟨w.heap.size, 4, none⟩ (.string ⟨#[]⟩)) = y at *
  (try simp only [Exit.inBlock, Exit.then])
  refine bodyPost_ret (by simp [results, Try.results14, go_sem, q0, q1, q2, q3, q4]; try rfl) rfl ?_
  exact ⟨rfl, hy⟩
set_option maxHeartbeats 1000000 in
theorem of_run (b off n cap x : Nat) (w : World) (h : 3 ≤ n) (hc : w.cell? ⟨b, off + 2, none⟩ = some (.int .u64 (x : Int))) (hx : x < 18446744073709551616) (ht : toldB x = true) (v : Nat → Nat) (hs : Sl .u64 w (some ⟨b, off, none⟩) n (fun j => (v j : Int))) (hg : GoodR v (x % 65536) (x / 65536 % 65536))
    (hn : sizeN (x % 65536) (x / 65536 % 65536) ≤ n) (hm : n ≤ 1000000) (hcap : n ≤ cap) (hcm : cap ≤ 9223372036854775807)
    (p : Nat) (t i : Bool) (s1 s2 : ByteArray) (hp : v 0 % 281474976710656 = p) (htt : tombB (v 0) = t) (hii : invalidB (v 0) = i) (hs1 : ⟨(bytesL (shV v 3) (x % 65536)).toArray⟩ = s1) (hs2 : ⟨(bytesL (shV v (3 + wordsFor (x % 65536))) (x / 65536 % 65536)).toArray⟩ = s2)
    (hz1 : s1.size = x % 65536) (hz2 : s2.size = x / 65536 % 65536) (hE : rightE p t s1.size s2.size = 0) :
    Calls Try.prog 14 #[.slice (some ⟨b, off, none⟩) n cap] w fun e w' => e = .returned (.tuple #[recV p t i s1 s2, .int .i64 (sizeN (x % 65536) (x / 65536 % 65536) : Int), .int .i64 0]) ∧ Below w.heap.size w w' := by
  have HS := hide hs
  have HG := hide hg
  have HP := hide hp
  have HT := hide htt
  have HI := hide hii
  have HS1 := hide hs1
  have HS2 := hide hs2
  have HR := hide (fun w => rec_right p t i s1 s2 w (by omega) (by omega))
  have HE := hide hE
  clear hs hg hp htt hii hs1 hs2 hE
  replace hc := cell_alloc hc (.cells #[.int .u64 0, .bool false, .bool false, .string ⟨#[]⟩, .string ⟨#[]⟩] 26)
  have B5 := hide (Box5.made w (.int .u64 0) (.bool false) (.bool false) (.string ⟨#[]⟩) (.string ⟨#[]⟩) 26)
  have hb : Below w.heap.size w (w.alloc (.cells #[.int .u64 0, .bool false, .bool false, .string ⟨#[]⟩, .string ⟨#[]⟩] 26)) := (Below.refl _ w).alloc (Nat.le_refl _) _
  obtain ⟨_, lk, lv⟩ : x / 4294967296 = 44203 ∧ x % 65536 ≤ 64 ∧ x / 65536 % 65536 ≤ 128 := by simpa only [toldB, decide_eq_true_eq] using ht
  have HNN : Hid (sizeN (x % 65536) (x / 65536 % 65536) ≤ 27) := by unfold Hid sizeN wordsFor; omega
  have HD := hide (fun w hc => head_yes b off n cap x w h hc hx ht)
  generalize x % 65536 = K at *
  generalize x / 65536 % 65536 = V at *
  go_enter Try.func14, Try.ntmps14
  go_wp2_with fail
  refine (HD.out _ hc).mono ?_
  rintro e x1 ⟨rfl, b1⟩
  replace B5 := hide (B5.out.below b1)
  replace hb := hb.trans (b1.mono hb.size)
  clear b1 hc
  go_wp2_with fail
  refine (size_yes K V _ lk lv).mono ?_
  rintro e x2 ⟨rfl, b2⟩
  replace B5 := hide (B5.out.below b2)
  replace hb := hb.trans (b2.mono hb.size)
  clear b2
  obtain ⟨G0, G1, G2, G3⟩ := HG.out
  have RD := hide (read_run b off K V cap v x2 lk lv (by omega) hcm ((HS.out.below hb).mono hn) G0 G1 G2 G3 p t i s1 s2 HP.out HT.out HI.out HS1.out HS2.out)
  clear G0 G1 G2 G3
  unfold recV at *
  go_wp2_with fail
  refine RD.out.mono ?_
  rintro e x3 ⟨rfl, b3⟩
  replace B5 := hide (B5.out.below b3)
  replace hb := hb.trans (b3.mono hb.size)
  have ba : Below x3.heap.size x3 (x3.alloc (.cells #[.int .u64 (p : Int), .bool t, .bool i, .string s1, .string s2] 26)) := (Below.refl _ _).alloc (Nat.le_refl _) _
  have BR := hide (Box5.made x3 (.int .u64 (p : Int)) (.bool t) (.bool i) (.string s1) (.string s2) 26)
  replace B5 := hide (B5.out.below ba)
  replace hb := hb.trans (ba.mono hb.size)
  clear b3 RD ba
  go_wp2_with fail
  refine (HR.out _).mono ?_
  rintro e x4 ⟨rfl, b4⟩
  rw [HE.out]
  replace B5 := hide (B5.out.below b4)
  replace BR := hide (BR.out.below b4)
  replace hb := hb.trans (b4.mono hb.size)
  clear b4
  generalize x3.heap.size = r3 at *
  obtain ⟨d0, d1, d2, d3, d4, hf⟩ := B5.out
  have f0 := hf 0
  have f1 := hf 1
  have f2 := hf 2
  have f3 := hf 3
  have f4 := hf 4
  obtain ⟨g0, g1, g2, g3, g4, _⟩ := BR.out
  go_wp2
  obtain ⟨q0, q1, q2, q3, q4, _⟩ := Box5.set B5.out (.int .u64 (p : Int)) (.bool t) (.bool i) (.string s1) (.string s2)
  have hy := below_set5 hb (Nat.le_refl w.heap.size) (.int .u64 (p : Int)) (.bool t) (.bool i) (.string s1) (.string s2)
  generalize (((((x4.setCell ⟨w.heap.size, 0, none⟩ (.int .u64 (p : Int))).setCell ⟨w.heap.size, 1, none⟩ (.bool t)).setCell ⟨w.heap.size, 2, none⟩ (.bool i)).setCell ⟨w.heap.size, 3, none⟩ (.string s1)).setCell ⟨w.heap.size, 4, none⟩ (.string s2)) = y at *
  (try simp only [Exit.inBlock, Exit.then])
  refine bodyPost_ret (by simp [results, Try.results14, go_sem, q0, q1, q2, q3, q4]; try rfl) rfl ?_
  exact ⟨rfl, hy⟩
end Go.Proofs.Ytmjolhmlhdhkfaa
