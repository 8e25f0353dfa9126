/- Parts of the proof: Bf. -/
import Derived.Test.YtikpphbgjbfddaaJ53
namespace Go.Proofs.Ytikpphbgjbfddaa
set_option maxRecDepth 20000
open Go.RowKit
section
variable {w : World} {S : Nat → Prop} {p t L V N st nx sn k cap n : Nat} {l a : Value} {c : Ce} {ml : List Nat}
set_option maxHeartbeats 2000000 in
theorem re_busy (h : PwAt w p (pwV t 2 5 N st nx sn l a)) (hb : InBuf w S t k N c) (hne : lwN c ≠ sn) :
    Calls Try.prog 47 #[.pointer (some ⟨p, 0, none⟩)] w fun e w' => e = .returned (.tuple #[.int .i64 3, .int .i64 0]) ∧ PwAt w' p (pwV t 2 5 N 0 nx sn l a) ∧ Keeps (fun i => i = p) w w' := by
  have HL : Hid (∀ n, Calls Try.prog 16 #[.pointer (some ⟨t, 0, none⟩), .int .u64 2] (w.drewN n) fun e w' => e = .returned (.tuple #[.int .u64 (lwN c : Int), .int .i64 0]) ∧ Below (w.drewN n).heap.size (w.drewN n) w') := fun n => inb_lock (hb.below (below_drewN (Below.refl _ _) n))
  have c0 := h.c0
  have c1 : w.cell? ⟨p, 1, none⟩ = some (.int .u64 2) := h.c1
  have HS : Hid (∀ n z, Below (w.drewN n).heap.size (w.drewN n) z → z.cell? ⟨p, 0, none⟩ = some (.pointer (some ⟨t, 0, none⟩)) ∧ z.cell? ⟨p, 1, none⟩ = some (.int .u64 2)) := fun n z hz => ⟨((h.drewN n).below hz).c0, ((h.drewN n).below hz).c1⟩
  have hne' : ((lwN c : Int) != (sn : Int)) = true := by rw [bne_iff_ne]; omega
  have HP := hide h
  clear h hb hne
  generalize (lwN c : Int) = Q at *
  go_enter Try.func47, Try.ntmps47
  go_wp2_with fail
  go_region_held3 (fun W => W.cell? ⟨p, 0, none⟩ = some (.pointer (some ⟨t, 0, none⟩)) ∧ W.cell? ⟨p, 1, none⟩ = some (.int .u64 2)) (first | assumption | go_keep) (first | (go_at_call 16; refine (HL.out 1).mono ?_; rintro e y1 ⟨rfl, b1⟩; have q1 := HS.out 1 y1 b1))
  have B1 := (below_drewN (Below.refl w.heap.size w) 1).trans (b1.mono (by simp))
  have P1 := HP.out.below B1
  have c6 := P1.c6
  have c4 := P1.c4
  have f4 := P1.fs 4 (by omega)
  have HP2 := hide (P1.setSt 0)
  have HK := hide ((Below.keeps (S := fun i => i = p) B1).setCell ⟨p, 4, none⟩ (fun _ => rfl) (.int .i64 0))
  clear q1 b1 HS HL B1 P1 c0 c1
  go_wp2
  go_ret2
  exact ⟨rfl, HP2.out, HK.out⟩
set_option maxHeartbeats 2000000 in
theorem re_done (h : PwAt w p (pwV t 2 5 N st nx sn l a)) (hb : InBuf w S t k N c) (hne : lwN c = sn) :
    Calls Try.prog 47 #[.pointer (some ⟨p, 0, none⟩)] w fun e w' => e = .returned (.tuple #[.int .i64 2, .int .i64 0]) ∧ PwAt w' p (pwV t 2 5 N 4 nx sn l a) ∧ Keeps (fun i => i = p) w w' := by
  have HL : Hid (∀ n, Calls Try.prog 16 #[.pointer (some ⟨t, 0, none⟩), .int .u64 2] (w.drewN n) fun e w' => e = .returned (.tuple #[.int .u64 (sn : Int), .int .i64 0]) ∧ Below (w.drewN n).heap.size (w.drewN n) w') := fun n => by
    rw [← hne]; exact inb_lock (hb.below (below_drewN (Below.refl _ _) n))
  have c0 := h.c0
  have c1 : w.cell? ⟨p, 1, none⟩ = some (.int .u64 2) := h.c1
  have HS : Hid (∀ n z, Below (w.drewN n).heap.size (w.drewN n) z → z.cell? ⟨p, 0, none⟩ = some (.pointer (some ⟨t, 0, none⟩)) ∧ z.cell? ⟨p, 1, none⟩ = some (.int .u64 2)) := fun n z hz => ⟨((h.drewN n).below hz).c0, ((h.drewN n).below hz).c1⟩
  have hne' : ((sn : Int) != (sn : Int)) = false := by simp
  have HP := hide h
  clear h hb hne
  go_enter Try.func47, Try.ntmps47
  go_wp2_with fail
  go_region_held3 (fun W => W.cell? ⟨p, 0, none⟩ = some (.pointer (some ⟨t, 0, none⟩)) ∧ W.cell? ⟨p, 1, none⟩ = some (.int .u64 2)) (first | assumption | go_keep) (first | (go_at_call 16; refine (HL.out 1).mono ?_; rintro e y1 ⟨rfl, b1⟩; have q1 := HS.out 1 y1 b1))
  have B1 := (below_drewN (Below.refl w.heap.size w) 1).trans (b1.mono (by simp))
  have P1 := HP.out.below B1
  have c6 := P1.c6
  have c4 := P1.c4
  have f4 := P1.fs 4 (by omega)
  have HP2 := hide (P1.setSt 4)
  have HK := hide ((Below.keeps (S := fun i => i = p) B1).setCell ⟨p, 4, none⟩ (fun _ => rfl) (.int .i64 4))
  clear q1 b1 HS HL B1 P1 c0 c1
  go_wp2
  go_ret2
  exact ⟨rfl, HP2.out, HK.out⟩
set_option maxHeartbeats 400000 in
theorem rm_zero (h : PwAt w p (pwV t L V N 0 nx sn l a)) {r f : Int} {R : World → Prop} (hc : Calls Try.prog 45 #[.pointer (some ⟨p, 0, none⟩)] w fun e w' => e = .returned (.tuple #[.int .i64 r, .int .i64 f]) ∧ R w') :
    Calls Try.prog 24 #[.pointer (some ⟨p, 0, none⟩)] w fun e w' => e = .returned (.tuple #[.int .i64 r, .int .i64 f]) ∧ R w' := by
  have c4 : w.cell? ⟨p, 4, none⟩ = some (.int .i64 0) := h.c4
  clear h
  go_enter Try.func24, Try.ntmps24
  go_wp2_with fail
  refine hc.mono ?_
  rintro e y ⟨rfl, hR⟩
  go_wp2
  go_ret2
  exact ⟨rfl, hR⟩
set_option maxHeartbeats 400000 in
theorem rm_two (h : PwAt w p (pwV t L V N 2 nx sn l a)) {r f : Int} {R : World → Prop} (hc : Calls Try.prog 46 #[.pointer (some ⟨p, 0, none⟩)] w fun e w' => e = .returned (.tuple #[.int .i64 r, .int .i64 f]) ∧ R w') :
    Calls Try.prog 24 #[.pointer (some ⟨p, 0, none⟩)] w fun e w' => e = .returned (.tuple #[.int .i64 r, .int .i64 f]) ∧ R w' := by
  have c4 : w.cell? ⟨p, 4, none⟩ = some (.int .i64 2) := h.c4
  clear h
  go_enter Try.func24, Try.ntmps24
  go_wp2_with fail
  refine hc.mono ?_
  rintro e y ⟨rfl, hR⟩
  go_wp2
  go_ret2
  exact ⟨rfl, hR⟩
set_option maxHeartbeats 400000 in
theorem rm_three (h : PwAt w p (pwV t L V N 3 nx sn l a)) {r f : Int} {R : World → Prop} (hc : Calls Try.prog 47 #[.pointer (some ⟨p, 0, none⟩)] w fun e w' => e = .returned (.tuple #[.int .i64 r, .int .i64 f]) ∧ R w') :
    Calls Try.prog 24 #[.pointer (some ⟨p, 0, none⟩)] w fun e w' => e = .returned (.tuple #[.int .i64 r, .int .i64 f]) ∧ R w' := by
  have c4 : w.cell? ⟨p, 4, none⟩ = some (.int .i64 3) := h.c4
  clear h
  go_enter Try.func24, Try.ntmps24
  go_wp2_with fail
  refine hc.mono ?_
  rintro e y ⟨rfl, hR⟩
  go_wp2
  go_ret2
  exact ⟨rfl, hR⟩
set_option maxHeartbeats 400000 in
theorem rm_four (h : PwAt w p (pwV t L V N 4 nx sn l a)) :
    Calls Try.prog 24 #[.pointer (some ⟨p, 0, none⟩)] w fun e w' => e = .returned (.tuple #[.int .i64 2, .int .i64 0]) ∧ w' = w := by
  have c4 : w.cell? ⟨p, 4, none⟩ = some (.int .i64 4) := h.c4
  clear h
  go_enter Try.func24, Try.ntmps24
  go_wp2
  go_ret2
  exact ⟨rfl, rfl⟩
set_option maxHeartbeats 400000 in
theorem rm_nil (w : World) :
    Calls Try.prog 24 #[.pointer none] w fun e w' => e = .returned (.tuple #[.int .i64 0, .int .i64 2]) ∧ Below w.heap.size w w' := by
  go_enter Try.func24, Try.ntmps24
  go_wp2
  go_ret2
  exact ⟨rfl, Below.refl _ _⟩
set_option maxHeartbeats 400000 in
theorem rv_nil (w : World) :
    Calls Try.prog 13 #[.pointer none] w fun e w' => e = .returned (.string ⟨#[]⟩) ∧ Below w.heap.size w w' := by
  go_enter Try.func13, Try.ntmps13
  go_wp2
  go_ret
  exact ⟨rfl, Below.refl _ _⟩
set_option maxHeartbeats 400000 in
theorem rv_none (h : PwAt w p (pwV t L V N st nx sn l a)) (hst : st ≠ 4) :
    Calls Try.prog 13 #[.pointer (some ⟨p, 0, none⟩)] w fun e w' => e = .returned (.string ⟨#[]⟩) ∧ Below w.heap.size w w' := by
  have c4 := h.c4
  have n4 : ((st : Int) != 4) = true := by rw [bne_iff_ne]; omega
  clear h hst
  go_enter Try.func13, Try.ntmps13
  go_wp2
  go_ret
  exact ⟨rfl, Below.refl _ _⟩
theorem extract_take (l : List UInt8) (n : Nat) : (⟨l.toArray⟩ : ByteArray).extract 0 n = ⟨(l.take n).toArray⟩ := by
  apply ByteArray.ext
  rw [ByteArray.data_extract]
  simp
set_option maxHeartbeats 2000000 in
theorem rv_some {ao : Option Addr} (h : PwAt w p (pwV t L V N 4 nx sn (.slice ao N cap) (.int .i64 (n : Int)))) (hs : Sl .u64 w ao N (fun j => (ml.getD j 0 : Int))) (hN : N ≤ 16) (hn : n ≤ 8 * N) :
    Calls Try.prog 13 #[.pointer (some ⟨p, 0, none⟩)] w fun e w' => e = .returned (.string ⟨(bytesL (fun j => ml.getD j 0) n).toArray⟩) ∧ Below w.heap.size w w' := by
  have c4 : w.cell? ⟨p, 4, none⟩ = some (.int .i64 4) := h.c4
  have c7 := h.c7
  have hwf : wordsFor (8 * N) = N := by unfold wordsFor; omega
  have hB := hide (fun m => bytes_ok ao N cap (8 * N) (fun j => ml.getD j 0) (w.drewN m) (by omega) (hs.drew m) hwf (fun i h1 h2 => by omega))
  have HZ : Hid ((⟨(bytesL (fun j => ml.getD j 0) (8 * N)).toArray⟩ : ByteArray).extract 0 n = ⟨(bytesL (fun j => ml.getD j 0) n).toArray⟩) := by rw [Hid, extract_take, bytesL_take _ _ _ hn]
  have hsz : (⟨(bytesL (fun j => ml.getD j 0) (8 * N)).toArray⟩ : ByteArray).size = 8 * N := by
    show (bytesL (fun j => ml.getD j 0) (8 * N)).toArray.size = 8 * N
    rw [List.size_toArray, bytesL_length]
  obtain ⟨T, HT⟩ : ∃ T : ByteArray, Hid ((⟨(bytesL (fun j => ml.getD j 0) (8 * N)).toArray⟩ : ByteArray) = T) := ⟨_, rfl⟩
  have HB : Hid (∀ m, Calls Try.prog 32 #[.slice ao N cap, .int .i64 (IntKind.i64.wrap (8 * (N : Int)))] (w.drewN m) fun e w' => e = .returned (.tuple #[.string T, .int .i64 0]) ∧ Below (w.drewN m).heap.size (w.drewN m) w') := fun m => by
    have := hB.out m
    rw [HT.out] at this
    have e : ((8 * N : Nat) : Int) = IntKind.i64.wrap (8 * (N : Int)) := by rw [IntWalk.i64_in _ (by omega)]; omega
    rw [e] at this
    exact this
  rw [HT.out] at HZ hsz
  rw [← HZ.out]
  have HS : Hid (∀ z, Below w.heap.size w z → z.cell? ⟨p, 8, none⟩ = some (.int .i64 (n : Int))) := fun z hz => (h.below hz).c8
  have hnT : (n : Int) ≤ (T.size : Int) := by omega
  clear h hs hB hwf hn
  go_enter Try.func13, Try.ntmps13
  go_wp2_with fail
  go_region_held3 (fun W => W.cell? ⟨p, 7, none⟩ = some (.slice ao N cap)) (first | assumption | go_keep) (first | (go_at_call 32; refine (HB.out 1).mono ?_; rintro e y1 ⟨rfl, b1⟩; have q1 : y1.cell? ⟨p, 7, none⟩ = some (.slice ao N cap) := (b1.cell (p := ⟨p, 7, none⟩) (World.block_lt_of_cell? w _ c7)).trans c7))
  have B1 := (below_drewN (Below.refl w.heap.size w) 1).trans (b1.mono (by simp))
  have c8 := HS.out y1 B1
  clear q1 b1 HB HS
  go_wp2
  all_goals
    go_ret
    exact ⟨rfl, B1⟩
end
end Go.Proofs.Ytikpphbgjbfddaa
