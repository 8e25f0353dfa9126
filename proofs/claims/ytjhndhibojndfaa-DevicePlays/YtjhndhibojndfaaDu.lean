/- Package device at a nil device; awake. -/
import Derived.Test.YtjhndhibojndfaaDt
namespace Go.Proofs.Ytjhndhibojndfaa
open Go.RowKit Go.Maps
theorem power_nil (w : World) : Calls Try.prog 33 #[.pointer none] w fun e w' => e = .returned (.int .i64 2) ∧ w' = w := by
  go_enter Try.func33, Try.ntmps33
  go_wp2
  go_ret
  exact ⟨rfl, rfl⟩
theorem refuses_nil (w : World) (a n : Int) : Calls Try.prog 30 #[.pointer none, .agg #[.int .i64 a, .int .i64 n]] w fun e w' => e = .returned (.int .i64 2) ∧ Below w.heap.size w w' := by
  have hp := power_nil (w.alloc (.cells #[.int .i64 a, .int .i64 n] 32))
  go_enter Try.func30, Try.ntmps30
  go_wp2_with fail
  refine hp.mono ?_
  rintro e x ⟨rfl, rfl⟩
  go_wp2
  go_ret
  exact ⟨rfl, (Below.refl _ _).alloc (Nat.le_refl _) _⟩
theorem write_nil (w : World) (a n : Int) (s : ByteArray) : Calls Try.prog 14 #[.pointer none, .agg #[.int .i64 a, .int .i64 n], .string s] w fun e w' => e = .returned (.tuple #[.int .i64 0, .int .i64 2]) ∧ Below w.heap.size w w' := by
  have hb := (Below.refl w.heap.size w).alloc (Nat.le_refl _) (.cells #[.int .i64 a, .int .i64 n] 32)
  have hp := refuses_nil (w.alloc (.cells #[.int .i64 a, .int .i64 n] 32)) a n
  go_enter Try.func14, Try.ntmps14
  go_wp2_with fail
  refine hp.mono ?_
  rintro e x ⟨rfl, b2⟩
  go_wp2
  go_ret2
  exact ⟨rfl, hb.trans (b2.mono hb.size)⟩
theorem read_nil (w : World) (a n : Int) : Calls Try.prog 15 #[.pointer none, .agg #[.int .i64 a, .int .i64 n]] w fun e w' => e = .returned (.tuple #[.int .i64 0, .int .i64 2]) ∧ Below w.heap.size w w' := by
  have hb := (Below.refl w.heap.size w).alloc (Nat.le_refl _) (.cells #[.int .i64 a, .int .i64 n] 32)
  have hp := refuses_nil (w.alloc (.cells #[.int .i64 a, .int .i64 n] 32)) a n
  go_enter Try.func15, Try.ntmps15
  go_wp2_with fail
  refine hp.mono ?_
  rintro e x ⟨rfl, b2⟩
  go_wp2
  go_ret2
  exact ⟨rfl, hb.trans (b2.mono hb.size)⟩
theorem do_nil (w : World) (x : Int) : Calls Try.prog 16 #[.pointer none, .int .i64 x] w fun e w' => e = .returned (.int .i64 2) ∧ w' = w := by
  go_enter Try.func16, Try.ntmps16
  go_wp2_with fail
  refine (power_nil w).mono ?_
  rintro e x ⟨rfl, rfl⟩
  go_wp2
  go_ret
  exact ⟨rfl, rfl⟩
theorem take_nil (w : World) (x : Int) : Calls Try.prog 17 #[.pointer none, .int .i64 x] w fun e w' => e = .returned (.tuple #[.string ⟨#[]⟩, .int .i64 2]) ∧ w' = w := by
  go_enter Try.func17, Try.ntmps17
  go_wp2_with fail
  refine (power_nil w).mono ?_
  rintro e x ⟨rfl, rfl⟩
  go_wp2
  go_ret2
  exact ⟨rfl, rfl⟩
theorem crash_nil (w : World) (po : Option Addr) (np pc : Nat) : Calls Try.prog 18 #[.pointer none, .slice po np pc] w fun e w' => e = .returned (.int .i64 2) ∧ w' = w := by
  go_enter Try.func18, Try.ntmps18
  go_wp2_with fail
  refine (power_nil w).mono ?_
  rintro e x ⟨rfl, rfl⟩
  go_wp2
  go_ret
  exact ⟨rfl, rfl⟩
theorem flight_nil (w : World) : Calls Try.prog 11 #[.pointer none] w fun e w' => e = .returned (.slice none 0 0) ∧ w' = w := by
  go_enter Try.func11, Try.ntmps11
  go_wp2
  go_ret
  exact ⟨rfl, rfl⟩
theorem blocks_nil (w : World) : Calls Try.prog 22 #[.pointer none] w fun e w' => e = .returned (.slice none 0 0) ∧ w' = w := by
  go_enter Try.func22, Try.ntmps22
  go_wp2
  go_ret
  exact ⟨rfl, rfl⟩
theorem start_nil (w : World) : Calls Try.prog 21 #[.pointer none] w fun e w' => e = .returned (.int .i64 2) ∧ w' = w := by
  go_enter Try.func21, Try.ntmps21
  go_wp2
  go_ret
  exact ⟨rfl, rfl⟩
theorem on_nil (w : World) : Calls Try.prog 13 #[.pointer none] w fun e w' => e = .returned (.bool false) ∧ w' = w := by
  go_enter Try.func13, Try.ntmps13
  go_wp2
  go_ret
  exact ⟨rfl, rfl⟩
theorem peek_nil (w : World) (a n : Int) : Calls Try.prog 19 #[.pointer none, .agg #[.int .i64 a, .int .i64 n]] w fun e w' => e = .returned (.tuple #[.string ⟨#[]⟩, .bool false]) ∧ Below w.heap.size w w' := by
  go_enter Try.func19, Try.ntmps19
  go_wp2
  go_ret2
  exact ⟨rfl, (Below.refl _ _).alloc (Nat.le_refl _) _⟩
/-- What is kept behind a call on a device that was made here. -/
theorem keeps_low {w w' : World} {t B : Nat} (h : Keeps (InD t) w w') (hB : B ≤ t) (hw : B ≤ w.heap.size) : Below B w w' := h.below hw (fun _ hk => Nat.le_trans hB hk.1)
def dv1 : Dv := ⟨false, [], [⟨(0, 3), true, ⟨#[120]⟩, false, 0⟩]⟩
def dv2 : Dv := ⟨false, [((0, 3), ⟨#[120]⟩)], [⟨(0, 3), true, ⟨#[]⟩, false, 1⟩]⟩
def dv3 : Dv := ⟨false, [((0, 3), ⟨#[120]⟩)], [⟨(0, 3), true, ⟨#[]⟩, false, 2⟩]⟩
theorem aw1 : askE dv0 (0, 3) true ⟨#[120]⟩ = 0 := by decide
theorem aw2 : askT dv0 (0, 3) true ⟨#[120]⟩ = 1 := by decide
theorem aw3 : askD dv0 (0, 3) true ⟨#[120]⟩ = dv1 := by rfl
theorem aw4 : (lookL dv1.items (0, 3)).isSome = false := by rfl
theorem aw5 : doE dv1 1 = 0 := by rfl
theorem aw6 : doD dv1 1 = dv2 := by rfl
theorem aw7 : lookL dv2.items (0, 3) = some ⟨#[120]⟩ := by rfl
theorem aw8 : takeE dv2 1 = 0 := by decide
theorem aw9 : takeD dv2 1 = dv3 := by rfl
theorem aw10 : takeE dv3 1 = 7 := by decide
set_option maxHeartbeats 1000000 in
theorem awake11 (w : World) : Calls Try.prog 6 #[] w fun e w' => e = .returned (.bool true) ∧ Below w.heap.size w w' := by
  go_enter Try.func6, Try.ntmps6
  go_wp2_with fail
  refine (device_new _).mono ?_
  rintro e x1 ⟨rfl, hs, h1, b1⟩
  have h2 := h1.alloc (.cells #[.int .i64 0, .int .i64 3] 32)
  have b2 := b1.alloc b1.size (.cells #[.int .i64 0, .int .i64 3] 32)
  have hW := device_write h2 (0, 3) ⟨#[120]⟩ (by decide)
  rw [aw1, aw2, aw3] at hW
  simp only [bkV] at hW
  have hbw : ∀ {x y : World}, Below w.heap.size w x → Keeps (InD w.heap.size) x y → Below w.heap.size w y := fun {x y} hx hk => hx.trans (keeps_low hk (Nat.le_refl _) hx.size)
  have HB2 := hide b2
  have HS := hide hs
  clear h1 h2 b1 b2 hs
  go_wp2_with fail
  refine hW.mono ?_
  rintro e x2 ⟨rfl, h3, k3⟩
  have b3 := hbw HB2.out k3
  have ncell : ¬ InD w.heap.size x1.heap.size := fun h => by have h1 := h.2; have h2 := HS.out; omega
  have c0 : x2.cell? ⟨x1.heap.size, 0, none⟩ = some (.int .i64 0) := by rw [k3.cell (by simp) ncell]; simp
  have c1 : x2.cell? ⟨x1.heap.size, 1, none⟩ = some (.int .i64 3) := by rw [k3.cell (by simp) ncell]; simp
  have lx : x1.heap.size < x2.heap.size := World.block_lt_of_cell? x2 _ c0
  have hok : okK (0, 3) := okB_okK (by decide)
  have hP := device_peek h3 (0, 3) hok
  rw [aw4] at hP
  simp only [bkV] at hP
  generalize hx1 : x1.heap.size = B1 at *
  clear hW k3 HB2 HS
  go_wp2_with fail
  refine hP.mono ?_
  rintro e x3 ⟨rfl, b4⟩
  have h4 := h3.below b4
  have b5 := b3.trans (b4.mono b3.size)
  have d0 : x3.cell? ⟨B1, 0, none⟩ = some (.int .i64 0) := by rw [b4.cell lx]; exact c0
  have d1 : x3.cell? ⟨B1, 1, none⟩ = some (.int .i64 3) := by rw [b4.cell lx]; exact c1
  have hD := device_do h4 1 (okI_small (by decide) (by decide))
  rw [aw5, aw6] at hD
  have lx3 : B1 < x3.heap.size := World.block_lt_of_cell? x3 _ d0
  clear hP h3 h4 b3 b4 c0 c1 lx
  go_wp2_with fail
  refine hD.mono ?_
  rintro e x4 ⟨rfl, h5, k5⟩
  have b6 := hbw b5 k5
  have f0 : x4.cell? ⟨B1, 0, none⟩ = some (.int .i64 0) := by rw [k5.cell lx3 ncell]; exact d0
  have f1 : x4.cell? ⟨B1, 1, none⟩ = some (.int .i64 3) := by rw [k5.cell lx3 ncell]; exact d1
  have hP := device_peek h5 (0, 3) hok
  rw [aw7] at hP
  simp only [bkV, Option.getD_some, Option.isSome_some] at hP
  clear hD d0 d1 k5 b5 lx3
  go_wp2_with fail
  refine hP.mono ?_
  rintro e x5 ⟨rfl, b7⟩
  have h6 := h5.below b7
  have b8 := b6.trans (b7.mono b6.size)
  have hT := device_take h6 1 (okI_small (by decide) (by decide))
  rw [aw8, aw9] at hT
  clear hP h5 h6 b6 b7 f0 f1
  go_wp2_with fail
  refine hT.mono ?_
  rintro e x6 ⟨rfl, h7, k7⟩
  have b9 := hbw b8 k7
  have hT2 := device_take h7 1 (okI_small (by decide) (by decide))
  rw [aw10] at hT2
  clear hT h7 k7 b8
  generalize takeS dv2 1 = s1 at *
  generalize takeS dv3 1 = s2 at *
  go_wp2_with fail
  refine hT2.mono ?_
  rintro e x7 ⟨rfl, -, k8⟩
  have b10 := hbw b9 k8
  clear hT2 k8 b9
  go_wp2
  go_ret
  exact ⟨rfl, b10⟩
end Go.Proofs.Ytjhndhibojndfaa
