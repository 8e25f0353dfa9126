/- The law's parts: grows of any call, awake, small. -/
import Derived.Test.YtmpnbaiolmkhlaaIj
namespace Go.Proofs.Ytmpnbaiolmkhlaa
set_option maxRecDepth 20000
open Go.RowKit
def axV (a : Ax) : Value := .agg #[.int .i64 a.kd, .int .u64 a.h, .int .i64 a.sl, .int .u64 a.old, .bool a.mi, .int .u64 a.ad, .int .i64 a.bk, .int .i64 a.sp]
theorem grows_ok {X : IxPred} (C : IxProg X) {w : World} {base x m B S K : Nat} (h : IxOk X w base x m B S K) (hK : K ≤ 900) (a : Ax) (ha : AxOk a) :
    Calls Try.prog 11 #[.pointer (some ⟨x, 0, none⟩), .pointer (some ⟨m, 0, none⟩), axV a] w fun e w' => e = .returned (.bool true) ∧ IxOk X w' base x m B S (K + 1) ∧ Below base w w' := by
  obtain ⟨M, r, g, T, k, won, cs, h1, G, hk, hwon⟩ := h
  obtain ⟨kd, hN, sl, old, mi, ad, bk, sp⟩ := a
  have h2 := ha.h
  have h3 := ha.ad
  simp only at h2 h3
  obtain ⟨hN, rfl⟩ := Int.eq_ofNat_of_zero_le h2.1
  obtain ⟨aN, rfl⟩ := Int.eq_ofNat_of_zero_le h3.1
  have hh : hN < 18446744073709551616 := by omega
  have haN : aN < 18446744073709551616 := by omega
  unfold axV
  simp only
  rcases hl : ixLook g (ixSlots (cs (buckN hN (B : Int)))) (hN / 1125899906842624) with ⟨lk, s, y⟩
  rcases ixLook_cases hl with ⟨rfl, _⟩ | ⟨rfl, _, _, rfl, _⟩ | ⟨rfl, rfl, rfl, _⟩
  · cases hE : entB aN (hN / 1125899906842624) false
    · exact grows_one_no C h1 G hK hk hwon kd sl bk sp old mi hN aN hh rfl rfl hl haN hE
    · exact grows_one_yes C h1 G hK hk hwon kd sl bk sp old mi hN aN hh rfl rfl hl haN hE
  · exact grows_two C h1 G hK hk hwon kd sl bk sp old mi hN aN hh rfl rfl hl
  · by_cases hT : T < S
    · exact grows_link C h1 G hK hk hwon kd sl bk sp old mi hN aN hh rfl rfl hl hT
    · exact grows_full C h1 G hK hk hwon kd sl bk sp old mi hN aN hh rfl rfl hl (by omega)
theorem small_any (b s : Int) (w : World) :
    Calls Try.prog 8 #[.int .i64 b, .int .i64 s] w fun e w' => e = .returned (.bool (decide (b ≤ 16) && decide (s ≤ 8))) ∧ w' = w := by
  by_cases hb : b ≤ 16
  · go_enter Try.func8, Try.ntmps8
    go_wp2
    go_ret
    exact ⟨ret_bool (by simp [hb]), rfl⟩
  · go_enter Try.func8, Try.ntmps8
    go_wp2
    go_ret
    exact ⟨ret_bool (by simp; omega), rfl⟩
/-- Dropping, on both. -/
theorem drop_p {X : IxPred} (C : IxProg X) {w : World} {base x m B S : Nat} {M : Nat → Prop} {r : Nat} {g : Nat → Nat} {T k won : Nat} {cs : Nat → List Nat} (h : IxTw X w base x m B S M r g T k g T won) (G : IxGood B S g T cs) (hk : k ≤ 1000) :
    Calls Try.prog 9 #[.pointer (some ⟨x, 0, none⟩)] w fun e w' => ∃ gone : Int, e = .returned (.int .i64 gone) ∧ (∃ g', IxTw X w' base x m B S (More M w w') r g' (ixOff (fun b => ixKept g (ixSlots (cs b))) B) k g T won ∧ IxLay B (B + S) (fun b => ixKept g (ixSlots (cs b))) g') ∧ Below base w w' := by
  refine (C.drop h.p G hk).mono ?_
  rintro e w' ⟨gone, g', rfl, p, hl, kk⟩
  obtain ⟨h', b'⟩ := h.prog p kk
  exact ⟨gone, rfl, ⟨g', h', hl⟩, b'⟩
theorem drop_r {X : IxPred} (C : IxProg X) {w : World} {base x m B S : Nat} {M : Nat → Prop} {r : Nat} {g g' : Nat → Nat} {T k won K : Nat} {cs : Nat → List Nat} (h : IxTw X w base x m B S M r g' (ixOff (fun b => ixKept g (ixSlots (cs b))) B) k g T won) (G : IxGood B S g T cs) (hl : IxLay B (B + S) (fun b => ixKept g (ixSlots (cs b))) g') (hk : k ≤ K) (hwon : won ≤ K) :
    Calls Try.prog 10 #[.pointer (some ⟨m, 0, none⟩)] w fun e w' => ∃ gone : Int, e = .returned (.int .i64 gone) ∧ IxOk X w' base x m B S K ∧ Below base w w' := by
  refine (rx_drop h.q G.inv G.sum).mono ?_
  rintro e w' ⟨gone, r', g2, rfl, q, hl2, hr, kk⟩
  obtain ⟨h', b'⟩ := h.ref C q kk (.inr hr)
  have h2 : IxTw X w' base x m B S M r' g2 (ixOff (fun b => ixKept g (ixSlots (cs b))) B) k g2 (ixOff (fun b => ixKept g (ixSlots (cs b))) B) won := ⟨C.same h'.p (hl.same hl2), h'.q, h'.ap, h'.ob, h'.om, h'.bs⟩
  exact ⟨gone, rfl, ⟨M, r', g2, _, k, won, _, h2, G.drop hl2, hk, hwon⟩, b'⟩
theorem buck_one (h : Nat) : buckN h ((1 : Nat) : Int) = 0 := by
  unfold buckN
  split
  · show h % ((1 : Nat) : Int).toNat = 0
    simp [Nat.mod_one]
  · rfl
set_option maxHeartbeats 2000000 in
theorem awake17 {X : IxPred} (C : IxProg X) (w : World) :
    Calls Try.prog 5 #[] w fun e w' => e = .returned (.bool true) ∧ Below w.heap.size w w' := by
  have hp1 : powB ((1 : Nat) : Int) = true := by decide
  have G0 := ixGood_new (B := 1) (S := 0) hp1 (by decide)
  have hs0 : (0 : Nat) ∈ ixSlots [0] := by decide
  have hE : entB 0 0 true = true := by decide
  have G1 : IxGood 1 0 (ixUpd (fun _ => 0) 0 (entN 0 0 true)) 0 (fun b => [b]) := G0.claim (b := 0) (by decide) hs0 (by decide) (fun s _ => by simp [ixHit])
  have hx0 : entN 0 0 true ≠ 0 := by decide
  have htg : ixTag (entN 0 0 true) = 0 := entN_tag hE
  obtain ⟨xe, HXE⟩ : ∃ xe, Hid (entN 0 0 true = xe) := ⟨_, rfl⟩
  rw [HXE.out] at G1 hx0 htg
  have l0 : ixLook (fun _ => 0) (ixSlots [0]) 0 = (2, 0, 0) := by decide
  have l1 : ixLook (ixUpd (fun _ => 0) 0 xe) (ixSlots [0]) 0 = (1, 0, xe) := by
    have e : ixSlots [0] = [] ++ 0 :: [1, 2, 3, 4, 5, 6] := by decide
    rw [e, ixLook_hit rfl (by unfold ixHit; rw [ixUpd_same]; simp [hx0, htg]), ixUpd_same]
  have b77 := buck_one 77
  have HNW := hide (C.newY 1 0 w hp1 (by decide))
  have HL0 : Hid (∀ (Z : World) (M : Nat → Prop) (x : Nat), X Z M x 1 0 (fun _ => 0) 0 0 → _) := fun Z M x hZ => C.look hZ G0 (by decide) 77 (by decide) 0 0 2 0 0 b77 (by decide) l0
  have HCL : Hid (∀ (Z : World) (M : Nat → Prop) (x : Nat), X Z M x 1 0 (fun _ => 0) 0 0 → _) := fun Z M x hZ => C.claim hZ G0 (by decide) 0 0 0 77 0 (by decide) (by decide) (by decide) (by decide) (by decide) rfl
  rw [HXE.out] at HCL
  have HL1 : Hid (∀ (Z : World) (M : Nat → Prop) (x : Nat), X Z M x 1 0 (ixUpd (fun _ => 0) 0 xe) 0 1 → _) := fun Z M x hZ => C.look hZ G1 (by decide) 77 (by decide) 0 0 1 0 xe b77 (by decide) l1
  simp only [lookV, show ((0 : Nat) : Int) = 0 from rfl, show ((1 : Nat) : Int) = 1 from rfl, show ((2 : Nat) : Int) = 2 from rfl, show ((77 : Nat) : Int) = 77 from rfl, show ixLast [0] = 0 from rfl] at HNW HL0 HCL HL1
  clear G0 G1 l0 l1 hp1
  go_enter Try.func5, Try.ntmps5
  go_wp2_with fail
  refine HNW.out.mono ?_
  rintro e y1 ⟨M, x, rfl, p1, hM1, b1⟩
  go_wp2_with fail
  refine (HL0.out _ _ _ p1).mono ?_
  rintro e y2 ⟨rfl, p2, k2⟩
  have b2 := k2.below (B := w.heap.size) b1.size hM1
  have hM2 : ∀ i, More M y1 y2 i → w.heap.size ≤ i := fun i hi => hi.elim (hM1 i) (fun hi => by have := b1.size; omega)
  have B2 := b1.trans b2
  have hb3 := (Below.refl y2.heap.size y2).alloc (Nat.le_refl _) (.cells #[.int .i64 2, .int .i64 0, .int .u64 0, .int .i64 0] 46)
  have p3 := C.keep p2 (N := fun _ => False) (Below.keeps hb3) (fun _ _ => id)
  have B3 := B2.alloc B2.size (.cells #[.int .i64 2, .int .i64 0, .int .u64 0, .int .i64 0] 46)
  have cl0 : (y2.alloc (.cells #[.int .i64 2, .int .i64 0, .int .u64 0, .int .i64 0] 46)).cell? ⟨y2.heap.size, 0, none⟩ = some (.int .i64 2) := by simp
  have cl1 : (y2.alloc (.cells #[.int .i64 2, .int .i64 0, .int .u64 0, .int .i64 0] 46)).cell? ⟨y2.heap.size, 1, none⟩ = some (.int .i64 0) := by simp
  have hl2 : y2.heap.size < (y2.alloc (.cells #[.int .i64 2, .int .i64 0, .int .u64 0, .int .i64 0] 46)).heap.size := World.block_lt_of_cell? _ _ cl0
  have hn2 : ¬ More M y1 y2 y2.heap.size := fun e => e.elim (fun e => by have := C.lt p1 _ e; have := k2.size; omega) (fun e => by omega)
  go_wp2_with fail
  generalize hY : y2.alloc (.cells #[.int .i64 2, .int .i64 0, .int .u64 0, .int .i64 0] 46) = Y at *
  refine (HCL.out _ _ _ p3).mono ?_
  rintro e y4 ⟨rfl, p4, k4⟩
  have b4 := k4.below (B := w.heap.size) B3.size hM2
  have B4 := B3.trans b4
  have dl0 := (k4.cell (p := ⟨y2.heap.size, 0, none⟩) hl2 hn2).trans cl0
  have dl1 := (k4.cell (p := ⟨y2.heap.size, 1, none⟩) hl2 hn2).trans cl1
  have hl4 := Nat.lt_of_lt_of_le hl2 k4.size
  have hM4 : ∀ i, More (More M y1 y2) Y y4 i → w.heap.size ≤ i := fun i hi => hi.elim (hM2 i) (fun hi => by have := B3.size; omega)
  have hn4 : ¬ More (More M y1 y2) Y y4 y2.heap.size := fun e => e.elim hn2 (fun e => by omega)
  go_wp2_with fail
  refine (HL1.out _ _ _ p4).mono ?_
  rintro e y5 ⟨rfl, p5, k5⟩
  have b5 := k5.below (B := w.heap.size) B4.size hM4
  have B5 := B4.trans b5
  have el0 := (k5.cell (p := ⟨y2.heap.size, 0, none⟩) hl4 hn4).trans dl0
  have el1 := (k5.cell (p := ⟨y2.heap.size, 1, none⟩) hl4 hn4).trans dl1
  have B6 := hide (B5.alloc B5.size (.cells #[.int .i64 1, .int .i64 0, .int .u64 (xe : Int), .int .i64 0] 46))
  replace el0 := cell_alloc el0 (.cells #[.int .i64 1, .int .i64 0, .int .u64 (xe : Int), .int .i64 0] 46)
  replace el1 := cell_alloc el1 (.cells #[.int .i64 1, .int .i64 0, .int .u64 (xe : Int), .int .i64 0] 46)
  go_wp2
  go_ret
  exact ⟨rfl, B6.out⟩
end Go.Proofs.Ytmpnbaiolmkhlaa
