/- Parts of the proof: Vw Vx. -/
import Derived.Test.YtfghfbmmaclcnaaGreatJ25
namespace Go.Proofs.YtfghfbmmaclcnaaGreat
set_option maxRecDepth 20000
open Go.RowKit
def c5 : Cf := ⟨5, 2, 3, 1⟩
theorem c5_ok : CfOk c5 := ⟨by decide, by decide, by decide, by decide⟩
def aw1 : Hs := { hs0 c5 dv0 with O := 33 }
def aw3 : Hs := { nextS c5 aw1 with O := 33 }
def aw4 : Hs := shiftS c5 aw3 0 1 1
def aw5 (T : ByteArray) : Hs := { aw4 with dv := ⟨false, [], [⟨(0, 0), true, T, false, 0⟩]⟩, L := [⟨1, 0, false⟩] }
def aw6 (T : ByteArray) : Hs := { aw5 T with dv := doD (aw5 T).dv 1 }
def aw7 (T : ByteArray) : Hs := landS (aw6 T)
def aw8 (T : ByteArray) : Hs := shiftS c5 (aw7 T) 3 2 1
theorem aw1_e : turnHE c5 aw1 = 0 := by decide
theorem aw1_s : turnHS c5 aw1 = nextS c5 aw1 := by
  unfold turnHS goS
  rw [if_neg (by decide), if_neg (by decide), if_neg (by decide)]
theorem aw3_e : turnHE c5 aw3 = 11 := by decide
theorem aw3_s : turnHS c5 aw3 = aw4 := by
  unfold turnHS goS helpR
  rw [if_neg (by decide), if_neg (by decide), if_pos (by decide), if_neg (by decide), if_neg (by decide), if_neg (by decide), if_neg (by decide), if_pos (by decide)]
  rfl
theorem aw4_e : turnHE c5 aw4 = 11 := by decide
theorem txt_size (c : Cf) (p : Nat) (v : Nat → Int) : (txt c p v).size = 8 * sizeN c.b + 24 := by
  have h : (txt c p v).data.toList.length = 8 * sizeN c.b + 24 := by
    unfold txt
    rw [show (strL (frT p (listN (fun j => (v j).toNat) (sizeN c.b)))).data.toList = frT p (listN (fun j => (v j).toNat) (sizeN c.b)) from by simp [strL]]
    rw [frT_length, listN_length]
  rw [← h]
  exact (Array.length_toList).symm
theorem ask_free {d : Dv} {b : Bk} {T : ByteArray} (ho : d.off = false) (hj : d.jobs = []) (hb : okB b = true) (hT : T.size ≤ 131072) : askE d b true T = 0 := by
  unfold askE
  rw [if_neg (by rw [ho]; decide), if_neg (by rw [hb]; decide), if_neg (by omega), hj, if_neg (fun e => e.2 rfl), if_neg (show ¬ 32 ≤ (tk (fun _ => true) []).length from (by decide : ¬ 32 ≤ 0))]
theorem aw4_f : flushE c5 aw4 0 = 0 := by
  unfold flushE
  rw [if_neg (by decide), if_neg (by decide), if_neg (by decide)]
  have hp : pgW c5 aw4 0 = some (fun _ => 0) := rfl
  rw [hp]
  exact ask_free rfl rfl (by decide) (by rw [txt_size c5]; decide)
theorem aw4_s : turnHS c5 aw4 = aw5 (txt c5 0 (fun _ => 0)) := by
  unfold turnHS goS helpR
  have hu : firstU aw4.L (aw4.m 2) (needN c5 aw4 - aw4.m 2) = 0 := by decide
  rw [if_neg (by decide), if_neg (by decide), if_pos (by decide), if_neg (by decide), if_neg (by decide), if_neg (by decide), if_pos (by decide), hu, if_pos (by decide)]
  simp only [Int.natCast_zero]
  unfold flushS
  rw [if_pos aw4_f]
  have hp : pgW c5 aw4 0 = some (fun _ => 0) := rfl
  rw [hp]
  simp only
  rw [ask_app (ask_free rfl rfl (by decide) (by rw [txt_size c5]; decide))]
  rfl
theorem aw5_d (T : ByteArray) : doE (aw5 T).dv 1 = 0 := rfl
theorem aw6_n (T : ByteArray) : landN (aw6 T).dv (aw6 T).L = 1 := rfl
theorem aw7_e (T : ByteArray) : turnHE c5 (aw7 T) = 11 := rfl
theorem aw7_s (T : ByteArray) : turnHS c5 (aw7 T) = aw8 T := rfl
theorem aw8_e (T : ByteArray) : turnHE c5 (aw8 T) = 0 := rfl
theorem aw8_p (T : ByteArray) : (turnHS c5 (aw8 T)).P = 2 := rfl
end Go.Proofs.YtfghfbmmaclcnaaGreat
namespace Go.Proofs.YtfghfbmmaclcnaaGreat
set_option maxRecDepth 20000
open Go.RowKit Go.Maps
/-- A log of the call's own. -/
structure Aw (w : World) (o : Nat → Nat) (a : Ad) (c : Cf) (s : Hs) (k : Nat) (x : World) : Prop where
  hp : Hp x o a c s k
  fr : ∀ y, o y ≠ 0 → w.heap.size ≤ y
  bl : Below w.heap.size w x
theorem Aw.step {w x x' : World} {o : Nat → Nat} {a : Ad} {c : Cf} {s s' : Hs} {k k' : Nat} (h : Aw w o a c s k x) (q : Hq x o a c s' k' x') : ∃ o', Aw w o' a c s' k' x' := by
  obtain ⟨o', h1, X, K⟩ := q
  refine ⟨o', h1, fun y e => ?_, h.bl.trans (K.below h.bl.size (fun y e => h.fr y (by unfold Ow9 at e; omega)))⟩
  by_cases hy : y < x.heap.size
  · rw [X.old y hy] at e; exact h.fr y e
  · have := h.bl.size; omega
theorem hl_takeP {w : World} {o : Nat → Nat} {a : Ad} {c : Cf} {s : Hs} {k : Nat} (h : Hp w o a c s k) (n : Int) : Calls Tryz.prog 23 #[.pointer (some ⟨a.l, 0, none⟩), .int .i64 n] w fun e w' => e = .returned (.tuple #[.int .u64 (takeA (sizeN c.b) s.P s.O n : Int), .int .i64 (takeK (sizeN c.b) c.sp s.P s.O n : Int), .int .i64 (takeET (sizeN c.b) n)]) ∧ Hq w o a c { s with O := takeO (sizeN c.b) s.O n } k w' := hl_take h n
theorem aw_t1 : takeO (sizeN c5.b) (hs0 c5 dv0).O 31 = 32 := by decide
theorem aw_t2 : takeO (sizeN c5.b) 32 1 = 33 := by decide
theorem aw_t3 : takeO (sizeN c5.b) (nextS c5 aw1).O 32 = 32 := by decide
set_option maxHeartbeats 4000000 in
theorem awake15 (w : World) : Calls Tryz.prog 6 #[] w fun e w' => e = .returned (.bool true) ∧ Below w.heap.size w w' := by
  have HND := hide (device_new w)
  have HNEW := hide (fun x vt (hd : DvIs x vt dv0) => hl_new_yes x c5 c5_ok 0 0 vt dv0 hd)
  obtain ⟨T, hT⟩ : ∃ T, txt c5 0 (fun _ => 0) = T := ⟨_, rfl⟩
  have h4s := aw4_s
  rw [hT] at h4s
  clear hT
  have W0 := Wf.new c5_ok
  have W1 : Wf c5 aw1 0 := W0.tailO 33
  have W2 : Wf c5 (nextS c5 aw1) 1 := by have := W1.turn c5_ok; rw [aw1_s] at this; exact this
  have W3 : Wf c5 aw3 1 := W2.tailO 33
  have W4 : Wf c5 aw4 2 := by have := W3.turn c5_ok; rw [aw3_s] at this; exact this
  have W5 : Wf c5 (aw5 T) 3 := by have := W4.turn c5_ok; rw [h4s] at this; exact this
  have W6 : Wf c5 (aw6 T) 3 := W5.do 1
  have W7 : Wf c5 (aw7 T) 3 := W6.land (by decide)
  have W8 : Wf c5 (aw8 T) 4 := by have := W7.turn c5_ok; rw [aw7_s] at this; exact this
  have HTK1 := hide (fun x o a (h : Hp x o a c5 (hs0 c5 dv0) 0) => hl_takeP h 31)
  have HTK2 := hide (fun x o a (h : Hp x o a c5 ({ hs0 c5 dv0 with O := takeO (sizeN c5.b) (hs0 c5 dv0).O 31 } : Hs) 0) => hl_takeP h 1)
  have HTU1 := hide (fun x o a (h : Hp x o a c5 aw1 0) => hl_turn h W1 (by omega))
  have HTK3 := hide (fun x o a (h : Hp x o a c5 (nextS c5 aw1) 1) => hl_takeP h 32)
  have HTK4 := hide (fun x o a (h : Hp x o a c5 ({ nextS c5 aw1 with O := takeO (sizeN c5.b) (nextS c5 aw1).O 32 } : Hs) 1) => hl_takeP h 1)
  have HTU3 := hide (fun x o a (h : Hp x o a c5 aw3 1) => hl_turn h W3 (by omega))
  have HTU4 := hide (fun x o a (h : Hp x o a c5 aw4 2) => hl_turn h W4 (by omega))
  have HDO := hide (fun x o a (h : Hp x o a c5 (aw5 T) 3) => device_do h.dv 1 (okI_small (by omega) (by omega)))
  have HLD := hide (fun x o a (h : Hp x o a c5 (aw6 T) 3) => hl_land h W6 (by omega))
  have HTU7 := hide (fun x o a (h : Hp x o a c5 (aw7 T) 3) => hl_turn h W7 (by omega))
  have HTU8 := hide (fun x o a (h : Hp x o a c5 (aw8 T) 4) => hl_turn h W8 (by omega))
  rw [aw_t1] at HTK2
  rw [aw1_e, aw1_s] at HTU1
  rw [aw_t3] at HTK4
  rw [aw3_e, aw3_s] at HTU3
  rw [aw4_e, h4s] at HTU4
  simp only [aw5_d] at HDO
  simp only [aw6_n] at HLD
  simp only [aw7_e, aw7_s] at HTU7
  simp only [aw8_e] at HTU8
  have HP8 : Hid ((turnHS c5 (aw8 T)).P = 2) := aw8_p T
  clear W0 W1 W2 W3 W4 W5 W6 W7 W8 h4s
  go_enter Tryz.func6, Tryz.ntmps6
  go_wp2_with fail
  refine HND.out.mono ?_
  rintro e x1 ⟨rfl, hs1, hd1, b1⟩
  have hnew := HNEW.out x1 _ hd1
  go_wp2_with fail
  refine hnew.mono ?_
  rintro e y0 ⟨o0, a, rfl, hp0, hvt, hfr, b2⟩
  have A0 : Aw w o0 a c5 (hs0 c5 dv0) 0 y0 := ⟨hp0, fun y e => by
    rcases (hfr y e).1 with h | h
    · have := b1.size; omega
    · exact h.1, b1.trans (b2.mono b1.size)⟩
  clear hnew HNEW HND hp0 hfr b1 b2 hd1 hs1
  have q1 := HTK1.out _ _ _ A0.hp
  clear HTK1
  go_wp2_with fail
  refine q1.mono ?_
  rintro e y1 ⟨rfl, r1⟩
  obtain ⟨o1, B1⟩ := A0.step r1
  have A1 : Aw w o1 a c5 { hs0 c5 dv0 with O := 32 } 0 y1 := B1
  clear A0 B1 r1 q1
  have q2 := HTK2.out _ _ _ A1.hp
  clear HTK2
  go_wp2_with fail
  refine q2.mono ?_
  rintro e y2 ⟨rfl, r2⟩
  obtain ⟨o2, B2⟩ := A1.step r2
  have A2 : Aw w o2 a c5 aw1 0 y2 := B2
  clear A1 B2 r2 q2
  have q3 := HTU1.out _ _ _ A2.hp
  clear HTU1
  go_wp2_with fail
  refine q3.mono ?_
  rintro e y3 ⟨rfl, r3⟩
  obtain ⟨o3, B3⟩ := A2.step r3
  have A3 : Aw w o3 a c5 (nextS c5 aw1) 1 y3 := B3
  clear A2 B3 r3 q3
  have q4 := HTK3.out _ _ _ A3.hp
  clear HTK3
  go_wp2_with fail
  refine q4.mono ?_
  rintro e y4 ⟨rfl, r4⟩
  obtain ⟨o4, B4⟩ := A3.step r4
  have A4 : Aw w o4 a c5 { nextS c5 aw1 with O := 32 } 1 y4 := B4
  clear A3 B4 r4 q4
  have q5 := HTK4.out _ _ _ A4.hp
  clear HTK4
  go_wp2_with fail
  refine q5.mono ?_
  rintro e y5 ⟨rfl, r5⟩
  obtain ⟨o5, B5⟩ := A4.step r5
  have A5 : Aw w o5 a c5 aw3 1 y5 := B5
  clear A4 B5 r5 q5
  have q6 := HTU3.out _ _ _ A5.hp
  clear HTU3
  go_wp2_with fail
  refine q6.mono ?_
  rintro e y6 ⟨rfl, r6⟩
  obtain ⟨o6, B6⟩ := A5.step r6
  have A6 : Aw w o6 a c5 aw4 2 y6 := B6
  clear A5 B6 r6 q6
  have q7 := HTU4.out _ _ _ A6.hp
  clear HTU4
  go_wp2_with fail
  refine q7.mono ?_
  rintro e y7 ⟨rfl, r7⟩
  obtain ⟨o7, B7⟩ := A6.step r7
  have A7 : Aw w o7 a c5 (aw5 T) 3 y7 := B7
  clear A6 B7 r7 q7
  have hdo := HDO.out _ _ _ A7.hp
  rw [hvt] at hdo
  clear HDO
  go_wp2_with fail
  refine hdo.mono ?_
  rintro e y8 ⟨rfl, d8, k8⟩
  rw [← hvt] at d8 k8
  obtain ⟨o8, B8⟩ := A7.step (s' := aw6 T) (A7.hp.setDv (d := doD (aw5 T).dv 1) k8 d8)
  have A8 : Aw w o8 a c5 (aw6 T) 3 y8 := B8
  clear A7 B8 d8 k8 hdo
  have q9 := HLD.out _ _ _ A8.hp
  clear HLD
  go_wp2_with fail
  refine q9.mono ?_
  rintro e y9 ⟨rfl, r9⟩
  obtain ⟨o9, B9⟩ := A8.step r9
  have A9 : Aw w o9 a c5 (aw7 T) 3 y9 := B9
  clear A8 B9 r9 q9
  have q10 := HTU7.out _ _ _ A9.hp
  clear HTU7
  go_wp2_with fail
  refine q10.mono ?_
  rintro e y10 ⟨rfl, r10⟩
  obtain ⟨o10, B10⟩ := A9.step r10
  have A10 : Aw w o10 a c5 (aw8 T) 4 y10 := B10
  clear A9 B10 r10 q10
  have q11 := HTU8.out _ _ _ A10.hp
  clear HTU8
  go_wp2_with fail
  refine q11.mono ?_
  rintro e y11 ⟨rfl, r11⟩
  obtain ⟨o11, B11⟩ := A10.step r11
  have A11 : Aw w o11 a c5 (turnHS c5 (aw8 T)) 5 y11 := B11
  clear A10 B11 r11 q11
  have htl := hl_tail A11.hp
  go_wp2_with fail
  refine htl.mono ?_
  rintro e y12 ⟨rfl, hy⟩
  subst hy
  obtain ⟨won, hw, ht⟩ := A11.hp.tl
  have htp := tPage ht
  rw [HP8.out] at htp
  have HB := hide A11.bl
  clear ht htl A11 HP8
  go_wp2_with fail
  refine htp.mono ?_
  rintro e y13 ⟨rfl, b13⟩
  have HF := hide (HB.out.trans (b13.mono HB.out.size))
  clear htp b13
  go_wp2
  go_ret
  exact ⟨rfl, HF.out⟩
end Go.Proofs.YtfghfbmmaclcnaaGreat
