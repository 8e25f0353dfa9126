/- Whatever the input, haycroftlaw11.DeviceLasts returns true and changes no argument. Conditions: none. -/
import Derived.Test.YtpjgophblgndaaaDy
import Derived.Test.YtpjgophblgndaaaRows
import Derived.WalkKit
import Derived.ProofKit
import Derived.OpenShut
import Derived.ShutString
import Derived.ChangeOld
import Derived.Below
import Derived.ChangeSame
namespace Go.Proofs.Ytpjgophblgndaaa.deviceLasts
open Go.ChangeShapes Go.WideShapes Go.ChangeAt Go.RowKit
open Go.ChangeMaps (open_string shut_string)
set_option linter.unusedVariables false
theorem own : ownKnob Try.prog.godebug = none := by kernel_rfl
theorem laidOut : laidOutB Try.prog = true := by kernel_rfl

set_option maxHeartbeats 8000000 in
set_option maxRecDepth 10000 in
theorem walk (w : World) (v : Value) (o : IsActs w v) (v1 : Value) (o1 : IsBk v1) :
    Calls Try.prog 4 #[v, v1] w fun e w' => e = .returned (.bool true) ∧ Below w.heap.size w w' := by
  obtain ⟨ao, len, cap, z, rfl, hlen, hs⟩ := o
  obtain ⟨⟨ba, bn⟩, hbk, rfl⟩ := o1
  simp only
  have HS := hide hs
  clear hs
  go_enter Try.func4, Try.ntmps4
  go_wp2_with fail
  refine (awake11 _).mono ?_
  rintro e x1 ⟨rfl, b1⟩
  have hb1 : Below w.heap.size w x1 := ((Below.refl _ w).alloc (Nat.le_refl _) (.cells #[.int .i64 ba, .int .i64 bn] 32)).trans (b1.mono (by simp))
  have c0 : x1.cell? ⟨w.heap.size, 0, none⟩ = some (.int .i64 ba) := by rw [b1.cell (by simp)]; simp
  have c1 : x1.cell? ⟨w.heap.size, 1, none⟩ = some (.int .i64 bn) := by rw [b1.cell (by simp)]; simp
  have lx : w.heap.size < x1.heap.size := World.block_lt_of_cell? x1 _ c0
  clear b1
  go_wp2_with fail
  refine (device_new _).mono ?_
  rintro e x2 ⟨rfl, hz2, hd2, b2⟩
  have hR0 : LsR w x1.heap.size (ba, bn) dv0 x2 := ⟨hd2, hb1.trans (b2.mono hb1.size), by rw [b2.cell lx]; exact c0, by rw [b2.cell lx]; exact c1, lx⟩
  have HR0 := hide hR0
  clear hR0 hd2 b2 c0 c1 hb1 hz2
  generalize x1.heap.size = t at *
  go_wp2
  go_loopw [6, 7, 8, 9] (fun vw vt vn vi wr => ∃ (k : Nat) (d : Dv) (W : ByteArray) (T : Int) (N : ByteArray), k ≤ 120 ∧ vi = .int .i64 k ∧ vw = .string W ∧ vt = .int .i64 T ∧ vn = .string N ∧ LsR w t (ba, bn) d wr ∧ Lst d (ba, bn) W T N ∧ d.jobs.length ≤ k ∧ N.size ≤ 2000) (fun _ _ _ vi _ => 120 - (intOf vi).toNat)
  case atStart => exact ⟨0, dv0, ⟨#[]⟩, 0, ⟨#[]⟩, by decide, rfl, rfl, rfl, rfl, HR0.out, lst0 _, by decide, by decide⟩
  case round =>
    clear HR0
    obtain ⟨k, d, W, T, N, hk, rfl, rfl, rfl, rfl, hR, hL, hj, hN⟩ := hrel
    by_cases hlt : k < len ∧ k < 120
    · obtain ⟨h16, h17⟩ := hlt
      obtain ⟨hx, b, off, rfl, e0, e1, e2, e3, e4, e5⟩ := (HS.out.below hR.bel) k h16
      have hx0 := (HS.out k h16).1
      have lb : b < w.heap.size := by
        obtain ⟨-, b', off', e, q, -⟩ := HS.out k h16
        cases e
        exact World.block_lt_of_cell? w _ q
      generalize z k = cc at *
      obtain ⟨kd, ⟨a, n⟩, s, nn, po, np, pc, pz⟩ := cc
      simp only at e0 e1 e2 e3 e4 e5
      have i0 : (0 : Int) ≤ (k : Int) := by omega
      have i1 : (k : Int) < (len : Int) := by omega
      have ht3 := hR.dv.lt
      have hR1 := hR.alloc (.cells #[.int .i64 kd, .int .i64 a, .int .i64 n, .string s, .int .i64 nn, .slice po np pc] 35)
      have HX := hide hx
      have HX0 := hide hx0
      have HR1 := hide hR1
      have HL := hide hL
      clear hx hx0 hR hR1 hL
      by_cases hsz : 2000 < s.size
      · go_wp2
        go_roundw
        case rel => exact ⟨k + 1, d, W, T, N, by omega, by go_num, rfl, rfl, rfl, HR1.out, HL.out, by omega, hN⟩
        case measure => simp [intOf]; omega
      have hsz' : s.size ≤ 2000 := by omega
      have hjj : d.jobs.length < 1000 := by omega
      by_cases g1 : kd = 1
      · subst g1
        have hW := device_write HR1.out.dv (a, n) s hjj
        simp only [bkV] at hW
        have hdl := askD_len d (a, n) true s
        by_cases he : askE d (a, n) true s = 0
        · by_cases hq : (a, n) = (ba, bn)
          · have hL1 : Lst (askD d (a, n) true s) (ba, bn) W (askT d (a, n) true s) s := by rw [hq] at he ⊢; exact HL.out.wrote s he
            have HLL := hide hL1
            clear hL1 HL
            rw [he] at hW
            simp only [Prod.mk.injEq] at hq
            obtain ⟨hq1, hq2⟩ := hq
            have hq1 := hq1.symm
            have hq2 := hq2.symm
            subst hq1 hq2
            generalize askT d (ba, bn) true s = TT at *
            go_wp2_with fail
            refine hW.mono ?_
            rintro e y ⟨rfl, hd1, k1⟩
            have HR := hide (HR1.out.step hd1 k1)
            obtain ⟨-, p1, p2, p3, -, -⟩ := box6 k1 ht3
            have r0 := HR.out.c0
            have r1 := HR.out.c1
            simp only at r0 r1
            have HL := HLL
            have hj1 : (askD d (ba, bn) true s).jobs.length ≤ k + 1 := by omega
            have hN1 : s.size ≤ 2000 := hsz'
            clear HLL hd1 k1 hW HR1 hdl
            generalize askD d (ba, bn) true s = d1 at *
            have hP := device_peek HR.out.dv (ba, bn) hbk
            rw [HL.out.look] at hP
            simp only [bkV] at hP
            have q0 := HR.out.c0
            have q1 := HR.out.c1
            simp only at q0 q1
            go_wp2_with fail
            refine hP.mono ?_
            rintro e y9 ⟨rfl, b9⟩
            have HR9 := hide (HR.out.below b9)
            clear hP HR b9 q0 q1
            go_wp2
            go_roundw
            case rel => exact ⟨k + 1, _, W, TT, s, by omega, by go_num, rfl, rfl, rfl, HR9.out, HL.out, hj1, hN1⟩
            case measure => simp [intOf]; omega
          · have hL1 : Lst (askD d (a, n) true s) (ba, bn) W T N := HL.out.other (a, n) true s (.inr (.inl hq))
            have HLL := hide hL1
            clear hL1 HL
            rw [he] at hW
            generalize askT d (a, n) true s = TT at *
            go_wp2_with fail
            refine hW.mono ?_
            rintro e y ⟨rfl, hd1, k1⟩
            have HR := hide (HR1.out.step hd1 k1)
            obtain ⟨-, p1, p2, p3, -, -⟩ := box6 k1 ht3
            have r0 := HR.out.c0
            have r1 := HR.out.c1
            simp only at r0 r1
            have HL := HLL
            have hj1 : (askD d (a, n) true s).jobs.length ≤ k + 1 := by omega
            have hN1 := hN
            clear HLL hd1 k1 hW HR1 hdl
            generalize askD d (a, n) true s = d1 at *
            by_cases ha : a = ba
            · have ha := ha.symm
              subst ha
              have hnn : n ≠ bn := fun e => hq (by rw [e])
              clear hq
              have hP := device_peek HR.out.dv (ba, bn) hbk
              rw [HL.out.look] at hP
              simp only [bkV] at hP
              have q0 := HR.out.c0
              have q1 := HR.out.c1
              simp only at q0 q1
              go_wp2_with fail
              refine hP.mono ?_
              rintro e y9 ⟨rfl, b9⟩
              have HR9 := hide (HR.out.below b9)
              clear hP HR b9 q0 q1
              go_wp2
              go_roundw
              case rel => exact ⟨k + 1, _, W, T, N, by omega, by go_num, rfl, rfl, rfl, HR9.out, HL.out, hj1, hN1⟩
              case measure => simp [intOf]; omega
            · clear hq
              have hP := device_peek HR.out.dv (ba, bn) hbk
              rw [HL.out.look] at hP
              simp only [bkV] at hP
              have q0 := HR.out.c0
              have q1 := HR.out.c1
              simp only at q0 q1
              go_wp2_with fail
              refine hP.mono ?_
              rintro e y9 ⟨rfl, b9⟩
              have HR9 := hide (HR.out.below b9)
              clear hP HR b9 q0 q1
              go_wp2
              go_roundw
              case rel => exact ⟨k + 1, _, W, T, N, by omega, by go_num, rfl, rfl, rfl, HR9.out, HL.out, hj1, hN1⟩
              case measure => simp [intOf]; omega
        · have hL1 : Lst (askD d (a, n) true s) (ba, bn) W T N := HL.out.other (a, n) true s (.inl he)
          have he' : (askE d (a, n) true s == 0) = false := by simpa using he
          have HLL := hide hL1
          clear hL1 HL he
          have hj1 : (askD d (a, n) true s).jobs.length ≤ k + 1 := by omega
          generalize askT d (a, n) true s = TT at *
          generalize askE d (a, n) true s = EE at *
          go_wp2_with fail
          refine hW.mono ?_
          rintro e y ⟨rfl, hd1, k1⟩
          have HR := hide (HR1.out.step hd1 k1)
          have HL := HLL
          have hN1 := hN
          clear HLL hd1 k1 hW HR1 hdl
          generalize askD d (a, n) true s = d1 at *
          have hP := device_peek HR.out.dv (ba, bn) hbk
          rw [HL.out.look] at hP
          simp only [bkV] at hP
          have q0 := HR.out.c0
          have q1 := HR.out.c1
          simp only at q0 q1
          go_wp2_with fail
          refine hP.mono ?_
          rintro e y9 ⟨rfl, b9⟩
          have HR9 := hide (HR.out.below b9)
          clear hP HR b9 q0 q1
          go_wp2
          go_roundw
          case rel => exact ⟨k + 1, _, W, T, N, by omega, by go_num, rfl, rfl, rfl, HR9.out, HL.out, hj1, hN1⟩
          case measure => simp [intOf]; omega
      by_cases g2 : kd = 2
      · subst g2
        clear g1
        have hW := device_read HR1.out.dv (a, n) hjj
        simp only [bkV] at hW
        have hdl := askD_len d (a, n) false ⟨#[]⟩
        have HLL := hide (HL.out.other (a, n) false ⟨#[]⟩ (.inr (.inr rfl)))
        have hj1 : (askD d (a, n) false ⟨#[]⟩).jobs.length ≤ k + 1 := by omega
        generalize askT d (a, n) false ⟨#[]⟩ = TT at *
        generalize askE d (a, n) false ⟨#[]⟩ = EE at *
        generalize askD d (a, n) false ⟨#[]⟩ = d1 at *
        clear HL
        go_wp2_with fail
        refine hW.mono ?_
        rintro e y ⟨rfl, hd1, k1⟩
        have HR := hide (HR1.out.step hd1 k1)
        have HL := HLL
        have hN1 := hN
        clear HLL hd1 k1 hW HR1 hdl
        have hP := device_peek HR.out.dv (ba, bn) hbk
        rw [HL.out.look] at hP
        simp only [bkV] at hP
        have q0 := HR.out.c0
        have q1 := HR.out.c1
        simp only at q0 q1
        go_wp2_with fail
        refine hP.mono ?_
        rintro e y9 ⟨rfl, b9⟩
        have HR9 := hide (HR.out.below b9)
        clear hP HR b9 q0 q1
        go_wp2
        go_roundw
        case rel => exact ⟨k + 1, _, W, T, N, by omega, by go_num, rfl, rfl, rfl, HR9.out, HL.out, hj1, hN1⟩
        case measure => simp [intOf]; omega
      by_cases g3 : kd = 3
      · subst g3
        clear g1 g2
        have hW := device_do HR1.out.dv nn HX.out.n
        have hdl := doD_len d nn
        have hj1 : (doD d nn).jobs.length ≤ k + 1 := by omega
        by_cases he : doE d nn = 0
        · by_cases hT : 0 < T
          · by_cases hq : nn = T
            · subst hq
              have HLL := hide (HL.out.done he hT)
              rw [he] at hW
              clear HL he
              generalize doD d nn = d1 at *
              go_wp2_with fail
              refine hW.mono ?_
              rintro e y ⟨rfl, hd1, k1⟩
              have HR := hide (HR1.out.step hd1 k1)
              obtain ⟨-, -, -, -, p4, -⟩ := box6 k1 ht3
              have HL := HLL
              have hN1 := hN
              clear HLL hd1 k1 hW HR1 hdl
              have hP := device_peek HR.out.dv (ba, bn) hbk
              rw [HL.out.look] at hP
              simp only [bkV] at hP
              have q0 := HR.out.c0
              have q1 := HR.out.c1
              simp only at q0 q1
              go_wp2_with fail
              refine hP.mono ?_
              rintro e y9 ⟨rfl, b9⟩
              have HR9 := hide (HR.out.below b9)
              clear hP HR b9 q0 q1
              go_wp2
              go_roundw
              case rel => exact ⟨k + 1, _, N, 0, N, by omega, by go_num, rfl, rfl, rfl, HR9.out, HL.out, hj1, hN1⟩
              case measure => simp [intOf]; omega
            · have HLL := hide (HL.out.done_other nn (.inr (.inr hq)))
              rw [he] at hW
              clear HL he
              generalize doD d nn = d1 at *
              go_wp2_with fail
              refine hW.mono ?_
              rintro e y ⟨rfl, hd1, k1⟩
              have HR := hide (HR1.out.step hd1 k1)
              obtain ⟨-, -, -, -, p4, -⟩ := box6 k1 ht3
              have HL := HLL
              have hN1 := hN
              clear HLL hd1 k1 hW HR1 hdl
              have hP := device_peek HR.out.dv (ba, bn) hbk
              rw [HL.out.look] at hP
              simp only [bkV] at hP
              have q0 := HR.out.c0
              have q1 := HR.out.c1
              simp only at q0 q1
              go_wp2_with fail
              refine hP.mono ?_
              rintro e y9 ⟨rfl, b9⟩
              have HR9 := hide (HR.out.below b9)
              clear hP HR b9 q0 q1
              go_wp2
              go_roundw
              case rel => exact ⟨k + 1, _, W, T, N, by omega, by go_num, rfl, rfl, rfl, HR9.out, HL.out, hj1, hN1⟩
              case measure => simp [intOf]; omega
          · have HLL := hide (HL.out.done_other nn (.inr (.inl hT)))
            rw [he] at hW
            clear HL he
            generalize doD d nn = d1 at *
            go_wp2_with fail
            refine hW.mono ?_
            rintro e y ⟨rfl, hd1, k1⟩
            have HR := hide (HR1.out.step hd1 k1)
            have HL := HLL
            have hN1 := hN
            clear HLL hd1 k1 hW HR1 hdl
            have hP := device_peek HR.out.dv (ba, bn) hbk
            rw [HL.out.look] at hP
            simp only [bkV] at hP
            have q0 := HR.out.c0
            have q1 := HR.out.c1
            simp only at q0 q1
            go_wp2_with fail
            refine hP.mono ?_
            rintro e y9 ⟨rfl, b9⟩
            have HR9 := hide (HR.out.below b9)
            clear hP HR b9 q0 q1
            go_wp2
            go_roundw
            case rel => exact ⟨k + 1, _, W, T, N, by omega, by go_num, rfl, rfl, rfl, HR9.out, HL.out, hj1, hN1⟩
            case measure => simp [intOf]; omega
        · have HLL := hide (HL.out.done_other nn (.inl he))
          have he' : (doE d nn == 0) = false := by simpa using he
          clear HL he
          generalize doE d nn = EE at *
          generalize doD d nn = d1 at *
          go_wp2_with fail
          refine hW.mono ?_
          rintro e y ⟨rfl, hd1, k1⟩
          have HR := hide (HR1.out.step hd1 k1)
          have HL := HLL
          have hN1 := hN
          clear HLL hd1 k1 hW HR1 hdl
          have hP := device_peek HR.out.dv (ba, bn) hbk
          rw [HL.out.look] at hP
          simp only [bkV] at hP
          have q0 := HR.out.c0
          have q1 := HR.out.c1
          simp only at q0 q1
          go_wp2_with fail
          refine hP.mono ?_
          rintro e y9 ⟨rfl, b9⟩
          have HR9 := hide (HR.out.below b9)
          clear hP HR b9 q0 q1
          go_wp2
          go_roundw
          case rel => exact ⟨k + 1, _, W, T, N, by omega, by go_num, rfl, rfl, rfl, HR9.out, HL.out, hj1, hN1⟩
          case measure => simp [intOf]; omega
      by_cases g4 : kd = 4
      · subst g4
        clear g1 g2 g3
        have hW := device_take HR1.out.dv nn HX.out.n
        have hdl := takeD_len d nn
        have hj1 : (takeD d nn).jobs.length ≤ k + 1 := by omega
        have HLL := hide (HL.out.took nn)
        clear HL
        generalize takeS d nn = SS at *
        generalize takeE d nn = EE at *
        generalize takeD d nn = d1 at *
        go_wp2_with fail
        refine hW.mono ?_
        rintro e y ⟨rfl, hd1, k1⟩
        have HR := hide (HR1.out.step hd1 k1)
        have HL := HLL
        have hN1 := hN
        clear HLL hd1 k1 hW HR1 hdl
        have hP := device_peek HR.out.dv (ba, bn) hbk
        rw [HL.out.look] at hP
        simp only [bkV] at hP
        have q0 := HR.out.c0
        have q1 := HR.out.c1
        simp only at q0 q1
        go_wp2_with fail
        refine hP.mono ?_
        rintro e y9 ⟨rfl, b9⟩
        have HR9 := hide (HR.out.below b9)
        clear hP HR b9 q0 q1
        go_wp2
        go_roundw
        case rel => exact ⟨k + 1, _, W, T, N, by omega, by go_num, rfl, rfl, rfl, HR9.out, HL.out, hj1, hN1⟩
        case measure => simp [intOf]; omega
      by_cases g5 : kd = 5
      · subst g5
        clear g1 g2 g3 g4
        have hW := device_crash HR1.out.dv po np pc pz (HX.out.sl.below ((Below.refl _ _).alloc (Nat.le_refl _) _)) HX.out.z HX.out.np (fun hn g off e hi => by have h1 := HX0.out.sl.low hn g off e; have h2 := HR1.out.lt; have h3 := hi.1; omega)
        have hdl := crashD_len d (fun i => if i < np then pz i else 0)
        have hj1 : (crashD d (fun i => if i < np then pz i else 0)).jobs.length ≤ k + 1 := by omega
        have hwsz : W.size ≤ 131072 := by rw [← HL.out.look]; exact look_small HR1.out.dv.good.it _
        by_cases he : crashE d = 0
        · obtain ⟨s1, hs1, hs2⟩ := HL.out.crashed (fun i => if i < np then pz i else 0) he
          have HLL := hide hs1
          have hss := str_same (s := s1) (t := W)
          rw [he] at hW
          clear HL he hs1
          generalize crashD d (fun i => if i < np then pz i else 0) = d1 at *
          by_cases hw : s1 = W
          · subst hw
            clear hs2 hss
            go_wp2_with fail
            refine hW.mono ?_
            rintro e y ⟨rfl, hd1, k1⟩
            have HRa := hide (HR1.out.step hd1 k1)
            have hP := device_peek HRa.out.dv (ba, bn) hbk
            rw [HLL.out.look] at hP
            simp only [bkV] at hP
            have r0 := HRa.out.c0
            have r1 := HRa.out.c1
            simp only at r0 r1
            clear hd1 k1 hW HR1 hdl
            go_wp2_with fail
            refine hP.mono ?_
            rintro e y2 ⟨rfl, b2⟩
            have HR := hide (HRa.out.below b2)
            have HL := HLL
            have hN1 := hN
            clear HLL HRa hP b2 r0 r1
            have hP := device_peek HR.out.dv (ba, bn) hbk
            rw [HL.out.look] at hP
            simp only [bkV] at hP
            have q0 := HR.out.c0
            have q1 := HR.out.c1
            simp only at q0 q1
            go_wp2_with fail
            refine hP.mono ?_
            rintro e y9 ⟨rfl, b9⟩
            have HR9 := hide (HR.out.below b9)
            clear hP HR b9 q0 q1
            go_wp2
            go_roundw
            case rel => exact ⟨k + 1, _, s1, 0, N, by omega, by go_num, rfl, rfl, rfl, HR9.out, HL.out, hj1, hN1⟩
            case measure => simp [intOf]; omega
          · have hbt : T ≠ 0 ∧ Btw s1 W N := by
              rcases hs2 with h | h
              · exact absurd h hw
              · exact h
            have hT0 : (T == 0) = false := by simpa using hbt.1
            have hB := fun x => between_yes x s1 W N hbt.2 hwsz (by omega)
            have hss' : (s1.toList == W.toList) = false := by rw [hss]; simp [hw]
            clear hs2 hss hw hbt
            go_wp2_with fail
            refine hW.mono ?_
            rintro e y ⟨rfl, hd1, k1⟩
            have HRa := hide (HR1.out.step hd1 k1)
            have hP := device_peek HRa.out.dv (ba, bn) hbk
            rw [HLL.out.look] at hP
            simp only [bkV] at hP
            have r0 := HRa.out.c0
            have r1 := HRa.out.c1
            simp only at r0 r1
            clear hd1 k1 hW HR1 hdl
            go_wp2_with fail
            refine hP.mono ?_
            rintro e y2 ⟨rfl, b2⟩
            have HRb := hide (HRa.out.below b2)
            clear HRa hP b2 r0 r1
            go_wp2_with fail
            refine (hB y2).mono ?_
            rintro e y3 ⟨rfl, b3⟩
            have HR := hide (HRb.out.below b3)
            have HL := HLL
            have hN1 := hN
            clear HLL HRb b3 hB
            have hP := device_peek HR.out.dv (ba, bn) hbk
            rw [HL.out.look] at hP
            simp only [bkV] at hP
            have q0 := HR.out.c0
            have q1 := HR.out.c1
            simp only at q0 q1
            go_wp2_with fail
            refine hP.mono ?_
            rintro e y9 ⟨rfl, b9⟩
            have HR9 := hide (HR.out.below b9)
            clear hP HR b9 q0 q1
            go_wp2
            go_roundw
            case rel => exact ⟨k + 1, _, s1, 0, N, by omega, by go_num, rfl, rfl, rfl, HR9.out, HL.out, hj1, hN1⟩
            case measure => simp [intOf]; omega
        · have he' : (crashE d == 0) = false := by simpa using he
          have hcf : crashD d (fun i => if i < np then pz i else 0) = d := crashD_fail he
          rw [hcf] at hW hj1
          clear he hcf hdl
          generalize crashE d = EE at *
          go_wp2_with fail
          refine hW.mono ?_
          rintro e y ⟨rfl, hd1, k1⟩
          have HR := hide (HR1.out.step hd1 k1)
          have hN1 := hN
          clear hd1 k1 hW HR1
          have hP := device_peek HR.out.dv (ba, bn) hbk
          rw [HL.out.look] at hP
          simp only [bkV] at hP
          have q0 := HR.out.c0
          have q1 := HR.out.c1
          simp only at q0 q1
          go_wp2_with fail
          refine hP.mono ?_
          rintro e y9 ⟨rfl, b9⟩
          have HR9 := hide (HR.out.below b9)
          clear hP HR b9 q0 q1
          go_wp2
          go_roundw
          case rel => exact ⟨k + 1, _, W, T, N, by omega, by go_num, rfl, rfl, rfl, HR9.out, HL.out, hj1, hN1⟩
          case measure => simp [intOf]; omega
      by_cases g6 : kd = 6
      · subst g6
        clear g1 g2 g3 g4 g5
        have hW := device_start HR1.out.dv
        have hj1 : (startD d).jobs.length ≤ k + 1 := by simp only [startD]; omega
        have HLL := hide HL.out.started
        clear HL
        generalize startE d = EE at *
        generalize startD d = d1 at *
        go_wp2_with fail
        refine hW.mono ?_
        rintro e y ⟨rfl, hd1, k1⟩
        have HR := hide (HR1.out.step hd1 k1)
        have HL := HLL
        have hN1 := hN
        clear HLL hd1 k1 hW HR1
        have hP := device_peek HR.out.dv (ba, bn) hbk
        rw [HL.out.look] at hP
        simp only [bkV] at hP
        have q0 := HR.out.c0
        have q1 := HR.out.c1
        simp only at q0 q1
        go_wp2_with fail
        refine hP.mono ?_
        rintro e y9 ⟨rfl, b9⟩
        have HR9 := hide (HR.out.below b9)
        clear hP HR b9 q0 q1
        go_wp2
        go_roundw
        case rel => exact ⟨k + 1, _, W, T, N, by omega, by go_num, rfl, rfl, rfl, HR9.out, HL.out, hj1, hN1⟩
        case measure => simp [intOf]; omega
      have m1 : (kd == 1) = false := by simpa using g1
      have m2 : (kd == 2) = false := by simpa using g2
      have m3 : (kd == 3) = false := by simpa using g3
      have m4 : (kd == 4) = false := by simpa using g4
      have m5 : (kd == 5) = false := by simpa using g5
      have m6 : (kd == 6) = false := by simpa using g6
      clear g1 g2 g3 g4 g5 g6
      have HR := HR1
      have hN1 := hN
      have hj1 : d.jobs.length ≤ k + 1 := by omega
      clear HR1
      have hP := device_peek HR.out.dv (ba, bn) hbk
      rw [HL.out.look] at hP
      simp only [bkV] at hP
      have q0 := HR.out.c0
      have q1 := HR.out.c1
      simp only at q0 q1
      go_wp2_with fail
      refine hP.mono ?_
      rintro e y9 ⟨rfl, b9⟩
      have HR9 := hide (HR.out.below b9)
      clear hP HR b9 q0 q1
      go_wp2
      go_roundw
      case rel => exact ⟨k + 1, _, W, T, N, by omega, by go_num, rfl, rfl, rfl, HR9.out, HL.out, hj1, hN1⟩
      case measure => simp [intOf]; omega
    · have hx : ¬ k < len ∨ (k < len ∧ ¬ k < 120) := by omega
      have HB := hide hR.bel
      clear hlt hR hL
      rcases hx with h3 | ⟨h3, h4⟩
      all_goals
        go_wp2
        go_ret
        exact ⟨rfl, HB.out⟩

set_option maxRecDepth 100000 in
theorem lifted (os : Os) (started : os.Started) (H : Type) (enc : TypeId × Value → H) :
    ReturnsInHanded {} Try.checked os 4 .any (Rows.deviceLastsSpec.pre6 enc Try.prog Try.f4 Rows.deviceLastsRow.domain false) (Rows.deviceLastsSpec.post enc Try.prog Try.f4 false true false false) := by
  refine returnsInHanded_of_change (C := Try.checked) own started (by kernel_rfl) Try.func4
    (ChangeSpec.witness6 (enc := enc) (C := Try.checked) false ⟨#[], #[.slice none 0 0, .agg #[.int .i64 0, .int .i64 0]], []⟩ 8 (by kernel_rfl) (by kernel_rfl) (by kernel_rfl) (by kernel_rfl)) ?_
  intro W base args ds gs before hval0 hW hcnd _
  have hval : ∀ (j : Nat) t v, Try.f4.params[j]? = some t → args[j]? = some v → Value.okWide Try.prog W .any base t v := hval0
  have hW' := hW
  obtain ⟨p, q, hA0, hV, rfl, hfz, hnd⟩ := hW
  have hA : DataW.TrodAll enc Try.prog W 0 (fun _ => true) true Try.f4.params.toList args.toList ds p := hA0
  rw [Try.params4] at hA hval
  obtain ⟨v0, vs0, d0, ds0, p0, q0, hargs, rfl, rfl, h0, r0⟩ := trodAll_cons hA
  obtain ⟨v1, vs1, d1, ds1, p1, q1, rfl, rfl, rfl, h1, r1⟩ := trodAll_cons r0
  obtain ⟨rfl, rfl, rfl⟩ := trodAll_nil r1
  obtain rfl : args = #[v0, v1] := by cases args; simp_all
  obtain ⟨rfl, rfl⟩ := trodVars_none hV
  have k0 := h0
  have lt0 : ∀ x ∈ p0, x.block < W.heap.size := by obtain ⟨m, hm⟩ := k0; exact DataW.trod_lt m _ _ _ hm
  have o0 := open_acts11 (hval 0 22 v0 rfl rfl) h0
  have k1 := h1
  have lt1 : ∀ x ∈ p1, x.block < W.heap.size := by obtain ⟨m, hm⟩ := k1; exact DataW.trod_lt m _ _ _ hm
  have o1 := open_bk (hval 1 32 v1 rfl rfl) h1
  clear hA0 hval0
  refine (walk W v0 o0 v1 o1).mono fun e W' ⟨he, bel⟩ => ?_
  subst he
  exact ⟨_, rfl, _, _, _, [], _, [], hW', trodAll_mk1 (shut_bool Try.underlying4 _), (trodAll_cons_mk (Below.trod laidOut (by kernel_rfl) (of_decide_eq_true (by kernel_rfl)) k0 bel lt0) (trodAll_cons_mk (Below.trod laidOut (by kernel_rfl) (of_decide_eq_true (by kernel_rfl)) k1 bel lt1) trodAll_mk0)), rfl, bel.frame _, fun h => by cases h⟩

theorem over : Rows.deviceLastsRow.holds Try.pinned (OpenSpec.ofChange Rows.deviceLastsSpec) :=
  OpenClaim.holds_of_wide 4 Try.f4 rfl rfl rfl rfl rfl rfl rfl ⟨rfl, rfl, rfl, rfl, rfl⟩ rfl rfl rfl rfl rfl (by kernel_rfl) Try.func4 (by kernel_rfl)
    (of_decide_eq_true (by kernel_rfl)) (by unfold Func.isWrapper; first | (rw [if_pos (by decide +kernel)]; kernel_rfl) | (rw [if_neg (by decide +kernel)]; exact ⟨rfl, rfl⟩))
    (fun os started H enc _ => lifted os started H enc)

theorem proved : Rows.DeviceLastsSaid := over
#print axioms proved

end Go.Proofs.Ytpjgophblgndaaa.deviceLasts
