/- The program's index: the next bucket, the chain of one. -/
import Derived.Test.YtmpnbaiolmkhlaaIm
namespace Go.Proofs.Ytmpnbaiolmkhlaa
set_option maxRecDepth 20000
open Go.RowKit
set_option maxHeartbeats 1000000 in
theorem px_next_no {w : World} {x rr rb tr tb B S : Nat} {g : Nat → Nat} {T won lost : Nat} {lk : Int} (h : PxIs w x rr rb tr tb B S g T won lost lk) (b : Nat) (hb : b < B + S) (hG : g (8 * b + 7) = 0) :
    Calls Try.prog 64 #[.pointer (some ⟨x, 0, none⟩), .int .i64 (b : Int)] w fun e w' => e = .returned (.tuple #[.int .i64 0, .bool false]) ∧ ∃ k, w' = w.drewN k := by
  have hbs := h.bs
  have HLO := hide (px_linkOf b (by omega))
  have HLD := hide (fun n => rload (w := w.drewN n) (h.row.drew n) (8 * b + 7) (by omega) 0 (by unfold ixI; rw [hG]; rfl))
  have c2 := h.c2
  clear h hG
  go_enter Try.func64, Try.ntmps64
  go_wp2_with fail
  go_quiet ((first | (go_at_call 60; exact Calls.quiet_of_same (HLO.out _)) | (go_at_call 53; exact Calls.quiet_of_same (HLD.out _))))
  go_wp2
  go_ret2
  exact ⟨rfl, _, rfl⟩
set_option maxHeartbeats 1000000 in
theorem px_next_yes {w : World} {x rr rb tr tb B S : Nat} {g : Nat → Nat} {T won lost : Nat} {lk : Int} (h : PxIs w x rr rb tr tb B S g T won lost lk) (b y : Nat) (hb : b < B + S) (hG : g (8 * b + 7) = y + 1) (hy : y < B + S) :
    Calls Try.prog 64 #[.pointer (some ⟨x, 0, none⟩), .int .i64 (b : Int)] w fun e w' => e = .returned (.tuple #[.int .i64 (y : Int), .bool true]) ∧ ∃ k, w' = w.drewN k := by
  have hbs := h.bs
  have HLO := hide (px_linkOf b (by omega))
  obtain ⟨G, hGG⟩ : ∃ G : Nat, y + 1 = G := ⟨_, rfl⟩
  have HLD := hide (fun n => rload (w := w.drewN n) (h.row.drew n) (8 * b + 7) (by omega) (G : Int) (by unfold ixI; rw [hG, hGG]))
  have HA := hide (fun n => px_all (w := w.drewN n) (x := x) (B := B) (S := S) h.c0 h.c1 (by omega))
  have c2 := h.c2
  have h1 : ((G : Int) == 0) = false := by rw [beq_eq_false_iff_ne]; omega
  have h2 : (G : Int) - 1 = (y : Int) := by omega
  have h3 : G ≤ B + S := by omega
  have h4 : IntKind.u64.wrap ((B + S : Nat) : Int) = ((B + S : Nat) : Int) := IntWalk.u64_in _ (by omega)
  have h5 : IntKind.u64.wrap (y : Int) = (y : Int) := IntWalk.u64_in _ (by omega)
  have h6 : wrap64 (y : Int) = (y : Int) := IntWalk.wrap64_in _ (by omega)
  clear h hG hGG
  generalize B + S = n at *
  go_enter Try.func64, Try.ntmps64
  go_wp2_with fail
  go_quiet ((first | (go_at_call 60; exact Calls.quiet_of_same (HLO.out _)) | (go_at_call 53; exact Calls.quiet_of_same (HLD.out _))))
  go_wp2_with fail
  refine (HA.out _).mono ?_
  rintro e z ⟨rfl, k, rfl⟩
  go_wp2
  go_ret2
  exact ⟨by first | rfl | simp [h6], nq + k, rfl⟩
set_option maxHeartbeats 2000000 in
theorem px_chain {w : World} {x rr rb tr tb B S : Nat} {g : Nat → Nat} {T won lost : Nat} {lk : Int} (h : PxIs w x rr rb tr tb B S g T won lost lk) {b : Nat} {l : List Nat} (hp : IxPath g b l) (hl : l.length ≤ B + S) (hlt : ∀ y ∈ l, y < B + S) :
    Calls Try.prog 23 #[.pointer (some ⟨x, 0, none⟩), .int .i64 (b : Int)] w fun e w' => ∃ v, e = .returned v ∧ w'.ownsRow w.heap.size 3 1 v l.length (intsN l) ∧ Below w.heap.size w w' := by
  obtain ⟨i0, hi, hz0, hz1, hz2⟩ := info_parts Try.infoInt
  have hpos := hp.pos
  have hb : b < B + S := by have := hlt _ (getD_mem hpos); rw [hp.zero] at this; exact this
  have hbs := h.bs
  have H := hide h
  have HH := hide (px_has h b hb)
  have HP := hide hp
  have HL := hide hlt
  have HZ : Hid (l.getD 0 0 = b) := hp.zero
  clear hp hlt h
  generalize hll : l.length = n at *
  go_enter Try.func23, Try.ntmps23
  go_wp2_with fail
  refine HH.out.mono ?_
  rintro e y ⟨rfl, k0, rfl⟩
  have hO : (w.drewN k0).ownsRow w.heap.size 3 1 (.slice none 0 0) 0 (intsN (l.take 0)) := ⟨by simp [intsN], .inl ⟨rfl, rfl⟩⟩
  have R := below_drewN (Below.refl w.heap.size w) k0
  clear HH
  go_wp2
  go_loopw [1, 5, 6] (fun vb vo vk wr => ∃ (k : Nat) (ao : Option Addr) (cap0 : Nat), k ≤ n ∧ vo = .slice ao k cap0 ∧ vb = .int .i64 (if k < n then (l.getD k 0 : Int) else 0) ∧ vk = .bool (decide (k < n)) ∧ wr.ownsRow w.heap.size 3 1 vo k (intsN (l.take k)) ∧ Below w.heap.size w wr)
    (fun _ vo _ _ => n - (match vo with | .slice _ n _ => n | _ => 0) + 0)
  case atStart => exact ⟨0, _, _, by omega, rfl, by rw [if_pos hpos, HZ.out], by simp [hpos], hO, R⟩
  case round =>
    clear hO R HZ
    obtain ⟨k, ao, cap0, hk, rfl, rfl, rfl, hown, hbel⟩ := hrel
    by_cases hlt : k < n
    · rw [if_pos hlt, decide_eq_true hlt]
      have hsz := hbel.size
      have hRw := H.out.below hbel
      have HA := hide (fun q => px_all (w := wr.drewN q) (x := x) (B := B) (S := S) hRw.c0 hRw.c1 (by omega))
      have hx := HL.out _ (getD_mem (l := l) (j := k) (by omega))
      have hkS : (k : Int) < ((B + S : Nat) : Int) := by omega
      have HT : Hid (intsN (l.take (k + 1)) = intsN (l.take k) ++ [Value.int .i64 ((l.getD k 0 : Nat) : Int)]) := by
        show _ = _
        rw [List.take_succ_eq_append_getElem (by omega), intsN_snoc, List.getD_eq_getElem?_getD, List.getElem?_eq_getElem (by omega)]; rfl
      have HNX : Hid (∀ Z, PxIs Z x rr rb tr tb B S g T won lost lk → Calls Try.prog 64 #[.pointer (some ⟨x, 0, none⟩), .int .i64 (l.getD k 0 : Int)] Z fun e w' => e = .returned (.tuple #[.int .i64 (if k + 1 < n then (l.getD (k + 1) 0 : Int) else 0), .bool (decide (k + 1 < n))]) ∧ ∃ k, w' = Z.drewN k) := fun Z hZ => by
        by_cases h1 : k + 1 < n
        · have hG := HP.out.on k (by omega)
          have hy := HL.out _ (getD_mem (l := l) (j := k + 1) (by omega))
          rw [if_pos h1, decide_eq_true h1]
          exact px_next_yes hZ _ _ hx hG hy
        · have hz := HP.out.end
          have ek : ixLast l = l.getD k 0 := by unfold ixLast; rw [show l.length - 1 = k by omega]
          rw [ek] at hz
          rw [if_neg h1, decide_eq_false h1]
          exact px_next_no hZ _ hx hz
      clear hRw
      obtain ⟨u, HU⟩ : ∃ u, Hid (l.getD k 0 = u) := ⟨_, rfl⟩
      rw [HU.out] at HNX HT hx ⊢
      obtain ⟨nb, HNB⟩ : ∃ nb : Int, Hid ((if k + 1 < n then (l.getD (k + 1) 0 : Int) else 0) = nb) := ⟨_, rfl⟩
      obtain ⟨ok, HOK⟩ : ∃ ok, Hid (decide (k + 1 < n) = ok) := ⟨_, rfl⟩
      rw [HNB.out, HOK.out] at HNX
      have hn5 : n ≤ 1088 := by omega
      generalize B + S = m at *
      go_wp2_with fail
      refine (HA.out 0).mono ?_
      rintro e z ⟨rfl, q, rfl⟩
      have hbz := below_drewN (Below.refl wr.heap.size wr) (0 + q)
      have hownz : (wr.drewN (0 + q)).ownsRow w.heap.size 3 1 (.slice ao k cap0) k (intsN (l.take k)) := hown
      have hbelz := hbel.trans (hbz.mono hbel.size)
      clear hown hbel hbz HA
      rw [← drewN_drewN] at hownz hbelz
      generalize (wr.drewN 0).drewN q = Z at *
      have hown3 := hownz.alloc (.cells #[.int .i64 (u : Int)] 3)
      have hsz2 := hbelz.size
      go_wp2_with (at_builtin; refine wpList_append_own _ rfl _ _ 59 rfl w.heap.size 3 i0 (.int .i64 0) 1 8 Try.underlying59 hi hz0 hz1 hz2 rfl (by decide) _ _ _ rfl hown3 ⟨Z.heap.size, 0, none⟩ 1 1 [.int .i64 (u : Int)] rfl rfl ?c1 ?c2 ?c3 ?c4 ?c5 ?_)
      case c1 => exact cell_one _ _ _
      case c2 => exact one_int
      case c3 => unfold maxLen; omega
      case c4 => omega
      case c5 => simp; omega
      intro v' w1 hown' hgrow _
      have R := grow_step hownz hsz2 hbelz hgrow
      obtain ⟨q', cap', rfl, _, _⟩ := own_form hown' (by omega)
      have hNX := HNX.out w1 (H.out.below R)
      clear hgrow hownz hown3 hbelz
      go_wp2_with fail
      refine hNX.mono ?_
      rintro e z2 ⟨rfl, q2, rfl⟩
      go_wp2
      go_roundw
      case rel => exact ⟨k + 1, _, _, by omega, rfl, by rw [HNB.out], by rw [HOK.out], by rw [HT.out]; exact hown', R.trans ((below_drewN (Below.refl _ _) _).mono R.size)⟩
      case measure => simp; omega
    · have e : k = n := by omega
      subst e
      rw [decide_eq_false hlt]
      rw [List.take_of_length_le (by omega)] at hown
      go_wp2
      go_ret
      exact ⟨_, rfl, hown, hbel⟩
end Go.Proofs.Ytmpnbaiolmkhlaa
