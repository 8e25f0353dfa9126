/- Parts of the proof: Lh. -/
import Derived.Test.YtfghfbmmaclcnaaGreatJ42
namespace Go.Proofs.YtfghfbmmaclcnaaGreat
set_option maxRecDepth 20000
open Go.RowKit
theorem Tryz.infoU64s15 : (Tryz.prog.info? 51).map (fun i => (i.zero, i.size, i.bytes)) = some (some (.slice none 0 0), 1, 24) := by kernel_rfl
section
variable {w : World} {S : Nat → Prop} {t fb n : Nat} {bits : Int} {c : Nat} {g : Nat → Nat × Nat} {o : Nat → Nat} {F : Nat → Option Pg}
set_option maxHeartbeats 400000 in
theorem pb_page_new (h : PbIs w S t fb n bits c g o F) (P : Nat) (v : Nat → Int) (hP : F (P % n) = some (P, v)) :
    Calls Tryz.prog 18 #[.pointer (some ⟨t, 0, none⟩), .int .i64 (P : Int)] w fun e w' => ∃ b, e = .returned (.tuple #[.slice (some ⟨b, 0, none⟩) (sizeN bits) (sizeN bits), .int .i64 0]) ∧ Sl .u64 w' (some ⟨b, 0, none⟩) (sizeN bits) v ∧ w.heap.size ≤ b ∧ Below w.heap.size w w' := by
  have hsz := sizeN_bounds bits
  go_enter Tryz.func18, Tryz.ntmps18
  go_wp2_with fail
  refine (pb_row_yes h P v hP).mono ?_
  rintro e x ⟨rfl, m, rfl⟩
  have b1 := below_drewN (Below.refl w.heap.size w) m
  have h1 := h.below b1
  obtain ⟨won, lost, hw, hl, hR⟩ := h1.row _ (h.mod_lt _) _ v hP
  have hst := rwords hR (by omega) 0 (sizeN bits) (by omega)
  have hlen := len_any _ _ _ _ _ hR.c0
  clear h h1 hR
  go_wp2_with fail
  refine hlen.mono ?_
  rintro e x2 ⟨rfl, rfl⟩
  go_wp2_with fail
  refine hst.mono ?_
  rintro e x2 ⟨b, rfl, hs, hb, b3⟩
  have hb' : w.heap.size ≤ b := by simpa using hb
  replace b3 := b1.trans (b3.mono b1.size)
  have hs' : Sl .u64 x2 (some ⟨b, 0, none⟩) (sizeN bits) v := by simpa using hs
  clear hst hlen hs hb
  go_wp2
  go_ret2
  exact ⟨b, rfl, hs', hb', b3⟩
end
section
variable {w W W' : World} {o : Nat → Nat} {a : Ad} {b : Rd} {c : Cf} {s : Hs} {KW : Nat → Nat → Int} {L : Nat → Nat} {V : Nat → Nat → Int} {g k p : Nat}
theorem hl_pageN (h : Hp w o a c s k) (p : Nat) (v : Nat → Int) (hv : s.F (p % c.n) = some (p, v)) : Calls Tryz.prog 18 #[.pointer (some ⟨a.bt, 0, none⟩), .int .i64 (p : Int)] w fun e w' => ∃ b, e = .returned (.tuple #[.slice (some ⟨b, 0, none⟩) (sizeN c.b) (sizeN c.b), .int .i64 0]) ∧ Sl .u64 w' (some ⟨b, 0, none⟩) (sizeN c.b) v ∧ w.heap.size ≤ b ∧ Below w.heap.size w w' := by
  obtain ⟨fb, g, oo, hp⟩ := h.pb
  exact pb_page_new hp p v hv
theorem hl_peek (h : Hp w o a c s k) (p : Nat) (hp : p < 64) (t : ByteArray) (ht : lookL s.dv.items (0, (p : Int)) = some t) : Calls Tryz.prog 20 #[.pointer (some ⟨a.vt + 3, 0, none⟩), .agg #[.int .i64 0, .int .i64 (p : Int)]] w fun e w' => e = .returned (.tuple #[.string t, .bool true]) ∧ Below w.heap.size w w' := by
  have := device_peek h.dv (0, (p : Int)) ⟨WalkArith.wf_i64 ⟨(show -9223372036854775808 ≤ (0 : Int) by decide), (show (0 : Int) ≤ 9223372036854775807 by decide)⟩, WalkArith.wf_i64 ⟨by simp only; omega, by simp only; omega⟩⟩
  rw [ht] at this
  exact this
theorem unpack_txt (c : Cf) (hb : 5 ≤ c.b ∧ c.b ≤ 9) (p : Nat) (hp : p < 64) (v : Nat → Int) (hv : ∀ j, j < sizeN c.b → 0 ≤ v j ∧ v j < 18446744073709551616) (w : World) :
    Calls Tryz.prog 21 #[.string (txt c p v)] w fun e w' => ∃ ao, e = .returned (.tuple #[.int .i64 (p : Int), .slice ao (sizeN c.b) (sizeN c.b), .int .i64 0]) ∧ Sl .u64 w' ao (sizeN c.b) (fun j => (((v j).toNat : Nat) : Int)) ∧ Below w.heap.size w w' := by
  have hs := sizeN_bounds c.b
  have hsp := sizeN_pos hb
  have hlen : (listN (fun j => (v j).toNat) (sizeN c.b)).length = sizeN c.b := listN_length _ _
  have hval : ∀ j, j < (listN (fun j => (v j).toNat) (sizeN c.b)).length → (listN (fun j => (v j).toNat) (sizeN c.b))[j]?.getD 0 < 18446744073709551616 := fun j hj => by
    rw [hlen] at hj
    rw [listN_get _ _ _ hj]
    have := hv j hj
    omega
  have h512 : sizeN c.b ≤ 512 := by omega
  have hok := frT_ok p _ hp (by omega) (by omega) hval
  have h0 : wordAt (frT p (listN (fun j => (v j).toNat) (sizeN c.b))) 0 = p := by rw [frT_word p _ (by omega) (by omega) hval 0 (by omega)]; rfl
  refine (unpack_yes (frT p (listN (fun j => (v j).toNat) (sizeN c.b))) (sizeN c.b) p w hok (by rw [frT_length, hlen]) h0).mono ?_
  rintro e w' ⟨ao, rfl, hsl, hb2⟩
  refine ⟨ao, rfl, fun j hj => ?_, hb2⟩
  obtain ⟨q, off, e, hc⟩ := hsl j hj
  refine ⟨q, off, e, ?_⟩
  rw [hc]
  show some (Value.int .u64 ((wordAt (frT p (listN (fun j => (v j).toNat) (sizeN c.b))) (j + 2) : Nat) : Int)) = _
  rw [frT_word p _ (by omega) (by omega) hval (j + 2) (by omega)]
  show some (Value.int .u64 (((listN (fun j => (v j).toNat) (sizeN c.b))[j]?.getD 0 : Nat) : Int)) = _
  rw [listN_get _ _ _ hj]
/-- Where the mark of what is safe rises, that of what is flushed stays. -/
theorem flushS_m (c : Cf) (s : Hs) (p : Int) : (flushS c s p).m = s.m := by
  unfold flushS
  split
  · split <;> rfl
  · rfl
theorem settleS_two' (hw : Wf c s k) : (settleS c s).m 2 = s.m 2 := (settle_rs hw.ord hw.top (readyL (safeN c s : Int) s.due)).two
theorem shiftS_two' (hw : Wf c s k) (mk kd page : Int) (hm : mk = 0 ∨ mk = 3) : (shiftS c s mk kd page).m 2 = s.m 2 := by
  unfold shiftS
  split
  · have hr : Rs s.P s.m (raiseV s.m mk page (s.P : Int)) := by
      rcases hm with rfl | rfl
      · exact raise_rs hw.ord hw.top 0 (by omega) page
      · exact raise_rs hw.ord hw.top 3 (by omega) page
    exact ((settle_rs (P := s.P) hr.ord hr.top (readyL (safeN c (bumpS s mk kd page) : Int) (bumpS s mk kd page).due)).two).trans hr.two
  · rfl
theorem helpR_two' (hw : Wf c s k) : (helpR c s).2.m 2 = s.m 2 := by
  unfold helpR
  split
  · rfl
  split
  · rfl
  split
  · exact shiftS_two' hw _ _ _ (.inr rfl)
  split
  · split
    · rw [flushS_m]
    · rfl
  split
  · exact shiftS_two' hw _ _ _ (.inl rfl)
  · rfl
theorem goS_two' (hw : Wf c s k) : (goS c s).m 2 = s.m 2 := by
  unfold goS
  split
  · rfl
  split
  · exact helpR_two' hw
  · rfl
theorem stepS_safe (hw : Wf c s k) (x : Al) : (stepS c s x).m 1 = s.m 1 ∨ (stepS c s x).m 2 = s.m 2 :=
  stepS_ind (p := fun S => S.m 1 = s.m 1 ∨ S.m 2 = s.m 2) (fun _ => .inl rfl) (fun _ => .inr (by unfold turnHS; split; rfl; exact goS_two' hw)) (fun _ => .inr (helpR_two' hw)) (fun _ => .inr (shiftS_two' hw _ _ _ (.inl rfl))) (fun _ => .inr (shiftS_two' hw _ _ _ (.inr rfl))) (fun _ => .inr (by rw [flushS_m])) (fun _ => .inl (upM_other s.m 2 1 (upTo (landL s.dv s.L) (s.m 2) 64) (by decide))) (fun _ => .inr (settleS_two' hw)) (fun _ => .inl rfl) (fun _ => .inl rfl) (fun _ => .inl rfl) (fun _ => .inl rfl) (fun _ => .inl (by
    unfold wordS
    split <;> rfl)) (fun _ => .inr (by unfold closeHS; split; rfl; exact goS_two' hw)) (.inl rfl)
theorem regA_pg {A : Nat} (ho : OrdM s.m) (h : regA c s A = 1 ∨ regA c s A = 2) : s.m 1 ≤ pageN c.b A := by
  unfold regA regionN at h
  unfold OrdM at ho
  split at h
  · split at h; · omega
    split at h; · omega
    split at h; · omega
    split at h <;> omega
  · omega
/-- Both, and the rows of the pages below p. -/
structure FB (w : World) (a : Ad) (b : Rd) (c : Cf) (g : Nat) (o : Nat → Nat) (s : Hs) (KW : Nat → Nat → Int) (L : Nat → Nat) (V : Nat → Nat → Int) (W : World) (k p : Nat) : Prop where
  bt : Bt W o a b c s k
  wf : Wf c s k
  fk : Fk c s KW
  rw' : RwsAt W o g 64 .u64 L V
  kp : ∀ q, q < p → L q = sizeN c.b ∧ ∀ j, j < sizeN c.b → V q j = KW q j
  ob : ∀ x, o x ≠ 0 → w.heap.size ≤ x
  bw : Below w.heap.size w W
  gw : w.heap.size ≤ g
def FI (w : World) (a : Ad) (b : Rd) (c : Cf) (g : Nat) (W : World) (k : Nat) : Prop := ∃ o s KW L V, FB w a b c g o s KW L V W k (s.m 1)
theorem FB.below (h : FB w a b c g o s KW L V W k p) (hb : Below W.heap.size W W') : FB w a b c g o s KW L V W' k p :=
  ⟨h.bt.below hb, h.wf, h.fk, h.rw'.below hb, h.kp, h.ob, h.bw.trans (hb.mono h.bw.size), h.gw⟩
theorem FB.more (h : FB w a b c g o s KW L V W k p) {k' : Nat} (hk : k ≤ k') : FB w a b c g o s KW L V W k' p := ⟨h.bt.more hk, h.wf.more hk, h.fk, h.rw', h.kp, h.ob, h.bw, h.gw⟩
theorem FB.less (h : FB w a b c g o s KW L V W k p) {p' : Nat} (hp : p' ≤ p) : FB w a b c g o s KW L V W k p' := ⟨h.bt, h.wf, h.fk, h.rw', fun q hq => h.kp q (by omega), h.ob, h.bw, h.gw⟩
theorem FI.below (h : FI w a b c g W k) (hb : Below W.heap.size W W') : FI w a b c g W' k := by
  obtain ⟨o, s, KW, L, V, h1⟩ := h
  exact ⟨o, s, KW, L, V, h1.below hb⟩
theorem FI.more (h : FI w a b c g W k) {k' : Nat} (hk : k ≤ k') : FI w a b c g W k' := by
  obtain ⟨o, s, KW, L, V, h1⟩ := h
  exact ⟨o, s, KW, L, V, h1.more hk⟩
theorem FB.step (h : FB w a b c g o s KW L V W k (s.m 1)) (hc : CfOk c) (x : Al) (hx : AlOk x) (h13 : x.kd = 13 → s.m 1 ≤ pageN c.b x.a.toNat) (q : Bq W o a b c (stepS c s x) (k + 1) W') :
    ∃ o', FB w a b c g o' (stepS c s x) (KWn KW (s.m 1) c.n (stepS c s x).F) L V W' (k + 1) (s.m 1) := by
  obtain ⟨o', h1, h2, h3⟩ := q
  refine ⟨o', h1, h.wf.step hc x hx, h.fk.step h.wf hc x h13, h.rw'.keep h3 h2, fun r hr => ?_, fun y hy => ?_, h.bw.trans (h3.below h.bw.size (fun y hy => h.ob y hy)), h.gw⟩
  · obtain ⟨e1, e2⟩ := h.kp r hr
    exact ⟨e1, fun j hj => by unfold KWn; rw [if_pos hr]; exact e2 j hj⟩
  · by_cases e : y < W.heap.size
    · exact h.ob y (by rw [← h2 y e]; exact hy)
    · have h4 := h.bw.size
      omega
/-- One page more is kept. -/
theorem FB.put (h : FB w a b c g o s KW L V W k p) (hb : Below W.heap.size W W') {r : Nat} {v : Nat → Int} (hs : Sl .u64 W' (some ⟨r, 0, none⟩) (sizeN c.b) v) (hr : W.heap.size ≤ r) (hv : ∀ j, j < sizeN c.b → v j = KW p j) (hp : p < 64) :
    FB w a b c g o s KW (fun j => if j = p then sizeN c.b else L j) (fun j q => if j = p then v q else V j q) (W'.setCell ⟨g, p, none⟩ (.slice (some ⟨r, 0, none⟩) (sizeN c.b) (sizeN c.b))) k (p + 1) := by
  have h1 := h.below hb
  have hk : Keeps (fun x => x = g) W' (W'.setCell ⟨g, p, none⟩ (.slice (some ⟨r, 0, none⟩) (sizeN c.b) (sizeN c.b))) := (Keeps.refl (fun x => x = g) W').setCell _ (fun _ => rfl) _
  have hgl := h.rw'.lt
  obtain ⟨-, ao, cap, hrc, -⟩ := h1.rw'.row p hp
  refine ⟨h1.bt.keep hk (fun x e => by rw [e]; exact h1.rw'.og), h1.wf, h1.fk, h1.rw'.setRow hk p (fun j _ hne => by rw [cell_set_off _ _ _ _ (fun e => hne e.symm)]) (fun j _ => by rw [World.frozen?_setCell]) (fun j hj => by simp [hj]) ?_, fun q hq => ?_, h1.ob, h1.bw.trans (hk.below h1.bw.size (fun x e => by have := h1.gw; omega)), h1.gw⟩
  · refine ⟨some ⟨r, 0, none⟩, sizeN c.b, by simp only [if_true]; exact World.cell?_setCell_same _ _ _ hrc, fun j hj => ?_⟩
    simp only [if_true] at hj ⊢
    obtain ⟨q, off, e, hc⟩ := hs j hj
    cases e
    refine ⟨r, 0, rfl, by rw [cell_set_block _ _ _ (show g ≠ r by omega)]; exact hc, ?_, by omega⟩
    by_cases e0 : o r = 0
    · exact e0
    · have := h.bt.p.sz r e0; omega
  · by_cases e : q = p
    · subst e
      simp only [if_true]
      exact ⟨trivial, fun j hj => hv j hj⟩
    · simp only [if_neg e]
      exact h.kp q (by omega)
end
end Go.Proofs.YtfghfbmmaclcnaaGreat
