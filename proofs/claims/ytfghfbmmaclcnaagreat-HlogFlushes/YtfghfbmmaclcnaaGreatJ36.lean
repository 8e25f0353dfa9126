/- Parts of the proof: Uz. -/
import Derived.Test.YtfghfbmmaclcnaaGreatJ33
import Derived.Test.YtfghfbmmaclcnaaGreatJ34
import Derived.Test.YtfghfbmmaclcnaaGreatJ35
namespace Go.Proofs.YtfghfbmmaclcnaaGreat
set_option maxRecDepth 20000
open Go.RowKit
/-- A log behind a call. -/
def stepS (c : Cf) (s : Hs) (x : Al) : Hs :=
  if x.kd = 1 then { s with O := takeO (sizeN c.b) s.O x.n }
  else if x.kd = 2 then turnHS c s
  else if x.kd = 3 then (helpR c s).2
  else if x.kd = 4 then shiftS c s 0 1 x.n
  else if x.kd = 5 then shiftS c s 3 2 x.n
  else if x.kd = 6 then flushS c s x.n
  else if x.kd = 7 then landS s
  else if x.kd = 8 then settleS c s
  else if x.kd = 9 then { s with dv := doD s.dv x.n }
  else if x.kd = 10 then epS c s 1 x.n
  else if x.kd = 11 then epS c s 2 x.n
  else if x.kd = 12 then epS c s 3 x.n
  else if x.kd = 13 then wordS c s x.a.toNat x.w
  else if x.kd = 15 then closeHS c s
  else s
theorem stepS_ind {c : Cf} {s : Hs} {x : Al} {p : Hs → Prop} (h1 : x.kd = 1 → p { s with O := takeO (sizeN c.b) s.O x.n }) (h2 : x.kd = 2 → p (turnHS c s)) (h3 : x.kd = 3 → p (helpR c s).2) (h4 : x.kd = 4 → p (shiftS c s 0 1 x.n)) (h5 : x.kd = 5 → p (shiftS c s 3 2 x.n)) (h6 : x.kd = 6 → p (flushS c s x.n)) (h7 : x.kd = 7 → p (landS s)) (h8 : x.kd = 8 → p (settleS c s)) (h9 : x.kd = 9 → p { s with dv := doD s.dv x.n }) (h10 : x.kd = 10 → p (epS c s 1 x.n)) (h11 : x.kd = 11 → p (epS c s 2 x.n)) (h12 : x.kd = 12 → p (epS c s 3 x.n)) (h13 : x.kd = 13 → p (wordS c s x.a.toNat x.w)) (h15 : x.kd = 15 → p (closeHS c s)) (h0 : p s) : p (stepS c s x) := by
  unfold stepS
  by_cases e1 : x.kd = 1
  · rw [if_pos e1]; exact h1 e1
  rw [if_neg e1]
  by_cases e2 : x.kd = 2
  · rw [if_pos e2]; exact h2 e2
  rw [if_neg e2]
  by_cases e3 : x.kd = 3
  · rw [if_pos e3]; exact h3 e3
  rw [if_neg e3]
  by_cases e4 : x.kd = 4
  · rw [if_pos e4]; exact h4 e4
  rw [if_neg e4]
  by_cases e5 : x.kd = 5
  · rw [if_pos e5]; exact h5 e5
  rw [if_neg e5]
  by_cases e6 : x.kd = 6
  · rw [if_pos e6]; exact h6 e6
  rw [if_neg e6]
  by_cases e7 : x.kd = 7
  · rw [if_pos e7]; exact h7 e7
  rw [if_neg e7]
  by_cases e8 : x.kd = 8
  · rw [if_pos e8]; exact h8 e8
  rw [if_neg e8]
  by_cases e9 : x.kd = 9
  · rw [if_pos e9]; exact h9 e9
  rw [if_neg e9]
  by_cases e10 : x.kd = 10
  · rw [if_pos e10]; exact h10 e10
  rw [if_neg e10]
  by_cases e11 : x.kd = 11
  · rw [if_pos e11]; exact h11 e11
  rw [if_neg e11]
  by_cases e12 : x.kd = 12
  · rw [if_pos e12]; exact h12 e12
  rw [if_neg e12]
  by_cases e13 : x.kd = 13
  · rw [if_pos e13]; exact h13 e13
  rw [if_neg e13]
  by_cases e15 : x.kd = 15
  · rw [if_pos e15]; exact h15 e15
  rw [if_neg e15]
  exact h0
section
variable {w w' : World} {o : Nat → Nat} {a : Ad} {b : Rd} {c : Cf} {s : Hs} {k : Nat}
theorem Bt.now (h : Bt w o a b c s k) : 1 ≤ s.now ∧ s.now ≤ k + 1 := by
  obtain ⟨r1, b1, r2, b2, won, lost, -, -, -, -, -, h1, h2⟩ := h.p.ep
  exact ⟨h1, h2⟩
theorem does_any (h : Bt w o a b c s k) (hw : Wf c s k) (hc : CfOk c) (hk : k ≤ 700) (x : Al) (hx : AlOk x) (h14 : x.kd ≠ 14) :
    Calls Tryz.prog 8 #[.pointer (some ⟨a.l, 0, none⟩), .pointer (some ⟨b.l, 0, none⟩), .agg #[.int .i64 x.kd, .int .i64 x.n, .int .u64 x.a, .int .u64 x.w]] w fun e w' => e = .returned (.bool true) ∧ Bq w o a b c (stepS c s x) (k + 1) w' := by
  have hnow : 1 ≤ s.now ∧ s.now ≤ 100000 := by have := h.now; omega
  unfold stepS
  by_cases e1 : x.kd = 1
  · rw [if_pos e1]; exact (does_take h hw hc hk x e1).mono (fun e w' q => ⟨q.1, q.2.more (Nat.le_succ k)⟩)
  rw [if_neg e1]
  by_cases e2 : x.kd = 2
  · rw [if_pos e2]; exact does_turn h hw hc hk hnow x e2
  rw [if_neg e2]
  by_cases e3 : x.kd = 3
  · rw [if_pos e3]; exact does_help h hw hc hk hnow x e3
  rw [if_neg e3]
  by_cases e4 : x.kd = 4
  · rw [if_pos e4]; exact does_ro h hw hc hk hnow x e4 hx.n
  rw [if_neg e4]
  by_cases e5 : x.kd = 5
  · rw [if_pos e5]; exact does_hd h hw hc hk hnow x e5 hx.n
  rw [if_neg e5]
  by_cases e6 : x.kd = 6
  · rw [if_pos e6]; exact does_flush h hw hc hk x e6
  rw [if_neg e6]
  by_cases e7 : x.kd = 7
  · rw [if_pos e7]; exact (does_land h hw hc hk hnow x e7).mono (fun e w' q => ⟨q.1, q.2.more (Nat.le_succ k)⟩)
  rw [if_neg e7]
  by_cases e8 : x.kd = 8
  · rw [if_pos e8]; exact (does_settle h hw hc hk hnow x e8).mono (fun e w' q => ⟨q.1, q.2.more (Nat.le_succ k)⟩)
  rw [if_neg e8]
  by_cases e9 : x.kd = 9
  · rw [if_pos e9]; exact (does_do h x e9 (WalkArith.wf_i64 ⟨hx.n.1, hx.n.2⟩)).mono (fun e w' q => ⟨q.1, q.2.more (Nat.le_succ k)⟩)
  rw [if_neg e9]
  by_cases e10 : x.kd = 10
  · rw [if_pos e10]; exact does_enter h x e10 hk
  rw [if_neg e10]
  by_cases e11 : x.kd = 11
  · rw [if_pos e11]; exact does_refresh h x e11
  rw [if_neg e11]
  by_cases e12 : x.kd = 12
  · rw [if_pos e12]; exact does_leave h x e12
  rw [if_neg e12]
  by_cases e13 : x.kd = 13
  · rw [if_pos e13]
    have ha := hx.a
    exact does_word h hc x x.a.toNat (by omega) (by omega) e13
  rw [if_neg e13]
  by_cases e15 : x.kd = 15
  · rw [if_pos e15]; exact does_close h hw hc hk hnow x e15
  rw [if_neg e15]
  exact (does_none h x (by omega)).mono (fun e w' q => ⟨q.1, q.2.more (Nat.le_succ k)⟩)
theorem Wf.step (h : Wf c s k) (hc : CfOk c) (x : Al) (hx : AlOk x) : Wf c (stepS c s x) (k + 1) := by
  have hk := Nat.le_succ k
  exact stepS_ind (p := fun S => Wf c S (k + 1)) (fun _ => (h.tailO _).more hk) (fun _ => h.turn hc) (fun _ => h.help hc.hs.2) (fun _ => (h.shift hc.hs.2 0 1 _ (.inl ⟨rfl, rfl⟩)).more hk) (fun _ => (h.shift hc.hs.2 3 2 _ (.inr ⟨rfl, rfl⟩)).more hk) (fun _ => h.flush _) (fun _ => (h.land hc.hs.2).more hk) (fun _ => h.settle.more hk)
    (fun _ => (h.do _).more hk) (fun _ => (h.table _ _).more hk) (fun _ => (h.table _ _).more hk) (fun _ => (h.table _ _).more hk) (fun _ => (h.word hc.hn.1 _ ⟨hx.w.1, by have := hx.w.2; omega⟩).more hk) (fun _ => h.close hc) (h.more hk)
/-- What a session sees behind a call. -/
def stepH (c : Cf) (s : Hs) (x : Al) (H : Nat → Nat) : Nat → Nat := if (x.kd = 10 ∨ x.kd = 11) ∧ 0 ≤ x.n ∧ (stepS c s x).v x.n.toNat = s.now then updN H x.n.toNat (s.m 3) else H
theorem Gd.step {H : Nat → Nat} (h : Gd c s H) (hw : Wf c s k) (x : Al) : Gd c (stepS c s x) (stepH c s x H) := by
  have ho := hw.ord
  unfold stepH
  by_cases e10 : x.kd = 10
  · have e : stepS c s x = epS c s 1 x.n := by unfold stepS; simp [e10]
    have := h.table ho 1 x.n (by omega)
    rw [e]
    simpa [e10] using this
  by_cases e11 : x.kd = 11
  · have e : stepS c s x = epS c s 2 x.n := by unfold stepS; simp [e11]
    have := h.table ho 2 x.n (by omega)
    rw [e]
    simpa [e11] using this
  rw [if_neg (by omega)]
  exact stepS_ind (p := fun S => Gd c S H) (fun _ => h.same rfl rfl rfl rfl rfl) (fun _ => h.turn) (fun _ => h.help) (fun _ => h.shift 0 1 _ (.inl ⟨rfl, rfl⟩)) (fun _ => h.shift 3 2 _ (.inr ⟨rfl, rfl⟩)) (fun _ => h.flush _) (fun _ => h.land) (fun _ => h.settle)
    (fun _ => h.same rfl rfl rfl rfl rfl) (fun e => absurd e e10) (fun e => absurd e e11) (fun _ => by
      have := h.table ho 3 x.n (by omega)
      rw [if_neg (by omega)] at this
      exact this) (fun _ => h.word _ _) (fun _ => h.close) h
theorem Fk.step {KW : Nat → Nat → Int} (h : Fk c s KW) (hw : Wf c s k) (hc : CfOk c) (x : Al) (hx : x.kd = 13 → s.m 1 ≤ pageN c.b x.a.toNat) : Fk c (stepS c s x) (KWn KW (s.m 1) c.n (stepS c s x).F) := by
  have hn := hc.hn.1
  have hs := h.same hw
  exact stepS_ind (p := fun S => Fk c S (KWn KW (s.m 1) c.n S.F)) (fun _ => (hs _).pages rfl rfl rfl (fun _ _ _ e => e)) (fun _ => h.turn hw hc) (fun _ => h.help hw hn hc.hs.2) (fun _ => h.shift hw hn hc.hs.2 0 1 _ (.inl ⟨rfl, rfl⟩)) (fun _ => h.shift hw hn hc.hs.2 3 2 _ (.inr ⟨rfl, rfl⟩)) (fun _ => (hs _).flush hw _) (fun _ => (hs _).land hw) (fun _ => h.settle hw hn)
    (fun _ => (hs _).do hw _) (fun _ => (hs _).pages rfl rfl rfl (fun _ _ _ e => e)) (fun _ => (hs _).pages rfl rfl rfl (fun _ _ _ e => e)) (fun _ => (hs _).pages rfl rfl rfl (fun _ _ _ e => e)) (fun e13 => (hs _).word _ _ (hx e13)) (fun _ => h.close hw hc) (hs _)
end
end Go.Proofs.YtfghfbmmaclcnaaGreat
