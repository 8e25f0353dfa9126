/- Parts of the proof: Lw. -/
import Derived.Test.YtfghfbmmaclcnaaGreatJ25
namespace Go.Proofs.YtfghfbmmaclcnaaGreat
set_option maxRecDepth 20000
open Go.RowKit
theorem ad_or (n : Nat) (bits : Int) (F : Nat → Option Pg) (a : Nat) : (∃ v, a ≤ 281474976710655 ∧ F (pageN bits a % n) = some (pageN bits a, v)) ∨ (a ≤ 281474976710655 → ∀ v, F (pageN bits a % n) ≠ some (pageN bits a, v)) := by
  by_cases h : ∃ v, a ≤ 281474976710655 ∧ F (pageN bits a % n) = some (pageN bits a, v)
  · exact .inl h
  · exact .inr (fun h1 v h2 => h ⟨v, h1, h2⟩)
theorem fits_one (bits : Int) (a : Nat) (hb : 5 ≤ bits ∧ bits ≤ 9) (ha : a ≤ 281474976710655) : fitsB bits a 1 = true := by
  have h1 := off_room bits a hb ha
  have h2 := off_lt bits a hb
  unfold fitsB
  simp
  omega
section
variable {t m n : Nat} {bits : Int} {K : List (Nat × Nat)} {V : Nat → Nat → Int} {w : World} {M : Nat → Prop} {vl : Value}
/-- A word is written. -/
theorem RbIs.setWord (h : RbIs w M m n bits K V vl) (i : Nat) (hi : i < K.length) (j : Nat) (hj : j < sizeN bits) (y : Int) :
    RbIs (w.setCell ⟨(getK K i).2, j, none⟩ (.int .u64 y)) M m n bits K (updB V (getK K i).2 (updV (V (getK K i).2) j y)) vl ∧ Keeps M w (w.setCell ⟨(getK K i).2, j, none⟩ (.int .u64 y)) := by
  obtain ⟨s1, s2, s3, -⟩ := h.wd _ (getK_mem hi)
  have hc := h.ws _ (getK_mem hi)
  generalize (getK K i).2 = lb at *
  have K1 : Keeps (fun k => k = lb) w (w.setCell ⟨lb, j, none⟩ (.int .u64 y)) := (Keeps.refl (fun k => k = lb) w).setCell ⟨lb, j, none⟩ (fun _ => rfl) _
  have hm : ¬ m = lb := fun e => s2 e.symm
  refine ⟨⟨by rw [K1.cell h.lt hm]; exact h.c0, by rw [K1.cell h.lt hm]; exact h.c1, by rw [K1.cell h.lt hm]; exact h.c2, by rw [K1.frozen h.lt hm]; exact h.f2, h.hn, h.hb, own_keep h.own K1 (fun g e e' => s3 (by rw [← e']; exact e)), h.sm, h.sv, h.wd, fun x hx k hk => ⟨?_, by rw [World.frozen?_setCell]; exact (h.ws x hx k hk).2⟩, h.nd⟩, K1.wider (fun k _ e => by subst e; exact s1)⟩
  by_cases e : x.2 = lb
  · rw [e]
    by_cases e2 : k = j
    · subst e2
      rw [World.cell?_setCell_same _ _ _ (hc k hk).1]
      simp [updB, updV]
    · rw [cell_set_off _ _ _ _ (fun c => e2 c.symm), (hc k hk).1]
      simp [updB, updV, e2]
  · rw [cell_set_block _ _ _ (fun c => e c.symm), (h.ws x hx k hk).1]
    simp [updB, e]
end
/-- The page that holds an address. -/
def wordF (c : Cf) (s : Hs) (A : Nat) : Option (Nat → Int) := if A ≤ 281474976710655 then (match s.F (pageN c.b A % c.n) with
  | some x => if x.1 = pageN c.b A then some x.2 else none
  | none => none) else none
def wordE (c : Cf) (s : Hs) (A : Nat) : Int := if (wordF c s A).isSome then 0 else 7
def wordS (c : Cf) (s : Hs) (A : Nat) (W : Int) : Hs := match wordF c s A with
  | some v => { s with F := updF s.F (pageN c.b A % c.n) (some (pageN c.b A, updV v (offN c.b A) W)) }
  | none => s
section
variable {c : Cf} {s : Hs} {k : Nat}
theorem wordF_some {A : Nat} {v : Nat → Int} (h : A ≤ 281474976710655) (hF : s.F (pageN c.b A % c.n) = some (pageN c.b A, v)) : wordF c s A = some v := by
  unfold wordF
  rw [if_pos h, hF]
  simp
theorem wordF_none {A : Nat} (h : A ≤ 281474976710655 → ∀ v, s.F (pageN c.b A % c.n) ≠ some (pageN c.b A, v)) : wordF c s A = none := by
  unfold wordF
  split
  · rename_i h1
    have h2 := h h1
    generalize s.F (pageN c.b A % c.n) = z at *
    cases z with
    | none => rfl
    | some x =>
      obtain ⟨p, v⟩ := x
      have : ¬ p = pageN c.b A := fun e => h2 v (by rw [e])
      simp [this]
  · rfl
theorem Wf.word (h : Wf c s k) (hn : 2 ≤ c.n) (A : Nat) {W : Int} (hW : 0 ≤ W ∧ W < 18446744073709551616) : Wf c (wordS c s A W) k := by
  rcases ad_or c.n c.b s.F A with ⟨v, hM, hF⟩ | hno
  · unfold wordS
    rw [wordF_some hM hF]
    exact h.store (Nat.mod_lt _ (by omega)) hF rfl _ W hW
  · unfold wordS
    rw [wordF_none hno]
    exact h
end
end Go.Proofs.YtfghfbmmaclcnaaGreat
