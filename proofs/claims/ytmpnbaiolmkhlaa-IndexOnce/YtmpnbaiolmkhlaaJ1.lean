/- The plain layout, laid seven words at a time. No Go in sight. -/
import Derived.Test.YtmpnbaiolmkhlaaIm
namespace Go.Proofs.Ytmpnbaiolmkhlaa
set_option maxRecDepth 20000
def ixApp (K : Nat → List Nat) (b : Nat) (ws : List Nat) : Nat → List Nat := fun j => if j = b then K b ++ ws else K j
theorem ixApp_same (K : Nat → List Nat) (b : Nat) (ws : List Nat) : ixApp K b ws b = K b ++ ws := by simp [ixApp]
theorem ixApp_ne {K : Nat → List Nat} {b : Nat} {ws : List Nat} {j : Nat} (h : j ≠ b) : ixApp K b ws j = K j := by simp [ixApp, h]
theorem ixApp_nil (K : Nat → List Nat) (b : Nat) : ixApp K b [] = K := by
  funext j
  by_cases e : j = b
  · subst e; simp [ixApp]
  · rw [ixApp_ne e]
theorem ixApp_add (K : Nat → List Nat) (b : Nat) (ws : List Nat) (x : Nat) : ixAdd (ixApp K b ws) b x = ixApp K b (ws ++ [x]) := by
  funext j
  by_cases e : j = b
  · subst e; rw [ixAdd_same, ixApp_same, ixApp_same, List.append_assoc]
  · rw [ixAdd_ne e, ixApp_ne e, ixApp_ne e]
def ixFill (g : Nat → Nat) (a : Nat) (ws : List Nat) : Nat → Nat := fun j => if a ≤ j ∧ j < a + ws.length then ws.getD (j - a) 0 else g j
theorem ixFill_nil (g : Nat → Nat) (a : Nat) : ixFill g a [] = g := by
  funext j
  unfold ixFill
  rw [if_neg (by simp)]
theorem ixFill_snoc (g : Nat → Nat) (a : Nat) (ws : List Nat) (x : Nat) : ixFill g a (ws ++ [x]) = ixUpd (ixFill g a ws) (a + ws.length) x := by
  funext j
  unfold ixFill ixUpd
  by_cases e : j = a + ws.length
  · subst e
    rw [if_pos rfl, if_pos (by simp), getD_snoc, if_pos (by omega)]
  · rw [if_neg e]
    show _ = if a ≤ j ∧ j < a + ws.length then ws.getD (j - a) 0 else g j
    by_cases h : a ≤ j ∧ j < a + ws.length
    · rw [if_pos h, if_pos (by simp; omega), getD_snoc, if_neg (by omega)]
    · rw [if_neg h, if_neg (by simp; omega)]
theorem ixFill_fillV (g : Nat → Nat) (a : Nat) (ws : List Nat) (z : Nat → Int) (hz : ∀ t, t < ws.length → z t = (ws.getD t 0 : Int)) : fillV (ixI g) a ws.length z = ixI (ixFill g a ws) := by
  funext j
  unfold fillV ixI ixFill
  by_cases h : a ≤ j ∧ j < a + ws.length
  · rw [if_pos h, if_pos h, hz _ (by omega)]
  · rw [if_neg h, if_neg h]
theorem take_snocD (l : List Nat) (m : Nat) (h : m < l.length) : l.take (m + 1) = l.take m ++ [l.getD m 0] := by
  rw [List.take_succ_eq_append_getElem h, List.getD_eq_getElem?_getD, List.getElem?_eq_getElem h]; rfl
section
variable {B n : Nat} {K : Nat → List Nat} {g : Nat → Nat} {b : Nat}
/-- The first words of a chain. -/
theorem IxLay.app0 (h : IxLay B n K g) (hb : b < B) (hk : K b = []) (ws : List Nat) (hw : ws.length ≤ 7) : ∀ m, m ≤ ws.length →
    IxLay B n (ixApp K b (ws.take m)) (ixFill g (8 * b) (ws.take m)) ∧ ixOff (ixApp K b (ws.take m)) B = ixOff K B ∧ ixExt (ixApp K b (ws.take m) b).length = 0 := by
  intro m
  induction m with
  | zero => intro _; rw [List.take_zero, ixApp_nil, ixFill_nil]; exact ⟨h, rfl, by rw [hk]; rfl⟩
  | succ m ih =>
    intro hm
    obtain ⟨h1, h2, h3⟩ := ih (by omega)
    have hl : (ixApp K b (ws.take m) b).length = 7 * 0 + m := by rw [ixApp_same, hk, List.nil_append, List.length_take]; omega
    have hr : ixRid B (ixApp K b (ws.take m)) b 0 = b := rfl
    obtain ⟨a1, a2, a3, _⟩ := h1.put (x := ws.getD m 0) hb h3 hl (by omega)
    rw [take_snocD ws m (by omega), ixFill_snoc]
    rw [ixApp_add, hr] at a1
    rw [ixApp_add] at a2 a3
    refine ⟨?_, a2.trans h2, a3⟩
    rw [show (ws.take m).length = m by rw [List.length_take]; omega]
    exact a1
/-- The next words, in a spare bucket. -/
theorem IxLay.appS (h : IxLay B n K g) (hb : b < B) {q : Nat} (hq : ixExt (K b).length = q) (hk : (K b).length = 7 * q + 7) (hr : ∀ j, b < j → j < B → K j = []) (hn : B + ixOff K B < n) (ws : List Nat) (hw : ws.length ≤ 7) : ∀ m, 0 < m → m ≤ ws.length →
    IxLay B n (ixApp K b (ws.take m)) (ixFill (ixUpd g (8 * ixRid B K b q + 7) (B + ixOff K B + 1)) (8 * (B + ixOff K B)) (ws.take m)) ∧ ixOff (ixApp K b (ws.take m)) B = ixOff K B + 1 ∧ ixExt (ixApp K b (ws.take m) b).length = q + 1 ∧ ixRid B (ixApp K b (ws.take m)) b (q + 1) = B + ixOff K B := by
  intro m
  induction m with
  | zero => intro h0; omega
  | succ m ih =>
    intro _ hm
    by_cases e : m = 0
    · subst e
      obtain ⟨a1, a2, a3, a4⟩ := h.over (x := ws.getD 0 0) hb hq hk hr hn
      rw [show ixAdd K b (ws.getD 0 0) = ixApp K b (ws.take (0 + 1)) by rw [take_snocD ws 0 (by omega), ← ixApp_add, List.take_zero, ixApp_nil]] at a1 a2 a3 a4
      refine ⟨?_, a2, a3, a4⟩
      have hx := ixFill_snoc (ixUpd g (8 * ixRid B K b q + 7) (B + ixOff K B + 1)) (8 * (B + ixOff K B)) [] (ws.getD 0 0)
      rw [ixFill_nil] at hx
      rw [show ws.take (0 + 1) = [] ++ [ws.getD 0 0] by rw [take_snocD ws 0 (by omega), List.take_zero], hx]
      rw [show ws.take (0 + 1) = [] ++ [ws.getD 0 0] by rw [take_snocD ws 0 (by omega), List.take_zero]] at a1
      exact a1
    · obtain ⟨h1, h2, h3, h4⟩ := ih (by omega) (by omega)
      have hl : (ixApp K b (ws.take m) b).length = 7 * (q + 1) + m := by rw [ixApp_same, List.length_append, hk, List.length_take]; omega
      obtain ⟨a1, a2, a3, a4⟩ := h1.put (x := ws.getD m 0) hb h3 hl (by omega)
      rw [h4] at a1
      rw [take_snocD ws m (by omega), ixFill_snoc]
      rw [ixApp_add] at a1 a2 a3 a4
      refine ⟨?_, a2.trans h2, a3, a4.trans h4⟩
      rw [show (ws.take m).length = m by rw [List.length_take]; omega]
      exact a1
end
/-- What holds ahead of the words of a chain's next bucket. -/
structure IxRdy (B n : Nat) (K : Nat → List Nat) (b : Nat) (l : List Nat) (j A T : Nat) (g : Nat → Nat) : Prop where
  nxt : ∀ ws : List Nat, 0 < ws.length → ws.length ≤ 7 → IxLay B n (ixApp K b (l.take (7 * j) ++ ws)) (ixFill g (8 * A) ws) ∧ ixOff (ixApp K b (l.take (7 * j) ++ ws)) B = T ∧ ixExt (ixApp K b (l.take (7 * j) ++ ws) b).length = j ∧ ixRid B (ixApp K b (l.take (7 * j) ++ ws)) b j = A
  len : 7 * j ≤ l.length
  lt : A < n
theorem ixRdy_start {B n : Nat} {K : Nat → List Nat} {g : Nat → Nat} {b : Nat} {l : List Nat} (h : IxLay B n K g) (hb : b < B) (hn : B ≤ n) (hk : K b = []) : IxRdy B n K b l 0 b (ixOff K B) g := by
  refine ⟨fun ws _ hw => ?_, by omega, by omega⟩
  obtain ⟨a1, a2, a3⟩ := h.app0 hb hk ws hw ws.length (Nat.le_refl _)
  rw [List.take_length] at a1 a2 a3
  rw [show l.take (7 * 0) ++ ws = ws by simp]
  exact ⟨a1, a2, a3, rfl⟩
theorem IxRdy.step {B n : Nat} {K : Nat → List Nat} {g : Nat → Nat} {b : Nat} {l : List Nat} {j A T : Nat} (h : IxRdy B n K b l j A T g) (hb : b < B) (hr : ∀ i, b < i → i < B → K i = []) (hk : K b = []) (hl : 7 * j + 7 < l.length) (hn : B + T < n) :
    IxRdy B n K b l (j + 1) (B + T) (T + 1) (ixUpd (ixFill g (8 * A) ((l.drop (7 * j)).take 7)) (8 * A + 7) (B + T + 1)) := by
  have hwl : ((l.drop (7 * j)).take 7).length = 7 := by rw [List.length_take, List.length_drop]; omega
  obtain ⟨a1, a2, a3, a4⟩ := h.nxt ((l.drop (7 * j)).take 7) (by omega) (by omega)
  have hcat : l.take (7 * j) ++ (l.drop (7 * j)).take 7 = l.take (7 * (j + 1)) := by
    rw [show 7 * (j + 1) = 7 * j + 7 by omega, List.take_add]
  rw [hcat] at a1 a2 a3 a4
  refine ⟨fun ws h0 hw => ?_, by omega, hn⟩
  have hkl : (ixApp K b (l.take (7 * (j + 1))) b).length = 7 * j + 7 := by rw [ixApp_same, hk, List.nil_append, List.length_take]; omega
  obtain ⟨b1, b2, b3, b4⟩ := a1.appS hb a3 hkl (fun i h1 h2 => by rw [ixApp_ne (by omega)]; exact hr i h1 h2) (by rw [a2]; exact hn) ws hw ws.length h0 (Nat.le_refl _)
  rw [List.take_length] at b1 b2 b3 b4
  have happ : ixApp (ixApp K b (l.take (7 * (j + 1)))) b ws = ixApp K b (l.take (7 * (j + 1)) ++ ws) := by
    funext i
    by_cases e : i = b
    · subst e; rw [ixApp_same, ixApp_same, ixApp_same, List.append_assoc]
    · rw [ixApp_ne e, ixApp_ne e, ixApp_ne e]
  rw [happ, a2, a4] at b1
  rw [happ, a2] at b2 b4
  rw [happ] at b3
  exact ⟨b1, b2, b3, b4⟩
theorem IxRdy.last {B n : Nat} {K : Nat → List Nat} {g : Nat → Nat} {b : Nat} {l : List Nat} {j A T : Nat} (h : IxRdy B n K b l j A T g) (h0 : 7 * j < l.length) (h7 : l.length ≤ 7 * j + 7) :
    IxLay B n (ixApp K b l) (ixFill g (8 * A) (l.drop (7 * j))) ∧ ixOff (ixApp K b l) B = T := by
  obtain ⟨a1, a2, a3, a4⟩ := h.nxt (l.drop (7 * j)) (by rw [List.length_drop]; omega) (by rw [List.length_drop]; omega)
  rw [List.take_append_drop] at a1 a2
  exact ⟨a1, a2⟩
end Go.Proofs.Ytmpnbaiolmkhlaa
