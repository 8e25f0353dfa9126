/- The plain layout of an index behind Drop: words by chains, without gaps. No Go in sight. -/
import Derived.Test.YtmpnbaiolmkhlaaIa
namespace Go.Proofs.Ytmpnbaiolmkhlaa
set_option maxRecDepth 20000
/-- How many spare buckets so many words want. -/
def ixExt (m : Nat) : Nat := (m - 1) / 7
def ixOff (K : Nat → List Nat) : Nat → Nat
  | 0 => 0
  | b + 1 => ixOff K b + ixExt (K b).length
def ixRid (B : Nat) (K : Nat → List Nat) (b j : Nat) : Nat := if j = 0 then b else B + ixOff K b + (j - 1)
def ixCell (B : Nat) (K : Nat → List Nat) (b j k : Nat) : Nat := if k < 7 then (K b).getD (7 * j + k) 0 else if 7 * (j + 1) < (K b).length then B + ixOff K b + j + 1 else 0
/-- The words K b stand in the chain of b, in order, without a gap. -/
structure IxLay (B n : Nat) (K : Nat → List Nat) (g : Nat → Nat) : Prop where
  row : ∀ b, b < B → ∀ j, j ≤ ixExt (K b).length → ∀ k, k < 8 → g (8 * ixRid B K b j + k) = ixCell B K b j k
  zero : ∀ r, B + ixOff K B ≤ r → r < n → ∀ k, k < 8 → g (8 * r + k) = 0
def ixAdd (K : Nat → List Nat) (b x : Nat) : Nat → List Nat := fun j => if j = b then K b ++ [x] else K j
theorem ixAdd_same (K : Nat → List Nat) (b x : Nat) : ixAdd K b x b = K b ++ [x] := by simp [ixAdd]
theorem ixAdd_ne {K : Nat → List Nat} {b x j : Nat} (h : j ≠ b) : ixAdd K b x j = K j := by simp [ixAdd, h]
theorem ixOff_mono (K : Nat → List Nat) {b c : Nat} (h : b ≤ c) : ixOff K b ≤ ixOff K c := by
  induction c with
  | zero => have : b = 0 := by omega
            subst this; exact Nat.le_refl _
  | succ c ih =>
    by_cases e : b = c + 1
    · subst e; exact Nat.le_refl _
    · have := ih (by omega)
      show ixOff K b ≤ ixOff K c + ixExt (K c).length
      omega
theorem ixOff_congr {K K' : Nat → List Nat} {b : Nat} (h : ∀ j, j < b → ixExt (K j).length = ixExt (K' j).length) : ixOff K b = ixOff K' b := by
  induction b with
  | zero => rfl
  | succ b ih => unfold ixOff; rw [ih fun j hj => h j (by omega), h b (by omega)]
theorem ixOff_rest {K : Nat → List Nat} {b c : Nat} (hb : b ≤ c) (h : ∀ j, b ≤ j → j < c → K j = []) : ixOff K c = ixOff K b := by
  induction c with
  | zero => have : b = 0 := by omega
            subst this; rfl
  | succ c ih =>
    by_cases e : b = c + 1
    · subst e; rfl
    · have := ih (by omega) (fun j h1 h2 => h j h1 (by omega))
      show ixOff K c + ixExt (K c).length = _
      rw [this, h c (by omega) (by omega)]; rfl
theorem ixRid_lt {B : Nat} {K : Nat → List Nat} {b j : Nat} (hb : b < B) (hj : j ≤ ixExt (K b).length) : ixRid B K b j < B + ixOff K B := by
  unfold ixRid
  split
  · omega
  · have h1 : ixOff K (b + 1) ≤ ixOff K B := ixOff_mono K (by omega)
    have h2 : ixOff K (b + 1) = ixOff K b + ixExt (K b).length := rfl
    omega
theorem ixRid_inj {B : Nat} {K : Nat → List Nat} {b j b' j' : Nat} (hb : b < B) (hj : j ≤ ixExt (K b).length) (hb' : b' < B) (hj' : j' ≤ ixExt (K b').length) (h : ixRid B K b j = ixRid B K b' j') : b = b' ∧ j = j' := by
  unfold ixRid at h
  have m1 : b < b' → ixOff K (b + 1) ≤ ixOff K b' := fun x => ixOff_mono K (by omega)
  have m2 : b' < b → ixOff K (b' + 1) ≤ ixOff K b := fun x => ixOff_mono K (by omega)
  have e1 : ixOff K (b + 1) = ixOff K b + ixExt (K b).length := rfl
  have e2 : ixOff K (b' + 1) = ixOff K b' + ixExt (K b').length := rfl
  split at h
  · split at h
    · omega
    · omega
  · split at h
    · omega
    · by_cases c1 : b < b'
      · have := m1 c1; omega
      · by_cases c2 : b' < b
        · have := m2 c2; omega
        · have : b = b' := by omega
          subst this
          omega
theorem ixCover {B : Nat} {K : Nat → List Nat} {r : Nat} (c : Nat) (hc : c ≤ B) (h : r < B + ixOff K c) : (r < B) ∨ ∃ b j, b < c ∧ j ≤ ixExt (K b).length ∧ r = ixRid B K b j := by
  induction c with
  | zero => left; simpa [ixOff] using h
  | succ c ih =>
    by_cases h1 : r < B + ixOff K c
    · rcases ih (by omega) h1 with h2 | ⟨b, j, hb, hj, e⟩
      · exact .inl h2
      · exact .inr ⟨b, j, by omega, hj, e⟩
    · have e : ixOff K (c + 1) = ixOff K c + ixExt (K c).length := rfl
      refine .inr ⟨c, r - (B + ixOff K c) + 1, by omega, by omega, ?_⟩
      unfold ixRid
      rw [if_neg (by omega)]; omega
theorem ixCover' {B : Nat} {K : Nat → List Nat} {r : Nat} (h : r < B + ixOff K B) : ∃ b j, b < B ∧ j ≤ ixExt (K b).length ∧ r = ixRid B K b j := by
  rcases ixCover B (Nat.le_refl _) h with h1 | h1
  · exact ⟨r, 0, h1, by omega, by simp [ixRid]⟩
  · exact h1
/-- A layout tells all words. -/
theorem IxLay.same {B n : Nat} {K : Nat → List Nat} {g g' : Nat → Nat} (h : IxLay B n K g) (h' : IxLay B n K g') : ∀ i, i < 8 * n → g i = g' i := by
  intro i hi
  have e : i = 8 * (i / 8) + i % 8 := by omega
  rw [e]
  by_cases hr : i / 8 < B + ixOff K B
  · obtain ⟨b, j, hb, hj, e2⟩ := ixCover' hr
    rw [e2, h.row b hb j hj _ (by omega), h'.row b hb j hj _ (by omega)]
  · rw [h.zero _ (by omega) (by omega) _ (by omega), h'.zero _ (by omega) (by omega) _ (by omega)]
theorem ixLay_nil (B n : Nat) : IxLay B n (fun _ => []) (fun _ => 0) := by
  refine ⟨fun b hb j hj k hk => ?_, fun _ _ _ _ _ => rfl⟩
  unfold ixCell
  split <;> simp
theorem getD_snoc (l : List Nat) (x i : Nat) : (l ++ [x]).getD i 0 = if i = l.length then x else l.getD i 0 := by
  simp only [List.getD_eq_getElem?_getD, List.getElem?_append]
  by_cases h : i < l.length
  · rw [if_pos h, if_neg (by omega)]
  · rw [if_neg h]
    by_cases e : i = l.length
    · rw [if_pos e, e]; simp
    · rw [if_neg e, List.getElem?_eq_none (show [x].length ≤ i - l.length by simp; omega), List.getElem?_eq_none (show l.length ≤ i by omega)]
theorem getD_over {l : List Nat} {i : Nat} (h : l.length ≤ i) : l.getD i 0 = 0 := by rw [List.getD_eq_getElem?_getD, List.getElem?_eq_none h]; rfl
theorem ixOff_over {B : Nat} {K : Nat → List Nat} {b x : Nat} (hb : b < B) {q : Nat} (hq : ixExt (K b).length = q) (hk : (K b).length = 7 * q + 7) (hr : ∀ j, b < j → j < B → K j = []) : ixOff (ixAdd K b x) B = ixOff K B + 1 := by
  have hx : ixExt (ixAdd K b x b).length = q + 1 := by rw [ixAdd_same, List.length_append]; unfold ixExt; simp; omega
  have off0 : ixOff (ixAdd K b x) b = ixOff K b := ixOff_congr fun j hj => by rw [ixAdd_ne (by omega)]
  have o1 : ixOff K B = ixOff K (b + 1) := ixOff_rest (by omega) (fun j h1 h2 => hr j (by omega) h2)
  have o2 : ixOff (ixAdd K b x) B = ixOff (ixAdd K b x) (b + 1) := ixOff_rest (by omega) (fun j h1 h2 => by rw [ixAdd_ne (by omega)]; exact hr j (by omega) h2)
  have o3 : ixOff K (b + 1) = ixOff K b + q := by rw [← hq]; rfl
  have o4 : ixOff (ixAdd K b x) (b + 1) = ixOff K b + (q + 1) := by
    show ixOff (ixAdd K b x) b + ixExt (ixAdd K b x b).length = _
    rw [off0, hx]
  omega
/-- What is known while Drop lays a chain's words: those up to i are laid. -/
structure IxDrp (B n : Nat) (kl : Nat → List Nat) (l : List Nat) (b i : Nat) (K : Nat → List Nat) (g : Nat → Nat) : Prop where
  lay : IxLay B n K g
  old : ∀ j, j < b → K j = kl j
  here : K b = (l.take i).filter fun x => !ixFresh x
  rest : ∀ j, b < j → j < B → K j = []
theorem take_filter {l : List Nat} {i : Nat} (h : i < l.length) (p : Nat → Bool) : (l.take (i + 1)).filter p = (l.take i).filter p ++ (if p (l.getD i 0) = true then [l.getD i 0] else []) := by
  rw [List.take_succ_eq_append_getElem h, List.filter_append, List.getD_eq_getElem?_getD, List.getElem?_eq_getElem h]
  congr 1
  simp only [Option.getD_some]
  by_cases c : p l[i] = true <;> simp [c]
theorem IxDrp.skip {B n : Nat} {kl : Nat → List Nat} {l : List Nat} {b i : Nat} {K : Nat → List Nat} {g : Nat → Nat} (h : IxDrp B n kl l b i K g) (hi : i < l.length) (hf : ixFresh (l.getD i 0) = true) : IxDrp B n kl l b (i + 1) K g :=
  ⟨h.lay, h.old, by rw [take_filter hi, h.here]; simp only [hf]; simp, h.rest⟩
theorem IxDrp.put {B n : Nat} {kl : Nat → List Nat} {l : List Nat} {b i : Nat} {K : Nat → List Nat} {g g' : Nat → Nat} (h : IxDrp B n kl l b i K g) (hi : i < l.length) (hf : ixFresh (l.getD i 0) = false) (hl : IxLay B n (ixAdd K b (l.getD i 0)) g') : IxDrp B n kl l b (i + 1) (ixAdd K b (l.getD i 0)) g' :=
  ⟨hl, fun j hj => by rw [ixAdd_ne (by omega)]; exact h.old j hj, by rw [take_filter hi, ixAdd_same, h.here]; simp only [hf]; simp, fun j h1 h2 => by rw [ixAdd_ne (by omega)]; exact h.rest j h1 h2⟩
theorem ixExt_span (m : Nat) : 7 * ixExt m ≤ m ∧ m ≤ 7 * ixExt m + 7 := by unfold ixExt; omega
section
variable {B n : Nat} {K : Nat → List Nat} {g : Nat → Nat} {b x : Nat}
/-- A word more in the last bucket. -/
theorem IxLay.put (h : IxLay B n K g) (hb : b < B) {q k : Nat} (hq : ixExt (K b).length = q) (hk : (K b).length = 7 * q + k) (hk7 : k < 7) :
    IxLay B n (ixAdd K b x) (ixUpd g (8 * ixRid B K b q + k) x) ∧ ixOff (ixAdd K b x) B = ixOff K B ∧ ixExt (ixAdd K b x b).length = q ∧ ixRid B (ixAdd K b x) b q = ixRid B K b q := by
  have hz : k = 0 → q = 0 := fun e => by unfold ixExt at hq; omega
  have hx : ixExt (ixAdd K b x b).length = q := by rw [ixAdd_same, List.length_append]; unfold ixExt; simp; omega
  have ext : ∀ j, ixExt (ixAdd K b x j).length = ixExt (K j).length := fun j => by
    by_cases e : j = b
    · subst e; rw [hx, hq]
    · rw [ixAdd_ne e]
  have off : ∀ c, ixOff (ixAdd K b x) c = ixOff K c := fun c => ixOff_congr fun j _ => ext j
  have rid : ∀ c j, ixRid B (ixAdd K b x) c j = ixRid B K c j := fun c j => by unfold ixRid; rw [off]
  refine ⟨⟨fun b' hb' j hj k' hk' => ?_, fun r h1 h2 k' hk' => ?_⟩, off B, hx, rid b q⟩
  · rw [ext] at hj
    rw [rid]
    by_cases e : b' = b
    · subst e
      rw [hq] at hj
      by_cases e2 : j = q ∧ k' = k
      · obtain ⟨rfl, rfl⟩ := e2
        rw [ixUpd_same]
        unfold ixCell
        rw [if_pos hk7, ixAdd_same, getD_snoc, if_pos hk.symm]
      · rw [ixUpd_ne (fun e3 => ?_), h.row b' hb' j (by omega) k' hk']
        · unfold ixCell
          rw [ixAdd_same, off]
          by_cases c : k' < 7
          · rw [if_pos c, if_pos c, getD_snoc, if_neg (fun e4 => ?_)]
            rw [hk] at e4
            exact e2 (by omega)
          · rw [if_neg c, if_neg c, List.length_append]
            have : (7 * (j + 1) < (K b').length + [x].length) ↔ 7 * (j + 1) < (K b').length := by
              simp only [List.length_cons, List.length_nil]
              rw [hk]
              by_cases ck : k = 0
              · have := hz ck; omega
              · omega
            simp only [this]
        · have e5 : ixRid B K b' j = ixRid B K b' q := by omega
          have := (ixRid_inj hb' (by omega) hb' (by omega) e5).2
          exact e2 ⟨this, by omega⟩
    · have hne : 8 * ixRid B K b' j + k' ≠ 8 * ixRid B K b q + k := fun e3 => by
        have e5 : ixRid B K b' j = ixRid B K b q := by omega
        exact e (ixRid_inj hb' hj hb (by omega) e5).1
      rw [ixUpd_ne hne, h.row b' hb' j hj k' hk']
      unfold ixCell
      rw [ixAdd_ne e, off]
  · rw [off] at h1
    have hlt := ixRid_lt (K := K) (j := q) hb (by omega)
    rw [ixUpd_ne (by omega)]
    exact h.zero r h1 h2 k' hk'
/-- A word more, where the last bucket is full. -/
theorem IxLay.over (h : IxLay B n K g) (hb : b < B) {q : Nat} (hq : ixExt (K b).length = q) (hk : (K b).length = 7 * q + 7) (hr : ∀ j, b < j → j < B → K j = []) (hn : B + ixOff K B < n) :
    IxLay B n (ixAdd K b x) (ixUpd (ixUpd g (8 * ixRid B K b q + 7) (B + ixOff K B + 1)) (8 * (B + ixOff K B)) x) ∧ ixOff (ixAdd K b x) B = ixOff K B + 1 ∧ ixExt (ixAdd K b x b).length = q + 1 ∧ ixRid B (ixAdd K b x) b (q + 1) = B + ixOff K B := by
  have hx : ixExt (ixAdd K b x b).length = q + 1 := by rw [ixAdd_same, List.length_append]; unfold ixExt; simp; omega
  have off0 : ∀ c, c ≤ b → ixOff (ixAdd K b x) c = ixOff K c := fun c hc => ixOff_congr fun j hj => by rw [ixAdd_ne (by omega)]
  have o1 : ixOff K B = ixOff K (b + 1) := ixOff_rest (by omega) (fun j h1 h2 => hr j (by omega) h2)
  have o2 : ixOff (ixAdd K b x) B = ixOff (ixAdd K b x) (b + 1) := ixOff_rest (by omega) (fun j h1 h2 => by rw [ixAdd_ne (by omega)]; exact hr j (by omega) h2)
  have o3 : ixOff K (b + 1) = ixOff K b + q := by rw [← hq]; rfl
  have o4 : ixOff (ixAdd K b x) (b + 1) = ixOff K b + (q + 1) := by
    show ixOff (ixAdd K b x) b + ixExt (ixAdd K b x b).length = _
    rw [off0 b (Nat.le_refl _), hx]
  have oB : ixOff (ixAdd K b x) B = ixOff K B + 1 := by omega
  have ob := off0 b (Nat.le_refl _)
  have hrq : ixRid B (ixAdd K b x) b (q + 1) = B + ixOff K B := by unfold ixRid; rw [if_neg (by omega), ob]; omega
  refine ⟨⟨fun b' hb' j hj k' hk' => ?_, fun r h1 h2 k' hk' => ?_⟩, oB, hx, hrq⟩
  · by_cases e : b' = b
    · subst e
      rw [hx] at hj
      by_cases e1 : j = q + 1
      · subst e1
        rw [hrq]
        by_cases e2 : k' = 0
        · subst e2
          show ixUpd _ (8 * (B + ixOff K B)) x (8 * (B + ixOff K B)) = _
          rw [ixUpd_same]
          unfold ixCell
          rw [if_pos (by omega), ixAdd_same, getD_snoc, if_pos (by omega)]
        · have hlt := ixRid_lt (K := K) (j := q) hb (by omega)
          rw [ixUpd_ne (by omega), ixUpd_ne (by omega), h.zero _ (Nat.le_refl _) hn k' hk']
          unfold ixCell
          rw [ixAdd_same]
          split
          · rw [getD_over (by simp; omega)]
          · rw [if_neg (by simp; omega)]
      · have hjq : j ≤ q := by omega
        have hrid : ixRid B (ixAdd K b' x) b' j = ixRid B K b' j := by unfold ixRid; rw [ob]
        have hlt := ixRid_lt (K := K) (j := j) hb (by omega)
        rw [hrid, ixUpd_ne (by omega)]
        by_cases e2 : j = q ∧ k' = 7
        · obtain ⟨rfl, rfl⟩ := e2
          rw [ixUpd_same]
          unfold ixCell
          rw [if_neg (by omega), ixAdd_same, if_pos (by simp; omega), ob]; omega
        · rw [ixUpd_ne (fun e3 => ?_), h.row b' hb' j (by omega) k' hk']
          · unfold ixCell
            rw [ixAdd_same, ob]
            by_cases c : k' < 7
            · rw [if_pos c, if_pos c, getD_snoc, if_neg (by omega)]
            · rw [if_neg c, if_neg c]
              have : j < q := by omega
              rw [if_pos (by omega), if_pos (by simp; omega)]
          · have e5 : ixRid B K b' j = ixRid B K b' q := by omega
            have := (ixRid_inj hb' (by omega) hb' (by omega) e5).2
            exact e2 ⟨this, by omega⟩
    · rw [ixAdd_ne e] at hj
      by_cases c : b' < b
      · have hrid : ixRid B (ixAdd K b x) b' j = ixRid B K b' j := by unfold ixRid; rw [off0 b' (by omega)]
        have hlt := ixRid_lt (K := K) hb' hj
        rw [hrid, ixUpd_ne (by omega), ixUpd_ne (fun e3 => ?_), h.row b' hb' j hj k' hk']
        · unfold ixCell
          rw [ixAdd_ne e, off0 b' (by omega)]
        · have e5 : ixRid B K b' j = ixRid B K b q := by omega
          exact e (ixRid_inj hb' hj hb (by omega) e5).1
      · have hnil := hr b' (by omega) hb'
        have hj0 : j = 0 := by rw [hnil] at hj; unfold ixExt at hj; simp at hj; exact hj
        subst hj0
        have r1 : ∀ K' : Nat → List Nat, ixRid B K' b' 0 = b' := fun K' => by simp [ixRid]
        have z := h.row b' hb' 0 (by omega) k' hk'
        rw [r1] at z ⊢
        rw [ixUpd_ne (by omega), ixUpd_ne (fun e3 => ?_), z]
        · unfold ixCell
          rw [ixAdd_ne e, hnil]
          split
          · rfl
          · rw [if_neg (by simp), if_neg (by simp)]
        · have e5 : ixRid B K b' 0 = ixRid B K b q := by rw [r1]; omega
          exact e (ixRid_inj hb' (by omega) hb (by omega) e5).1
  · rw [oB] at h1
    have hlt := ixRid_lt (K := K) (j := q) hb (by omega)
    rw [ixUpd_ne (by omega), ixUpd_ne (by omega)]
    exact h.zero r (by omega) h2 k' hk'
/-- The chains of a layout. -/
def ixChains (B : Nat) (K : Nat → List Nat) : Nat → List Nat := fun b => (List.range (ixExt (K b).length + 1)).map (ixRid B K b)
theorem ixChains_path (h : IxLay B n K g) (hb : b < B) : ∀ d j, j + d = ixExt (K b).length → IxPath g (ixRid B K b j) ((List.range' j (d + 1)).map (ixRid B K b)) := by
  intro d
  induction d with
  | zero =>
    intro j hj
    have z := h.row b hb j (by omega) 7 (by omega)
    have : ixCell B K b j 7 = 0 := by
      unfold ixCell
      rw [if_neg (by omega), if_neg (by unfold ixExt at hj; omega)]
    rw [this] at z
    exact .last z
  | succ d ih =>
    intro j hj
    have z := h.row b hb j (by omega) 7 (by omega)
    have : ixCell B K b j 7 = ixRid B K b (j + 1) + 1 := by
      unfold ixCell ixRid
      rw [if_neg (by omega), if_pos (by unfold ixExt at hj; omega), if_neg (by omega)]; omega
    rw [this] at z
    have := ih (j + 1) (by omega)
    rw [List.range'_succ, List.map_cons]
    exact .next z this
theorem ixChains_sum (B : Nat) (K : Nat → List Nat) (c : Nat) : ixSum (ixChains B K) c = ixOff K c := by
  induction c with
  | zero => rfl
  | succ c ih =>
    show ixSum (ixChains B K) c + ((ixChains B K c).length - 1) = ixOff K c + ixExt (K c).length
    rw [ih]; simp [ixChains]
/-- What is known of an index behind Drop. -/
theorem IxLay.inv (h : IxLay B n K g) (hn : B + ixOff K B ≤ n) (hw : ∀ b, b < B → ∀ x ∈ K b, IxEn x) (hp : ∀ b, b < B → (K b).Pairwise (fun x y => ixTag x ≠ ixTag y)) : IxInv B n g (ixOff K B) (ixChains B K) := by
  have mem : ∀ b r, r ∈ ixChains B K b → ∃ j, j ≤ ixExt (K b).length ∧ r = ixRid B K b j := fun b r hr => by
    simp only [ixChains, List.mem_map, List.mem_range] at hr
    obtain ⟨j, hj, rfl⟩ := hr
    exact ⟨j, by omega, rfl⟩
  have val : ∀ b, b < B → ∀ j, j ≤ ixExt (K b).length → ∀ k, k < 7 → g (8 * ixRid B K b j + k) = (K b).getD (7 * j + k) 0 := fun b hb j hj k hk => by
    rw [h.row b hb j hj k (by omega)]; unfold ixCell; rw [if_pos hk]
  refine ⟨fun b hb => ?_, fun b hb r hr => ?_, fun b hb b' hb' hne r hr hr' => ?_, fun b hb => ?_, hn, fun r hr => ?_, h.zero, fun r hr k hk => ?_, fun b hb s hs s' hs' g1 g2 ht => ?_⟩
  · have := ixChains_path h hb (ixExt (K b).length) 0 (by omega)
    rw [show ixRid B K b 0 = b by simp [ixRid]] at this
    unfold ixChains
    rw [List.range_eq_range']
    exact this
  · obtain ⟨j, hj, rfl⟩ := mem b r hr
    exact ixRid_lt hb hj
  · obtain ⟨j, hj, rfl⟩ := mem b r hr
    obtain ⟨j', hj', e⟩ := mem b' _ hr'
    exact hne (ixRid_inj hb hj hb' hj' e).1
  · unfold ixChains List.Nodup
    rw [List.pairwise_map]
    refine List.Pairwise.imp_of_mem (fun {a c} ha hc hac e => ?_) List.nodup_range
    rw [List.mem_range] at ha hc
    exact hac (ixRid_inj hb (by omega) hb (by omega) e).2
  · by_cases c : r < B + ixOff K B
    · obtain ⟨b, j, hb, hj, rfl⟩ := ixCover' c
      rw [h.row b hb j hj 7 (by omega)]
      unfold ixCell
      rw [if_neg (by omega)]
      split
      · have m := ixOff_mono K (show b + 1 ≤ B by omega)
        have e : ixOff K (b + 1) = ixOff K b + ixExt (K b).length := rfl
        unfold ixExt at e hj
        omega
      · omega
    · rw [h.zero r (by omega) hr 7 (by omega)]; omega
  · by_cases c : r < B + ixOff K B
    · obtain ⟨b, j, hb, hj, rfl⟩ := ixCover' c
      rw [val b hb j hj k hk]
      by_cases c2 : 7 * j + k < (K b).length
      · exact .inr (hw b hb _ (getD_mem c2))
      · exact .inl (getD_over (by omega))
    · exact .inl (h.zero r (by omega) hr k (by omega))
  · obtain ⟨r, hr, k, hk, rfl⟩ := ixSlots_mem.1 hs
    obtain ⟨r', hr', k', hk', rfl⟩ := ixSlots_mem.1 hs'
    obtain ⟨j, hj, rfl⟩ := mem b r hr
    obtain ⟨j', hj', rfl⟩ := mem b r' hr'
    rw [val b hb j hj k hk] at g1 ht
    rw [val b hb j' hj' k' hk'] at g2 ht
    have l1 : 7 * j + k < (K b).length := by
      by_cases c : 7 * j + k < (K b).length
      · exact c
      · exact absurd (getD_over (by omega)) g1
    have l2 : 7 * j' + k' < (K b).length := by
      by_cases c : 7 * j' + k' < (K b).length
      · exact c
      · exact absurd (getD_over (by omega)) g2
    have hpw := List.pairwise_iff_getElem.1 (hp b hb)
    rw [List.getD_eq_getElem?_getD, List.getElem?_eq_getElem l1, List.getD_eq_getElem?_getD, List.getElem?_eq_getElem l2] at ht
    have : 7 * j + k = 7 * j' + k' := by
      rcases Nat.lt_trichotomy (7 * j + k) (7 * j' + k') with c | c | c
      · exact absurd ht (hpw _ _ l1 l2 c)
      · exact c
      · exact absurd ht.symm (hpw _ _ l2 l1 c)
    have : j = j' ∧ k = k' := by omega
    rw [this.1, this.2]
end
/-- What Drop keeps of a chain. -/
def ixKept (g : Nat → Nat) (l : List Nat) : List Nat := (ixEnts g l).filter fun x => !ixFresh x
theorem ixKept_sub (g : Nat → Nat) (l : List Nat) : (ixKept g l).Sublist (ixEnts g l) := List.filter_sublist
/-- So many spare buckets are enough. -/
theorem ixOff_le {B n : Nat} {g : Nat → Nat} {T : Nat} {cs : Nat → List Nat} (h : IxInv B n g T cs) (K : Nat → List Nat) (hK : ∀ b, b < B → (K b).length ≤ (ixEnts g (ixSlots (cs b))).length) : ∀ c, c ≤ B → ixOff K c ≤ ixSum cs c := by
  intro c
  induction c with
  | zero => intro _; exact Nat.le_refl _
  | succ c ih =>
    intro hc
    have h1 := ih (by omega)
    have h2 := hK c (by omega)
    have h3 := ixEnts_length g (ixSlots (cs c))
    rw [ixSlots_length] at h3
    have h4 := (h.path c (by omega)).pos
    show ixOff K c + ixExt (K c).length ≤ ixSum cs c + ((cs c).length - 1)
    unfold ixExt
    omega
end Go.Proofs.Ytmpnbaiolmkhlaa
