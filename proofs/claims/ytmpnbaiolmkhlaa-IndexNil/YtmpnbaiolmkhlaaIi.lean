/- An index and the reference's one, side by side: what the law asks of the program's calls (IxProg), what both tell. -/
import Derived.Test.YtmpnbaiolmkhlaaIh
namespace Go.Proofs.Ytmpnbaiolmkhlaa
set_option maxRecDepth 20000
open Go.RowKit
theorem ixLook_cases {g : Nat → Nat} {l : List Nat} {t kd sl xw : Nat} (h : ixLook g l t = (kd, sl, xw)) :
    (kd = 1 ∧ sl ∈ l ∧ g sl = xw ∧ xw ≠ 0 ∧ ixTag xw = t) ∨ (kd = 2 ∧ sl ∈ l ∧ g sl = 0 ∧ xw = 0 ∧ ∀ s ∈ l, ixHit g t s = false) ∨ (kd = 3 ∧ sl = 0 ∧ xw = 0 ∧ ∀ s ∈ l, ixHit g t s = false) := by
  unfold ixLook at h
  cases h1 : l.find? (ixHit g t) with
  | some s =>
    rw [h1] at h
    cases h
    have hm := List.mem_of_find?_eq_some h1
    have hp := List.find?_some h1
    simp only [ixHit, Bool.and_eq_true, decide_eq_true_eq] at hp
    exact .inl ⟨rfl, hm, rfl, hp.1, hp.2⟩
  | none =>
    rw [h1] at h
    have hn : ∀ s ∈ l, ixHit g t s = false := fun s hs => by
      have := List.find?_eq_none.1 h1 s hs
      simpa using this
    cases h2 : l.find? (ixFree g) with
    | some s =>
      rw [h2] at h
      cases h
      have hm := List.mem_of_find?_eq_some h2
      have hp := List.find?_some h2
      simp only [ixFree, decide_eq_true_eq] at hp
      exact .inr (.inl ⟨rfl, hm, hp, rfl, hn⟩)
    | none =>
      rw [h2] at h
      cases h
      exact .inr (.inr ⟨rfl, rfl, rfl, hn⟩)
/-- What is known of what both tell. -/
structure IxGood (B S : Nat) (g : Nat → Nat) (T : Nat) (cs : Nat → List Nat) : Prop where
  inv : IxInv B (B + S) g T cs
  sum : ixSum cs B = T
  pow : powB (B : Int) = true
  sp : S ≤ 64
theorem IxGood.buck {B S : Nat} {g : Nat → Nat} {T : Nat} {cs : Nat → List Nat} (h : IxGood B S g T cs) (hN : Nat) : buckN hN (B : Int) < B := by
  have hr := powB_range h.pow
  unfold buckN
  rw [h.pow]
  simp only [if_true]
  have := Nat.mod_lt hN (show 0 < B by omega)
  simpa using this
theorem IxGood.take {B S : Nat} {g : Nat → Nat} {T : Nat} {cs : Nat → List Nat} (h : IxGood B S g T cs) : T ≤ S := by have := h.inv.top; omega
theorem IxGood.len {B S : Nat} {g : Nat → Nat} {T : Nat} {cs : Nat → List Nat} (h : IxGood B S g T cs) {b : Nat} (hb : b < B) : (cs b).length ≤ B + S := by
  have h1 : ∀ c, b < c → (cs b).length - 1 ≤ ixSum cs c := fun c hc => by
    induction c with
    | zero => omega
    | succ c ih =>
      show _ ≤ ixSum cs c + ((cs c).length - 1)
      by_cases e : b = c
      · subst e; omega
      · have := ih (by omega); omega
  have := h1 B hb
  have := h.sum
  have := h.take
  omega
theorem IxGood.in' {B S : Nat} {g : Nat → Nat} {T : Nat} {cs : Nat → List Nat} (h : IxGood B S g T cs) {b : Nat} (hb : b < B) : ∀ x ∈ cs b, x < B + S := fun x hx => by
  have := h.inv.lt b hb x hx
  have := h.inv.top
  omega
theorem IxGood.words {B S : Nat} {g : Nat → Nat} {T : Nat} {cs : Nat → List Nat} (h : IxGood B S g T cs) {b : Nat} (hb : b < B) : ∀ s ∈ ixSlots (cs b), g s = 0 ∨ IxEn (g s) := fun s hs => by
  obtain ⟨r, k, hr, hrn, hk, rfl⟩ := h.inv.slot hb hs
  exact h.inv.word r hrn k hk
theorem ixGood_new {B S : Nat} (hp : powB (B : Int) = true) (hs : S ≤ 64) : IxGood B S (fun _ => 0) 0 (fun b => [b]) := by
  have hr := powB_range hp
  refine ⟨⟨fun b _ => .last rfl, fun b hb r hr => ?_, fun b _ b' _ hne r hr hr' => ?_, fun b _ => by simp, by omega, fun _ _ => Nat.zero_le _, fun _ _ _ _ _ => rfl, fun _ _ _ _ => .inl rfl, fun b _ s _ s' _ h => absurd rfl h⟩, ?_, hp, hs⟩
  · simp at hr; omega
  · simp at hr hr'; omega
  · have : ∀ c, ixSum (fun b => [b]) c = 0 := fun c => by
      induction c with
      | zero => rfl
      | succ c ih => show ixSum (fun b => [b]) c + ([c].length - 1) = 0; rw [ih]; rfl
    exact this B
/-- A slot gets an entry. -/
theorem IxGood.setSlot {B S : Nat} {g : Nat → Nat} {T : Nat} {cs : Nat → List Nat} (h : IxGood B S g T cs) {b : Nat} (hb : b < B) {s : Nat} (hs : s ∈ ixSlots (cs b)) {x : Nat} (hx : IxEn x)
    (hu : ∀ s' ∈ ixSlots (cs b), s' ≠ s → g s' ≠ 0 → ixTag (g s') ≠ ixTag x) : IxGood B S (ixUpd g s x) T cs := ⟨h.inv.setSlot hb hs hx hu, h.sum, h.pow, h.sp⟩
theorem IxGood.claim {B S : Nat} {g : Nat → Nat} {T : Nat} {cs : Nat → List Nat} (h : IxGood B S g T cs) {b : Nat} (hb : b < B) {s t : Nat} (hs : s ∈ ixSlots (cs b)) (ht : t < 16384) (hn : ∀ s' ∈ ixSlots (cs b), ixHit g t s' = false) : IxGood B S (ixUpd g s (entN 0 t true)) T cs := by
  have hE : entB 0 t true = true := entB_iff.2 ⟨by decide, ht, by simp⟩
  refine h.setSlot hb hs ⟨0, t, true, hE, rfl⟩ fun s' hs' _ h0 e => ?_
  rw [entN_tag hE] at e
  have := hn s' hs'
  unfold ixHit at this
  rw [e] at this
  simp [h0] at this
theorem IxGood.turn {B S : Nat} {g : Nat → Nat} {T : Nat} {cs : Nat → List Nat} (h : IxGood B S g T cs) {b : Nat} (hb : b < B) {s a : Nat} (hs : s ∈ ixSlots (cs b)) (h0 : g s ≠ 0) (hE : entB a (ixTag (g s)) false = true) : IxGood B S (ixUpd g s (entN a (ixTag (g s)) false)) T cs := by
  refine h.setSlot hb hs ⟨a, _, false, hE, rfl⟩ fun s' hs' hne h1 e => ?_
  rw [entN_tag hE] at e
  exact hne (h.inv.uniq b hb s' hs' s hs h1 h0 e)
theorem IxGood.grow {B S : Nat} {g : Nat → Nat} {T : Nat} {cs : Nat → List Nat} (h : IxGood B S g T cs) {b : Nat} (hb : b < B) (ht : T < S) : IxGood B S (ixUpd g (8 * ixLast (cs b) + 7) (B + T + 1)) (T + 1) (ixLink cs b (B + T)) := by
  refine ⟨h.inv.grow hb (by omega), ?_, h.pow, h.sp⟩
  rw [ixLink_sum (fun b hb => (h.inv.path b hb).pos) hb, h.sum]
theorem IxGood.drop {B S : Nat} {g g' : Nat → Nat} {T : Nat} {cs : Nat → List Nat} (h : IxGood B S g T cs) (hl : IxLay B (B + S) (fun b => ixKept g (ixSlots (cs b))) g') : IxGood B S g' (ixOff (fun b => ixKept g (ixSlots (cs b))) B) (ixChains B (fun b => ixKept g (ixSlots (cs b)))) := by
  have hle := ixOff_le h.inv (fun b => ixKept g (ixSlots (cs b))) (fun b _ => (ixKept_sub g (ixSlots (cs b))).length_le) B (Nat.le_refl _)
  rw [h.sum] at hle
  have := h.take
  refine ⟨hl.inv (by omega) (fun b hb x hx => ?_) (fun b hb => ?_), ixChains_sum B _ B, h.pow, h.sp⟩
  · have hx' := (ixKept_sub g (ixSlots (cs b))).subset hx
    obtain ⟨h0, s, hs, rfl⟩ := ixEnts_mem.1 hx'
    rcases h.words hb s hs with e | e
    · exact absurd e h0
    · exact e
  · exact (h.inv.pairs hb).sublist (ixKept_sub g (ixSlots (cs b)))
/-- A predicate that tells of a world: an index of the program at block x, its own blocks M, of so many buckets and spare ones, with these words, so many spare ones taken, so many calls played. -/
abbrev IxPred := World → (Nat → Prop) → Nat → Nat → Nat → (Nat → Nat) → Nat → Nat → Prop
/-- What the program's calls do to it. -/
structure IxProg (X : IxPred) : Prop where
  keep : ∀ {w w' : World} {M N : Nat → Prop} {x B S : Nat} {g : Nat → Nat} {T k : Nat}, X w M x B S g T k → Keeps N w w' → (∀ i, M i → ¬ N i) → X w' M x B S g T k
  lt : ∀ {w : World} {M : Nat → Prop} {x B S : Nat} {g : Nat → Nat} {T k : Nat}, X w M x B S g T k → ∀ i, M i → i < w.heap.size
  newY : ∀ (B S : Nat) (w : World), powB (B : Int) = true → S ≤ 64 → Calls Try.prog 6 #[.int .i64 (B : Int), .int .i64 (S : Int)] w fun e w' => ∃ (M : Nat → Prop) (x : Nat), e = .returned (.tuple #[.pointer (some ⟨x, 0, none⟩), .int .i64 0]) ∧ X w' M x B S (fun _ => 0) 0 0 ∧ (∀ i, M i → w.heap.size ≤ i) ∧ Below w.heap.size w w'
  newN : ∀ (B S : Int) (w : World), (powB B = false ∨ S < 0 ∨ 64 < S) → Calls Try.prog 6 #[.int .i64 B, .int .i64 S] w fun e w' => e = .returned (.tuple #[.pointer none, .int .i64 1]) ∧ Below w.heap.size w w'
  look : ∀ {w : World} {M : Nat → Prop} {x B S : Nat} {g : Nat → Nat} {T k : Nat} {cs : Nat → List Nat}, X w M x B S g T k → IxGood B S g T cs → k ≤ 1000 → ∀ (hN : Nat), hN < 18446744073709551616 → ∀ (b t kd sl xw : Nat), buckN hN (B : Int) = b → hN / 1125899906842624 = t → ixLook g (ixSlots (cs b)) t = (kd, sl, xw) →
    Calls Try.prog 16 #[.pointer (some ⟨x, 0, none⟩), .int .u64 (hN : Int)] w fun e w' => e = .returned (.tuple #[lookV kd sl xw (ixLast (cs b)), .int .i64 0]) ∧ X w' (More M w w') x B S g T k ∧ Keeps M w w'
  claim : ∀ {w : World} {M : Nat → Prop} {x B S : Nat} {g : Nat → Nat} {T k : Nat} {cs : Nat → List Nat}, X w M x B S g T k → IxGood B S g T cs → k ≤ 1000 → ∀ (s r j hN t : Nat), s = 8 * r + j → r < B + S → j < 7 → hN < 18446744073709551616 → hN / 1125899906842624 = t → g s = 0 →
    Calls Try.prog 17 #[.pointer (some ⟨x, 0, none⟩), .int .i64 (s : Int), .int .u64 (hN : Int)] w fun e w' => e = .returned (.tuple #[.bool true, .int .i64 0]) ∧ X w' (More M w w') x B S (ixUpd g s (entN 0 t true)) T (k + 1) ∧ Keeps M w w'
  turnY : ∀ {w : World} {M : Nat → Prop} {x B S : Nat} {g : Nat → Nat} {T k : Nat} {cs : Nat → List Nat}, X w M x B S g T k → IxGood B S g T cs → k ≤ 1000 → ∀ (s r j y a : Nat), s = 8 * r + j → r < B + S → j < 7 → g s = y → IxEn y → a < 18446744073709551616 → entB a (ixTag y) false = true →
    Calls Try.prog 18 #[.pointer (some ⟨x, 0, none⟩), .int .i64 (s : Int), .int .u64 (y : Int), .int .u64 (a : Int)] w fun e w' => e = .returned (.tuple #[.bool true, .int .i64 0]) ∧ X w' (More M w w') x B S (ixUpd g s (entN a (ixTag y) false)) T (k + 1) ∧ Keeps M w w'
  turnN : ∀ {w : World} {M : Nat → Prop} {x B S : Nat} {g : Nat → Nat} {T k : Nat} {cs : Nat → List Nat}, X w M x B S g T k → IxGood B S g T cs → k ≤ 1000 → ∀ (s r j y a : Nat), s = 8 * r + j → r < B + S → j < 7 → g s = y → IxEn y → a < 18446744073709551616 → entB a (ixTag y) false = false →
    Calls Try.prog 18 #[.pointer (some ⟨x, 0, none⟩), .int .i64 (s : Int), .int .u64 (y : Int), .int .u64 (a : Int)] w fun e w' => e = .returned (.tuple #[.bool false, .int .i64 1]) ∧ X w' (More M w w') x B S g T k ∧ Keeps M w w'
  spareY : ∀ {w : World} {M : Nat → Prop} {x B S : Nat} {g : Nat → Nat} {T k : Nat} {cs : Nat → List Nat}, X w M x B S g T k → IxGood B S g T cs → k ≤ 1000 → T < S →
    Calls Try.prog 19 #[.pointer (some ⟨x, 0, none⟩)] w fun e w' => e = .returned (.tuple #[.int .i64 ((B + T : Nat) : Int), .int .i64 0]) ∧ X w' (More M w w') x B S g (T + 1) k ∧ Keeps M w w'
  spareN : ∀ {w : World} {M : Nat → Prop} {x B S : Nat} {g : Nat → Nat} {T k : Nat} {cs : Nat → List Nat}, X w M x B S g T k → IxGood B S g T cs → k ≤ 1000 → S ≤ T →
    Calls Try.prog 19 #[.pointer (some ⟨x, 0, none⟩)] w fun e w' => e = .returned (.tuple #[.int .i64 0, .int .i64 9]) ∧ X w' (More M w w') x B S g T k ∧ Keeps M w w'
  link : ∀ {w : World} {M : Nat → Prop} {x B S : Nat} {g : Nat → Nat} {T k : Nat} {cs : Nat → List Nat}, X w M x B S g (T + 1) k → IxGood B S g T cs → k ≤ 1000 → T < S → ∀ (b : Nat), b < B →
    Calls Try.prog 20 #[.pointer (some ⟨x, 0, none⟩), .int .i64 (ixLast (cs b) : Int), .int .i64 ((B + T : Nat) : Int)] w fun e w' => e = .returned (.tuple #[.bool true, .int .i64 0]) ∧ X w' (More M w w') x B S (ixUpd g (8 * ixLast (cs b) + 7) (B + T + 1)) (T + 1) (k + 1) ∧ Keeps M w w'
  drop : ∀ {w : World} {M : Nat → Prop} {x B S : Nat} {g : Nat → Nat} {T k : Nat} {cs : Nat → List Nat}, X w M x B S g T k → IxGood B S g T cs → k ≤ 1000 →
    Calls Try.prog 9 #[.pointer (some ⟨x, 0, none⟩)] w fun e w' => ∃ (gone : Int) (g' : Nat → Nat), e = .returned (.int .i64 gone) ∧ X w' (More M w w') x B S g' (ixOff (fun b => ixKept g (ixSlots (cs b))) B) k ∧ IxLay B (B + S) (fun b => ixKept g (ixSlots (cs b))) g' ∧ Keeps M w w'
  same : ∀ {w : World} {M : Nat → Prop} {x B S : Nat} {g g' : Nat → Nat} {T k : Nat}, X w M x B S g T k → (∀ i, i < 8 * (B + S) → g i = g' i) → X w M x B S g' T k
/-- Both indexes in a world: the program's and the reference's, each with what it tells; all they have lies from base on. -/
structure IxTw (X : IxPred) (w : World) (base x m B S : Nat) (M : Nat → Prop) (r : Nat) (gp : Nat → Nat) (Tp k : Nat) (gr : Nat → Nat) (Tr won : Nat) : Prop where
  p : X w M x B S gp Tp k
  q : RxIs w m r B S gr Tr won 0
  ap : ¬ M m ∧ ¬ M r
  ob : ∀ i, M i → base ≤ i
  om : base ≤ m ∧ base ≤ r
  bs : base ≤ w.heap.size
section
variable {X : IxPred} (C : IxProg X) {w w' : World} {base x m B S : Nat} {M : Nat → Prop} {r : Nat} {gp : Nat → Nat} {Tp k : Nat} {gr : Nat → Nat} {Tr won : Nat}
include C in
theorem IxTw.below (h : IxTw X w base x m B S M r gp Tp k gr Tr won) (hb : Below w.heap.size w w') : IxTw X w' base x m B S M r gp Tp k gr Tr won :=
  ⟨C.keep h.p (N := fun _ => False) (Below.keeps hb) (fun _ _ => id), h.q.below hb, h.ap, h.ob, h.om, Nat.le_trans h.bs hb.size⟩
/-- The program's call. -/
theorem IxTw.prog (h : IxTw X w base x m B S M r gp Tp k gr Tr won) {gp' : Nat → Nat} {Tp' k' : Nat} (hp : X w' (More M w w') x B S gp' Tp' k') (hk : Keeps M w w') :
    IxTw X w' base x m B S (More M w w') r gp' Tp' k' gr Tr won ∧ Below base w w' := by
  obtain ⟨l1, l2⟩ := h.q.lt
  refine ⟨⟨hp, h.q.keep hk h.ap.1 h.ap.2, ⟨fun e => ?_, fun e => ?_⟩, fun i hi => ?_, h.om, Nat.le_trans h.bs hk.size⟩, hk.below h.bs h.ob⟩
  · rcases e with e | e
    · exact h.ap.1 e
    · omega
  · rcases e with e | e
    · exact h.ap.2 e
    · omega
  · rcases hi with hi | hi
    · exact h.ob i hi
    · have := h.bs; omega
include C in
/-- The reference's. -/
theorem IxTw.ref (h : IxTw X w base x m B S M r gp Tp k gr Tr won) {r' : Nat} {gr' : Nat → Nat} {Tr' won' : Nat} (hr : RxIs w' m r' B S gr' Tr' won' 0) (hk : Keeps (RxOwn m r) w w') (hn : r' = r ∨ w.heap.size ≤ r') :
    IxTw X w' base x m B S M r' gp Tp k gr' Tr' won' ∧ Below base w w' := by
  have hbs := h.bs
  refine ⟨⟨C.keep h.p hk (fun i hi e => ?_), hr, ⟨h.ap.1, ?_⟩, h.ob, ⟨h.om.1, ?_⟩, Nat.le_trans h.bs hk.size⟩, hk.below h.bs (fun i hi => ?_)⟩
  · rcases e with e | e
    · subst e; exact h.ap.1 hi
    · subst e; exact h.ap.2 hi
  · rcases hn with rfl | e
    · exact h.ap.2
    · intro hm
      have := C.lt h.p _ hm
      omega
  · rcases hn with rfl | e
    · exact h.om.2
    · omega
  · rcases hi with rfl | rfl
    · exact h.om.1
    · exact h.om.2
end
/-- Both tell the same, and what is known of it holds. -/
def IxOk (X : IxPred) (w : World) (base x m B S K : Nat) : Prop := ∃ (M : Nat → Prop) (r : Nat) (g : Nat → Nat) (T k won : Nat) (cs : Nat → List Nat), IxTw X w base x m B S M r g T k g T won ∧ IxGood B S g T cs ∧ k ≤ K ∧ won ≤ K
theorem IxOk.below {X : IxPred} (C : IxProg X) {w w' : World} {base x m B S K : Nat} (h : IxOk X w base x m B S K) (hb : Below w.heap.size w w') : IxOk X w' base x m B S K := by
  obtain ⟨M, r, g, T, k, won, cs, h1, h2, h3⟩ := h
  exact ⟨M, r, g, T, k, won, cs, h1.below C hb, h2, h3⟩
theorem IxOk.more {X : IxPred} {w : World} {base x m B S K K' : Nat} (h : IxOk X w base x m B S K) (hK : K ≤ K') : IxOk X w base x m B S K' := by
  obtain ⟨M, r, g, T, k, won, cs, h1, h2, h3, h4⟩ := h
  exact ⟨M, r, g, T, k, won, cs, h1, h2, by omega, by omega⟩
end Go.Proofs.Ytmpnbaiolmkhlaa
