/- Parts of the proof: Jm Jn. -/
import Derived.Test.YtikpphbgjbfddaaJ3
import Derived.Test.YtikpphbgjbfddaaJ7
import Derived.Test.YtikpphbgjbfddaaJ8
import Derived.Test.YtikpphbgjbfddaaJ9
namespace Go.Proofs.Ytikpphbgjbfddaa
set_option maxRecDepth 20000
open Go.RowKit
/-- A record in page 0 of a buffer: its lock (word 2) and its value's words (from word 5 on) as told. -/
structure InBuf (w : World) (S : Nat → Prop) (t k N : Nat) (c : Ce) : Prop where
  ex : ∃ (F : Nat → Option Pg) (V : Nat → Int), PB w S t 2 6 k F ∧ F 0 = some (0, V) ∧ V 2 = (((if c.lk = true then 9223372036854775808 else 0) + c.ct : Nat) : Int) ∧ ∀ j, j < N → V (5 + j) = (c.l.getD j 0 : Int)
  few : N ≤ 16
theorem InBuf.keep {w w' : World} {S R : Nat → Prop} {t k N : Nat} {c : Ce} (h : InBuf w S t k N c) (hk : Keeps R w w') (hS : ∀ i, S i → ¬ R i) : InBuf w' S t k N c := by
  obtain ⟨F, V, h1, h2⟩ := h.ex
  exact ⟨⟨F, V, h1.keep hk hS, h2⟩, h.few⟩
/-- Who begins. -/
def wkW (l : List Nat) : Wk := ⟨false, false, 0, l, 0, false, 0, [], 0⟩
def wkA (n : Nat) : Wk := ⟨false, true, n, [], 0, false, 0, [], 0⟩
def wkR : Wk := ⟨true, false, 0, [], 0, false, 0, [], 0⟩
open Classical in
/-- The text of a value's words. -/
noncomputable def txtS (l : List Nat) (n : Nat) : ByteArray := if Empty (fun j => l.getD j 0) n l.length then ⟨(bytesL (fun j => l.getD j 0) n).toArray⟩ else ⟨#[]⟩
/-- A predicate that tells of a world: somebody of the program at block p over the buffer at block t, its own blocks M, a value of n bytes and N words, telling x. -/
abbrev InPred := World → (Nat → Prop) → Nat → Nat → Nat → Nat → Wk → Prop
/-- What the program's calls do. -/
structure InProg (X : InPred) : Prop where
  keep : ∀ {w w' : World} {M R : Nat → Prop} {t p N n : Nat} {x : Wk}, X w M t p N n x → Keeps R w w' → (∀ i, M i → ¬ R i) → X w' M t p N n x
  lt : ∀ {w : World} {M : Nat → Prop} {t p N n : Nat} {x : Wk}, X w M t p N n x → ∀ i, M i → i < w.heap.size
  em : ∀ {w : World} {M : Nat → Prop} {t p N n : Nat} {x : Wk}, X w M t p N n x → Empty (fun j => x.l.getD j 0) n N
  newW : ∀ {w : World} {S : Nat → Prop} {t k N : Nat} {c : Ce} (s : ByteArray), InBuf w S t k N c → s.size ≤ 128 → N = wordsFor s.size →
    Calls Try.prog 19 #[.pointer (some ⟨t, 0, none⟩), .int .u64 1, .int .i64 1, .string s] w fun e w' => ∃ (M : Nat → Prop) (p : Nat), e = .returned (.tuple #[.pointer (some ⟨p, 0, none⟩), .int .i64 0]) ∧ X w' M t p N s.size (wkW (wordsL s.data.toList N)) ∧ (∀ i, M i → w.heap.size ≤ i) ∧ Below w.heap.size w w'
  newA : ∀ {w : World} {S : Nat → Prop} {t k : Nat} {c : Ce} (n : Nat), InBuf w S t k 1 c → n < 18446744073709551616 →
    Calls Try.prog 21 #[.pointer (some ⟨t, 0, none⟩), .int .u64 1, .int .i64 1, .int .u64 (n : Int)] w fun e w' => ∃ (M : Nat → Prop) (p : Nat), e = .returned (.tuple #[.pointer (some ⟨p, 0, none⟩), .int .i64 0]) ∧ X w' M t p 1 8 (wkA n) ∧ (∀ i, M i → w.heap.size ≤ i) ∧ Below w.heap.size w w'
  newR : ∀ {w : World} {S : Nat → Prop} {t k N : Nat} {c : Ce} (n : Nat), InBuf w S t k N c → n ≤ 128 → N = wordsFor n →
    Calls Try.prog 20 #[.pointer (some ⟨t, 0, none⟩), .int .u64 1, .int .i64 1, .int .i64 (n : Int)] w fun e w' => ∃ (M : Nat → Prop) (p : Nat), e = .returned (.tuple #[.pointer (some ⟨p, 0, none⟩), .int .i64 0]) ∧ X w' M t p N n wkR ∧ (∀ i, M i → w.heap.size ≤ i) ∧ Below w.heap.size w w'
  moveW : ∀ {w : World} {M S : Nat → Prop} {t p k N n : Nat} {c : Ce} {x : Wk}, X w M t p N n x → InBuf w S t k N c → (∀ i, M i → ¬ S i) → CeOk N c → WkOk N x → x.rd = false → k ≤ 100000 → (x.holds = true → c.lk = true ∧ x.tk = c.ct) →
    Calls Try.prog 23 #[.pointer (some ⟨p, 0, none⟩)] w fun e w' => e = .returned (.tuple #[.int .i64 ((wkMove c x).1 : Int), .int .i64 0]) ∧ X w' (More M w w') t p N n (wkMove c x).2.2 ∧ InBuf w' S t (k + 1) N (wkMove c x).2.1 ∧ Keeps (fun i => M i ∨ S i) w w'
  moveR : ∀ {w : World} {M S : Nat → Prop} {t p k N n : Nat} {c : Ce} {x : Wk}, X w M t p N n x → InBuf w S t k N c → (∀ i, M i → ¬ S i) → CeOk N c → WkOk N x → x.rd = true → k ≤ 100000 →
    Calls Try.prog 24 #[.pointer (some ⟨p, 0, none⟩)] w fun e w' => e = .returned (.tuple #[.int .i64 ((wkMove c x).1 : Int), .int .i64 0]) ∧ X w' (More M w w') t p N n (wkMove c x).2.2 ∧ InBuf w' S t (k + 1) N (wkMove c x).2.1 ∧ Keeps (fun i => M i ∨ S i) w w'
  holds : ∀ {w : World} {M : Nat → Prop} {t p N n : Nat} {x : Wk}, X w M t p N n x → x.rd = false →
    Calls Try.prog 14 #[.pointer (some ⟨p, 0, none⟩)] w fun e w' => e = .returned (.bool x.holds) ∧ Below w.heap.size w w'
  holds0 : ∀ (w : World), Calls Try.prog 14 #[.pointer none] w fun e w' => e = .returned (.bool false) ∧ Below w.heap.size w w'
  value : ∀ {w : World} {M : Nat → Prop} {t p N n : Nat} {x : Wk}, X w M t p N n x → x.rd = true → WkOk N x → N = wordsFor n → N ≤ 16 → (x.dn = true → Empty (fun j => x.gt.getD j 0) n N) →
    Calls Try.prog 13 #[.pointer (some ⟨p, 0, none⟩)] w fun e w' => e = .returned (.string (if x.dn = true then txtS x.gt n else ⟨#[]⟩)) ∧ Below w.heap.size w w'
/-- The program's side: the buffer's blocks have the owner 1, its j-th worker's 4 + 2 j. -/
structure ScP (X : InPred) (w : World) (o : Nat → Nat) (t k N n K : Nat) (pw : Nat → Nat) (c : Ce) (xs : Nat → Wk) : Prop where
  buf : InBuf w (fun i => o i = 1) t k N c
  pr : ∀ j, j < K → X w (fun i => o i = 4 + 2 * j) t (pw j) N n (xs j)
/-- The reference's: the record's blocks have the owner 2, its j-th worker's 5 + 2 j. -/
structure ScR (w : World) (o : Nat → Nat) (B m : Nat) (v : Value) (K : Nat) (q : Nat → Nat) (vls vgs : Nat → Value) (c : Ce) (xs : Nat → Wk) : Prop where
  ce : RcIs w B m v c
  om : o m = 2
  ov : ∀ g, v.ownBlock = some g → o g = 2
  rf : ∀ j, j < K → RwIs w B (q j) (vls j) (vgs j) (xs j)
  oq : ∀ j, j < K → o (q j) = 5 + 2 * j
  ol : ∀ j, j < K → ∀ g, (vls j).ownBlock = some g → o g = 5 + 2 * j
  og : ∀ j, j < K → ∀ g, (vgs j).ownBlock = some g → o g = 5 + 2 * j
  a5 : ∀ j, j < K → ∀ g, (vls j).ownBlock = some g → (vgs j).ownBlock ≠ some g
structure ScO (w : World) (o : Nat → Nat) (B : Nat) : Prop where
  ge : ∀ i, o i ≠ 0 → B ≤ i ∧ i < w.heap.size
  bs : B ≤ w.heap.size
/-- New blocks have an owner. -/
def oNew (o : Nat → Nat) (a b r : Nat) : Nat → Nat := fun i => if a ≤ i ∧ i < b then r else o i
theorem oNew_old {o : Nat → Nat} {a b r i : Nat} (h : i < a) : oNew o a b r i = o i := by unfold oNew; rw [if_neg (by omega)]
theorem oNew_ne {w : World} {o : Nat → Nat} {B b r s : Nat} (ho : ScO w o B) (h : s ≠ r) (h0 : s ≠ 0) : (fun i => oNew o w.heap.size b r i = s) = fun i => o i = s := by
  funext i
  apply propext
  unfold oNew
  by_cases e : w.heap.size ≤ i ∧ i < b
  · rw [if_pos e]
    constructor
    · intro e'; exact absurd e'.symm h
    · intro e'
      have := ho.ge i (by rw [e']; exact h0)
      omega
  · rw [if_neg e]
theorem oNew_eq {w : World} {o : Nat → Nat} {B b r : Nat} (_ho : ScO w o B) : (fun i => oNew o w.heap.size b r i = r) = fun i => o i = r ∨ (w.heap.size ≤ i ∧ i < b) := by
  funext i
  apply propext
  unfold oNew
  by_cases e : w.heap.size ≤ i ∧ i < b
  · rw [if_pos e]; exact ⟨fun _ => .inr e, fun _ => rfl⟩
  · rw [if_neg e]; exact ⟨fun h => .inl h, fun h => h.elim id (fun h => absurd h e)⟩
section
variable {X : InPred} {w w' : World} {o : Nat → Nat} {B t m k N n K : Nat} {v : Value} {pw q : Nat → Nat} {vls vgs : Nat → Value} {c : Ce} {xs : Nat → Wk}
theorem ScO.keep (h : ScO w o B) {R : Nat → Prop} (hk : Keeps R w w') : ScO w' o B := ⟨fun i hi => ⟨(h.ge i hi).1, Nat.lt_of_lt_of_le (h.ge i hi).2 hk.size⟩, Nat.le_trans h.bs hk.size⟩
theorem ScO.new (h : ScO w o B) {R : Nat → Prop} (hk : Keeps R w w') (r : Nat) : ScO w' (oNew o w.heap.size w'.heap.size r) B := by
  refine ⟨fun i hi => ?_, Nat.le_trans h.bs hk.size⟩
  unfold oNew at hi
  by_cases e : w.heap.size ≤ i ∧ i < w'.heap.size
  · exact ⟨Nat.le_trans h.bs e.1, e.2⟩
  · rw [if_neg e] at hi
    exact ⟨(h.ge i hi).1, Nat.lt_of_lt_of_le (h.ge i hi).2 hk.size⟩
theorem ScP.keep (C : InProg X) (h : ScP X w o t k N n K pw c xs) {R : Nat → Prop} (hk : Keeps R w w') (hR : ∀ i, (o i = 1 ∨ ∃ j, j < K ∧ o i = 4 + 2 * j) → ¬ R i) : ScP X w' o t k N n K pw c xs :=
  ⟨h.buf.keep hk (fun i hi => hR i (.inl hi)), fun j hj => C.keep (h.pr j hj) hk (fun i hi => hR i (.inr ⟨j, hj, hi⟩))⟩
theorem ScR.keep (h : ScR w o B m v K q vls vgs c xs) {R : Nat → Prop} (hk : Keeps R w w') (hR : ∀ i, (o i = 2 ∨ ∃ j, j < K ∧ o i = 5 + 2 * j) → ¬ R i) : ScR w' o B m v K q vls vgs c xs :=
  ⟨h.ce.keep hk (hR m (.inl h.om)) (fun g hg => hR g (.inl (h.ov g hg))), h.om, h.ov, fun j hj => (h.rf j hj).keep hk (hR _ (.inr ⟨j, hj, h.oq j hj⟩)) (fun g hg => hR g (.inr ⟨j, hj, h.ol j hj g hg⟩)) (fun g hg => hR g (.inr ⟨j, hj, h.og j hj g hg⟩)), h.oq, h.ol, h.og, h.a5⟩
/-- New blocks of somebody else. -/
theorem ScP.fresh (ho : ScO w o B) (b r : Nat) (hr : r ≠ 1 ∧ ∀ j, j < K → r ≠ 4 + 2 * j) (h : ScP X w' o t k N n K pw c xs) : ScP X w' (oNew o w.heap.size b r) t k N n K pw c xs := by
  refine ⟨?_, fun j hj => ?_⟩
  · rw [oNew_ne ho (fun e => hr.1 e.symm) (by decide)]; exact h.buf
  · rw [oNew_ne ho (fun e => hr.2 j hj e.symm) (by omega)]; exact h.pr j hj
theorem ScR.fresh (h0 : ScR w o B m v K q vls vgs c xs) (b r : Nat) (h : ScR w' o B m v K q vls vgs c xs) : ScR w' (oNew o w.heap.size b r) B m v K q vls vgs c xs := by
  have lo : ∀ {z : Value} {xs' : List Value} {g : Nat} {l : Nat}, w.ownsRow B 43 1 z l xs' → z.ownBlock = some g → g < w.heap.size := fun {z xs' g l} hw hg => (World.ownsRow.lt hw g hg).2
  refine ⟨h.ce, by rw [oNew_old h0.ce.lt]; exact h.om, fun g hg => by rw [oNew_old (lo h0.ce.own hg)]; exact h.ov g hg, h.rf, fun j hj => by rw [oNew_old (h0.rf j hj).lt]; exact h.oq j hj, fun j hj g hg => by rw [oNew_old (lo (h0.rf j hj).ol hg)]; exact h.ol j hj g hg, fun j hj g hg => by rw [oNew_old (lo (h0.rf j hj).og hg)]; exact h.og j hj g hg, h.a5⟩
/-- The j-th worker of the program has moved. -/
theorem ScP.step (C : InProg X) (h : ScP X w o t k N n K pw c xs) (ho : ScO w o B) {j : Nat} (hj : j < K) {c' : Ce} {x' : Wk} {k' : Nat} (hx : X w' (More (fun i => o i = 4 + 2 * j) w w') t (pw j) N n x') (hb : InBuf w' (fun i => o i = 1) t k' N c') (hk : Keeps (fun i => o i = 4 + 2 * j ∨ o i = 1) w w') :
    ScP X w' (oNew o w.heap.size w'.heap.size (4 + 2 * j)) t k' N n K pw c' (wkUpd xs j x') := by
  refine ⟨?_, fun i hi => ?_⟩
  · rw [oNew_ne ho (by omega) (by decide)]; exact hb
  · by_cases e : i = j
    · subst e
      rw [wkUpd_same, oNew_eq ho]; exact hx
    · rw [wkUpd_ne e, oNew_ne ho (by omega) (by omega)]
      exact C.keep (h.pr i hi) hk (fun i hi => by omega)
/-- The j-th worker of the reference has moved. -/
theorem ScR.step (h : ScR w o B m v K q vls vgs c xs) {j : Nat} (hj : j < K) {c' : Ce} {x' : Wk} (hm : RmIs w w' B m v c' (q j) (vls j) (vgs j) x') :
    ∃ vls' vgs', ScR w' (oNew o w.heap.size w'.heap.size (5 + 2 * j)) B m v K q vls' vgs' c' (wkUpd xs j x') ∧ Keeps (fun i => o i = 2 ∨ o i = 5 + 2 * j) w w' := by
  obtain ⟨vl', vg', hW, hk, n1, n2⟩ := hm
  have lo : ∀ {z : Value} {xs' : List Value} {g : Nat} {l : Nat}, w.ownsRow B 43 1 z l xs' → z.ownBlock = some g → g < w.heap.size := fun {z xs' g l} hw hg => (World.ownsRow.lt hw g hg).2
  have lo' : ∀ {z : Value} {xs' : List Value} {g : Nat} {l : Nat}, w'.ownsRow B 43 1 z l xs' → z.ownBlock = some g → g < w'.heap.size := fun {z xs' g l} hw hg => (World.ownsRow.lt hw g hg).2
  have hk' : Keeps (fun i => o i = 2 ∨ o i = 5 + 2 * j) w w' := hk.wider (fun i _ hi => by
    rcases hi with hi | hi | hi | hi
    · subst hi; exact .inl h.om
    · exact .inl (h.ov i hi)
    · subst hi; exact .inr (h.oq j hj)
    · exact .inr (h.og j hj i hi))
  refine ⟨fun i => if i = j then vl' else vls i, fun i => if i = j then vg' else vgs i, ⟨hW.q, by rw [oNew_old h.ce.lt]; exact h.om, fun g hg => by rw [oNew_old (lo h.ce.own hg)]; exact h.ov g hg, fun i hi => ?_, fun i hi => by rw [oNew_old (h.rf i hi).lt]; exact h.oq i hi, fun i hi g hg => ?_, fun i hi g hg => ?_, fun i hi g hg => ?_⟩, hk'⟩
  · by_cases e : i = j
    · subst e; rw [wkUpd_same, if_pos rfl, if_pos rfl]; exact hW.r
    · rw [wkUpd_ne e, if_neg e, if_neg e]
      refine (h.rf i hi).keep hk' ?_ (fun g hg => ?_) (fun g hg => ?_)
      · have := h.oq i hi; omega
      · have := h.ol i hi g hg; omega
      · have := h.og i hi g hg; omega
  · by_cases e : i = j
    · subst e
      rw [if_pos rfl] at hg
      rcases n1 g hg with h1 | h1
      · rw [oNew_old (lo (h.rf i hi).ol h1)]; exact h.ol i hi g h1
      · unfold oNew; rw [if_pos ⟨h1, lo' hW.r.ol hg⟩]
    · rw [if_neg e] at hg
      rw [oNew_old (lo (h.rf i hi).ol hg)]; exact h.ol i hi g hg
  · by_cases e : i = j
    · subst e
      rw [if_pos rfl] at hg
      rcases n2 g hg with h1 | h1
      · rw [oNew_old (lo (h.rf i hi).og h1)]; exact h.og i hi g h1
      · unfold oNew; rw [if_pos ⟨h1, lo' hW.r.og hg⟩]
    · rw [if_neg e] at hg
      rw [oNew_old (lo (h.rf i hi).og hg)]; exact h.og i hi g hg
  · by_cases e : i = j
    · subst e
      rw [if_pos rfl] at hg ⊢
      exact hW.a5 g hg
    · rw [if_neg e] at hg ⊢
      exact h.a5 i hi g hg
/-- What the reference's move asks. -/
theorem ScR.both (h : ScR w o B m v K q vls vgs c xs) {j : Nat} (hj : j < K) : RcW w B m v c (q j) (vls j) (vgs j) (xs j) := by
  have om := h.om
  have oq := h.oq j hj
  refine ⟨h.ce, h.rf j hj, fun e => by rw [e, oq] at om; omega, fun e => by have := h.ov _ e; omega, ⟨fun e => by have := h.ol j hj _ e; omega, fun e => by have := h.og j hj _ e; omega⟩, fun g hg => ⟨fun e => by have := h.ol j hj _ e; have := h.ov g hg; omega, fun e => by have := h.og j hj _ e; have := h.ov g hg; omega⟩, h.a5 j hj⟩
end
end Go.Proofs.Ytikpphbgjbfddaa
namespace Go.Proofs.Ytikpphbgjbfddaa
set_option maxRecDepth 20000
open Go.RowKit
/-- May there be a record of such lengths at such an address of pages of 32 words? -/
def mayR (a key v : Int) : Bool := decide (1 ≤ key ∧ key ≤ 64 ∧ 0 ≤ v ∧ v ≤ 128 ∧ a < 281474976710656 ∧ (sizeR key.toNat v.toNat : Int) + a % 32 ≤ 32)
set_option maxHeartbeats 400000 in
theorem rmay_no (a key v : Int) (w : World) (h : key < 1 ∨ 64 < key ∨ v < 0 ∨ 128 < v) :
    Calls Try.prog 22 #[.int .i64 32, .int .u64 a, .int .i64 key, .int .i64 v] w fun e w' => e = .returned (.bool false) ∧ w' = w := by
  by_cases h1 : key < 0 ∨ v < 0 ∨ 64 < key ∨ 128 < v
  · have HS := hide (rsize_no key v w h1)
    clear h h1
    by_cases hk : key < 1
    · go_enter Try.func22, Try.ntmps22
      go_wp2_with fail
      refine HS.out.mono ?_
      rintro e x ⟨rfl, rfl⟩
      go_wp2
      go_ret
      exact ⟨rfl, rfl⟩
    · go_enter Try.func22, Try.ntmps22
      go_wp2_with fail
      refine HS.out.mono ?_
      rintro e x ⟨rfl, rfl⟩
      go_wp2
      go_ret
      exact ⟨rfl, rfl⟩
  · obtain ⟨k0, rfl⟩ : ∃ k0 : Nat, key = (k0 : Int) := ⟨key.toNat, by omega⟩
    obtain ⟨v0, rfl⟩ : ∃ v0 : Nat, v = (v0 : Int) := ⟨v.toNat, by omega⟩
    have HS := hide (rsize_yes k0 v0 w (by omega) (by omega))
    have hk : (k0 : Int) < 1 := by omega
    clear h h1
    generalize sizeR k0 v0 = n at *
    go_enter Try.func22, Try.ntmps22
    go_wp2_with fail
    refine HS.out.mono ?_
    rintro e x ⟨rfl, rfl⟩
    go_wp2
    go_ret
    exact ⟨rfl, rfl⟩
set_option maxHeartbeats 400000 in
theorem rmay_far (a : Int) (k v : Nat) (w : World) (hk : 1 ≤ k ∧ k ≤ 64) (hv : v ≤ 128) (ha : 281474976710656 ≤ a) :
    Calls Try.prog 22 #[.int .i64 32, .int .u64 a, .int .i64 (k : Int), .int .i64 (v : Int)] w fun e w' => e = .returned (.bool false) ∧ w' = w := by
  have HS := hide (rsize_yes k v w (by omega) (by omega))
  have hn : 0 < (sizeR k v : Int) := by unfold sizeR; omega
  have hk1 : 1 ≤ (k : Int) := by omega
  have ha' : ¬ a < 281474976710656 := by omega
  obtain ⟨n, hN⟩ : ∃ n : Int, (sizeR k v : Int) = n := ⟨_, rfl⟩
  rw [hN] at HS hn
  clear hN hk hv
  generalize (k : Int) = K at *
  go_enter Try.func22, Try.ntmps22
  go_wp2_with fail
  refine HS.out.mono ?_
  rintro e x ⟨rfl, rfl⟩
  go_wp2
  go_ret
  exact ⟨rfl, rfl⟩
set_option maxHeartbeats 400000 in
theorem rmay_near (a : Int) (k v : Nat) (w : World) (hk : 1 ≤ k ∧ k ≤ 64) (hv : v ≤ 128) (ha : 0 ≤ a ∧ a < 281474976710656) :
    Calls Try.prog 22 #[.int .i64 32, .int .u64 a, .int .i64 (k : Int), .int .i64 (v : Int)] w fun e w' => e = .returned (.bool (decide ((sizeR k v : Int) + a % 32 ≤ 32))) ∧ w' = w := by
  have HS := hide (rsize_yes k v w (by omega) (by omega))
  have hn : 0 < (sizeR k v : Int) := by unfold sizeR; omega
  have hk1 : 1 ≤ (k : Int) := by omega
  have ha' : a < 281474976710656 := ha.2
  obtain ⟨n, hN⟩ : ∃ n : Int, (sizeR k v : Int) = n := ⟨_, rfl⟩
  rw [hN] at HS hn ⊢
  obtain ⟨r, hR⟩ : ∃ r : Int, a % 32 = r := ⟨_, rfl⟩
  have h1 : a.tmod 32 = r := by rw [← hR]; exact Int.tmod_eq_emod_of_nonneg ha.1
  have h2 : IntKind.u64.wrap 32 = 32 := by decide
  have h3 : 0 ≤ r ∧ r < 32 := by omega
  have h4 : wrap64 r = r := IntWalk.wrap64_in _ (by omega)
  have h5 : IntKind.i64.wrap r = r := IntWalk.i64_in _ (by omega)
  have h6 : IntKind.u64.wrap r = r := IntWalk.u64_in _ (by omega)
  obtain ⟨b, HB⟩ : ∃ b, Hid (decide (n + r ≤ 32) = b) := ⟨_, rfl⟩
  rw [hR, HB.out]
  have hb : decide (n ≤ 32 - r) = b := by rw [← HB.out]; exact decide_eq_decide.2 (by omega)
  clear hN hk hv
  generalize (k : Int) = K at *
  go_enter Try.func22, Try.ntmps22
  go_wp2_with fail
  refine HS.out.mono ?_
  rintro e x ⟨rfl, rfl⟩
  go_wp2
  go_ret
  exact ⟨by first | rfl | (simp [hb]; done), rfl⟩
theorem rmay_any (a key v : Int) (w : World) (ha : 0 ≤ a) :
    Calls Try.prog 22 #[.int .i64 32, .int .u64 a, .int .i64 key, .int .i64 v] w fun e w' => e = .returned (.bool (mayR a key v)) ∧ w' = w := by
  unfold mayR
  by_cases h : key < 1 ∨ 64 < key ∨ v < 0 ∨ 128 < v
  · rw [decide_eq_false (by omega)]
    exact rmay_no a key v w h
  · obtain ⟨k0, rfl⟩ : ∃ k0 : Nat, key = (k0 : Int) := ⟨key.toNat, by omega⟩
    obtain ⟨v0, rfl⟩ : ∃ v0 : Nat, v = (v0 : Int) := ⟨v.toNat, by omega⟩
    by_cases h2 : 281474976710656 ≤ a
    · rw [decide_eq_false (by omega)]
      exact rmay_far a k0 v0 w (by omega) (by omega) h2
    · refine (rmay_near a k0 v0 w (by omega) (by omega) (by omega)).mono ?_
      rintro e w' ⟨rfl, rfl⟩
      refine ⟨ret_bool (decide_eq_decide.2 ?_), rfl⟩
      simp only [Int.toNat_natCast]
      omega
end Go.Proofs.Ytikpphbgjbfddaa
