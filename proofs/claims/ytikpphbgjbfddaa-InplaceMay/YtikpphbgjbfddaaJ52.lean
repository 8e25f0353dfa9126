/- Parts of the proof: Bl. -/
import Derived.Test.YtikpphbgjbfddaaJ37
import Derived.Test.YtikpphbgjbfddaaJ40
import Derived.Test.YtikpphbgjbfddaaJ51
namespace Go.Proofs.Ytikpphbgjbfddaa
set_option maxRecDepth 20000
open Go.RowKit
section
variable {w : World} {S M : Nat → Prop} {p t L V N nx sn k : Nat} {l a : Value}
set_option maxHeartbeats 1000000 in
theorem wb_none (h : PwAt w p (pwV t L V N 0 nx sn l a)) (hb : PB w S t 2 5 k (fun _ => none)) (hL : L < 18446744073709551616) :
    Calls Try.prog 41 #[.pointer (some ⟨p, 0, none⟩)] w fun e w' => e = .returned (.tuple #[.int .i64 0, .int .i64 7]) ∧ Below w.heap.size w w' := by
  have HL : Hid (∀ n, Calls Try.prog 16 #[.pointer (some ⟨t, 0, none⟩), .int .u64 (L : Int)] (w.drewN n) fun e w' => e = .returned (.tuple #[.int .u64 0, .int .i64 7]) ∧ Below (w.drewN n).heap.size (w.drewN n) w') := fun n => by
    obtain ⟨fb, g, o, hp⟩ := hb
    exact pb_load_no (hp.below (below_drewN (Below.refl _ _) n)) L hL (fun _ v e => by cases e)
  have c0 := h.c0
  have c1 := h.c1
  have HS : Hid (∀ n z, Below (w.drewN n).heap.size (w.drewN n) z → z.cell? ⟨p, 0, none⟩ = some (.pointer (some ⟨t, 0, none⟩)) ∧ z.cell? ⟨p, 1, none⟩ = some (.int .u64 (L : Int))) := fun n z hz => ⟨((h.drewN n).below hz).c0, ((h.drewN n).below hz).c1⟩
  clear h hb hL
  go_enter Try.func41, Try.ntmps41
  go_wp2_with fail
  go_region_held3 (fun W => W.cell? ⟨p, 0, none⟩ = some (.pointer (some ⟨t, 0, none⟩)) ∧ W.cell? ⟨p, 1, none⟩ = some (.int .u64 (L : Int))) (first | assumption | go_keep) (first | (go_at_call 16; refine (HL.out 1).mono ?_; rintro e y1 ⟨rfl, b1⟩; have q1 := HS.out 1 y1 b1))
  have B1 := (below_drewN (Below.refl w.heap.size w) 1).trans (b1.mono (by simp))
  clear q1 b1 HS HL
  go_wp2
  go_ret2
  exact ⟨rfl, B1⟩
set_option maxHeartbeats 1000000 in
theorem rb_none (h : PwAt w p (pwV t L V N 0 nx sn l a)) (hb : PB w S t 2 5 k (fun _ => none)) (hL : L < 18446744073709551616) :
    Calls Try.prog 45 #[.pointer (some ⟨p, 0, none⟩)] w fun e w' => e = .returned (.tuple #[.int .i64 0, .int .i64 7]) ∧ Below w.heap.size w w' := by
  have HL : Hid (∀ n, Calls Try.prog 16 #[.pointer (some ⟨t, 0, none⟩), .int .u64 (L : Int)] (w.drewN n) fun e w' => e = .returned (.tuple #[.int .u64 0, .int .i64 7]) ∧ Below (w.drewN n).heap.size (w.drewN n) w') := fun n => by
    obtain ⟨fb, g, o, hp⟩ := hb
    exact pb_load_no (hp.below (below_drewN (Below.refl _ _) n)) L hL (fun _ v e => by cases e)
  have c0 := h.c0
  have c1 := h.c1
  have HS : Hid (∀ n z, Below (w.drewN n).heap.size (w.drewN n) z → z.cell? ⟨p, 0, none⟩ = some (.pointer (some ⟨t, 0, none⟩)) ∧ z.cell? ⟨p, 1, none⟩ = some (.int .u64 (L : Int))) := fun n z hz => ⟨((h.drewN n).below hz).c0, ((h.drewN n).below hz).c1⟩
  clear h hb hL
  go_enter Try.func45, Try.ntmps45
  go_wp2_with fail
  go_region_held3 (fun W => W.cell? ⟨p, 0, none⟩ = some (.pointer (some ⟨t, 0, none⟩)) ∧ W.cell? ⟨p, 1, none⟩ = some (.int .u64 (L : Int))) (first | assumption | go_keep) (first | (go_at_call 16; refine (HL.out 1).mono ?_; rintro e y1 ⟨rfl, b1⟩; have q1 := HS.out 1 y1 b1))
  have B1 := (below_drewN (Below.refl w.heap.size w) 1).trans (b1.mono (by simp))
  clear q1 b1 HS HL
  go_wp2
  go_ret2
  exact ⟨rfl, B1⟩
end
/-- Somebody at his first move. -/
def PM : MyPred := fun w M t p => (∃ (L V N nx sn : Nat) (l a : Value), L < 18446744073709551616 ∧ PwAt w p (pwV t L V N 0 nx sn l a)) ∧ M p ∧ ∀ i, M i → i < w.heap.size
theorem pm_keep {w w' : World} {M R : Nat → Prop} {t p : Nat} (h : PM w M t p) (hk : Keeps R w w') (hM : ∀ i, M i → ¬ R i) : PM w' M t p := by
  obtain ⟨⟨L, V, N, nx, sn, l, a, hL, h⟩, hp, hlt⟩ := h
  exact ⟨⟨L, V, N, nx, sn, l, a, hL, h.keep hk (hM p hp)⟩, hp, fun i hi => Nat.lt_of_lt_of_le (hlt i hi) hk.size⟩
theorem pm_same {w w' : World} {M : Nat → Prop} {t p : Nat} (h : PM w M t p) (hb : Below w.heap.size w w') : PM w' (More M w w') t p := by
  obtain ⟨⟨L, V, N, nx, sn, l, a, hL, h⟩, hp, hlt⟩ := h
  exact ⟨⟨L, V, N, nx, sn, l, a, hL, h.below hb⟩, .inl hp, fun i hi => hi.elim (fun q => Nat.lt_of_lt_of_le (hlt i q) hb.size) (fun q => q.2)⟩
theorem room5 (a : Nat) (ha : a ≤ 281474976710655) : roomN 5 a = 32 - a % 32 := by
  unfold roomN
  rw [if_pos ⟨by decide, ha⟩]; rfl
theorem may_fits (a K n : Nat) (hK : 1 ≤ K ∧ K ≤ 64) (hn : n ≤ 128) : mayR (a : Int) (K : Int) (n : Int) = true ↔ a ≤ 281474976710655 ∧ fitsB 5 a (sizeR K n : Int) = true := by
  unfold mayR fitsB
  rw [decide_eq_true_eq, decide_eq_true_eq]
  have hs : 1 ≤ sizeR K n := by unfold sizeR; omega
  simp only [Int.toNat_natCast]
  by_cases ha : a ≤ 281474976710655
  · rw [room5 a ha]
    omega
  · omega
section
variable {w : World} {S : Nat → Prop} {t k : Nat}
theorem ns_may (a key n : Int) (hp : PB w S t 2 5 k (fun _ => none)) (ha : 0 ≤ a ∧ a < 18446744073709551616) (hm : mayR a key n = true) : ∃ L V N : Nat, L < 18446744073709551616 ∧ N ≤ 1000000 ∧ ∀ y, Below w.heap.size w y →
    Calls Try.prog 37 #[.pointer (some ⟨t, 0, none⟩), .int .u64 a, .int .i64 key, .int .i64 n] y fun e w' => e = .returned (.tuple #[spotV (some ⟨t, 0, none⟩) L V N, .int .i64 0]) ∧ Below y.heap.size y w' := by
  have h' := hm
  unfold mayR at h'
  rw [decide_eq_true_eq] at h'
  obtain ⟨a0, rfl⟩ : ∃ a0 : Nat, a = (a0 : Int) := ⟨a.toNat, by omega⟩
  obtain ⟨k0, rfl⟩ : ∃ k0 : Nat, key = (k0 : Int) := ⟨key.toNat, by omega⟩
  obtain ⟨n0, rfl⟩ : ∃ n0 : Nat, n = (n0 : Int) := ⟨n.toNat, by omega⟩
  have hk : 1 ≤ k0 ∧ k0 ≤ 64 := by omega
  have hn : n0 ≤ 128 := by omega
  obtain ⟨h1, h2⟩ := (may_fits a0 k0 n0 hk hn).1 hm
  exact ⟨a0 + 1, a0 + (3 + wordsFor k0), wordsFor n0, by omega, by unfold wordsFor; omega, fun y hy => ns_yes (hp.below hy) a0 k0 n0 hk hn h1 h2⟩
theorem ns_not (a key n : Int) (hp : PB w S t 2 5 k (fun _ => none)) (ha : 0 ≤ a ∧ a < 18446744073709551616) (hm : mayR a key n = false) (y : World) (hy : Below w.heap.size w y) :
    Calls Try.prog 37 #[.pointer (some ⟨t, 0, none⟩), .int .u64 a, .int .i64 key, .int .i64 n] y fun e w' => e = .returned (.tuple #[spotV none 0 0 0, .int .i64 1]) ∧ Below y.heap.size y w' := by
  obtain ⟨a0, rfl⟩ : ∃ a0 : Nat, a = (a0 : Int) := ⟨a.toNat, by omega⟩
  by_cases h : key < 1 ∨ n < 0 ∨ 64 < key ∨ 128 < n
  · exact ns_len (hp.below hy) a0 key n (by omega) h
  · obtain ⟨k0, rfl⟩ : ∃ k0 : Nat, key = (k0 : Int) := ⟨key.toNat, by omega⟩
    obtain ⟨n0, rfl⟩ : ∃ n0 : Nat, n = (n0 : Int) := ⟨n.toNat, by omega⟩
    have hk : 1 ≤ k0 ∧ k0 ≤ 64 := by omega
    have hn : n0 ≤ 128 := by omega
    refine ns_fit (hp.below hy) a0 k0 n0 (by omega) hk hn ?_
    cases q : fitsB 5 a0 (sizeR k0 n0 : Int) with
    | false => rfl
    | true =>
      have ha' : a0 ≤ 281474976710655 := by
        unfold fitsB at q
        rw [decide_eq_true_eq] at q
        refine Classical.byContradiction fun e => ?_
        have : roomN 5 a0 = 0 := by unfold roomN; rw [if_neg (fun h => e h.2)]
        rw [this] at q
        omega
      rw [(may_fits a0 k0 n0 hk hn).2 ⟨ha', q⟩] at hm
      cases hm
end
theorem pmMay : InMay PM PM where
  keepW := pm_keep
  keepR := pm_keep
  ltW := fun h => h.2.2
  ltR := fun h => h.2.2
  newWY := fun {w S t k} a key s hp ha hs hm => by
    obtain ⟨L, V, N, hL, _, HN⟩ := ns_may a key (s.size : Int) hp ha hm
    refine (nw_yes (t := t) (L := L) (V := V) (N := N) a key s hs (HN w (Below.refl _ _))).mono ?_
    rintro e w' ⟨p, g, rfl, hat, _, _, hpg, _, hb⟩
    exact ⟨fun i => i = p, p, rfl, ⟨⟨L, V, N, 0, 0, _, _, hL, hat⟩, rfl, fun i e => by rw [e]; exact hat.lt⟩, fun i e => by rw [e]; exact hpg, hb⟩
  newWN := fun {w S t k} a key s hp ha _ hm => nw_no _ a key s 1 (by decide) (ns_not a key _ hp ha hm w (Below.refl _ _))
  newRY := fun {w S t k} a key n hp ha hm => by
    obtain ⟨L, V, N, hL, hN, HN⟩ := ns_may a key n hp ha hm
    refine (nr_yes (t := t) (L := L) (V := V) (N := N) a key n hN (HN w (Below.refl _ _))).mono ?_
    rintro e w' ⟨p, g, rfl, hat, _, _, hpg, _, hb⟩
    exact ⟨fun i => i = p, p, rfl, ⟨⟨L, V, N, 0, 0, _, _, hL, hat⟩, rfl, fun i e => by rw [e]; exact hat.lt⟩, fun i e => by rw [e]; exact hpg, hb⟩
  newRN := fun {w S t k} a key n hp ha hm => nr_no _ a key n 1 (by decide) (ns_not a key n hp ha hm w (Below.refl _ _))
  newAY := fun {w S t k} a key hp ha hm => by
    obtain ⟨L, V, N, hL, _, HN⟩ := ns_may a key 8 hp ha hm
    refine (na_yes (t := t) (L := L) (V := V) (N := N) a key 1 (by decide) HN).mono ?_
    rintro e w' ⟨p, g, rfl, _, _, _, _, _, hb⟩
    exact ⟨p, rfl, hb⟩
  newAN := fun {w S t k} a key hp ha hm => na_no _ a key 1 1 (by decide) (fun y hy => ns_not a key 8 hp ha hm y hy)
  moveW := fun {w M S t p k} h hp hMS => by
    have h0 := h
    obtain ⟨⟨L, V, N, nx, sn, l, a, hL, h⟩, hpm, hlt⟩ := h
    refine wm_zero h ((wb_none h hp hL).mono ?_)
    rintro e w' ⟨rfl, hb⟩
    exact ⟨rfl, pm_same h0 hb, Below.keeps hb⟩
  moveR := fun {w M S t p k} h hp hMS => by
    have h0 := h
    obtain ⟨⟨L, V, N, nx, sn, l, a, hL, h⟩, hpm, hlt⟩ := h
    refine rm_zero h ((rb_none h hp hL).mono ?_)
    rintro e w' ⟨rfl, hb⟩
    exact ⟨rfl, pm_same h0 hb, Below.keeps hb⟩
  holds := fun h => by
    obtain ⟨⟨L, V, N, nx, sn, l, a, hL, h⟩, _, _⟩ := h
    exact wh_any h false rfl
  value := fun h => by
    obtain ⟨⟨L, V, N, nx, sn, l, a, hL, h⟩, _, _⟩ := h
    exact rv_none h (by decide)
  moveW0 := wm_nil
  moveR0 := rm_nil
  newR0 := fun a key n w => nr_no none a key n 2 (by decide) (ns_nil a key n w)
  holds0 := wh_nil
  value0 := rv_nil
end Go.Proofs.Ytikpphbgjbfddaa
