/- Whatever the input, haycroftlaw14.TailApart returns true and changes no argument. Conditions: none. -/
import Derived.Test.YtpkoohpobcfjcaaTg
import Derived.Test.YtpkoohpobcfjcaaRows
import Derived.WalkKit
import Derived.ProofKit
import Derived.OpenShut
import Derived.ShutString
import Derived.ChangeOld
import Derived.Below
import Derived.ChangeSame
namespace Go.Proofs.Ytpkoohpobcfjcaa.tailApart
open Go.ChangeShapes Go.WideShapes Go.ChangeAt Go.RowKit
open Go.ChangeMaps (open_string shut_string)
set_option linter.unusedVariables false
theorem own : ownKnob Try.prog.godebug = none := by kernel_rfl
theorem laidOut : laidOutB Try.prog = true := by kernel_rfl

/-- What the law keeps. -/
structure Ap (B t r b g : Nat) (bs : Int) (sp P O won : Nat) (tn : Nat → Nat) (v : Value) (L : List R2) (w : World) : Prop where
  p : TlAt w t r b bs sp P O won
  tc : ∀ j, j < 64 → w.cell? ⟨g, j, none⟩ = some (.int .i64 (tn j : Int))
  tf : ∀ j, j < 64 → w.frozen? ⟨g, j, none⟩ = false
  ow : Own2 w v L
  gr : ¬ InRow r b g
  gt : g ≠ t
  vo : ∀ k, v.ownBlock = some k → ¬ InRow r b k ∧ k ≠ t ∧ k ≠ g ∧ B ≤ k
  lg : B ≤ g
  lr : B ≤ r
  lb : B ≤ b
  fin : ∀ j, j < L.length → (getR L j).t ≤ P * sizeN bs + min O (sizeN bs)
  tz : ∀ j, P < j → tn j = 0
  tp : O ≤ sizeN bs → tn P = 0
  po : 1 ≤ P + O
section
variable {B t r b g : Nat} {bs : Int} {sp P O won : Nat} {tn : Nat → Nat} {v : Value} {L : List R2} {w w' : World}
theorem Ap.below (h : Ap B t r b g bs sp P O won tn v L w) (hb : Below w.heap.size w w') : Ap B t r b g bs sp P O won tn v L w' :=
  ⟨h.p.below hb, fun j hj => by rw [hb.cell (World.block_lt_of_cell? w _ (h.tc j hj))]; exact h.tc j hj, fun j hj => by rw [hb.frozen (World.block_lt_of_cell? w _ (h.tc j hj))]; exact h.tf j hj, h.ow.below hb, h.gr, h.gt, h.vo, h.lg, h.lr, h.lb, h.fin, h.tz, h.tp, h.po⟩
theorem Ap.drew (h : Ap B t r b g bs sp P O won tn v L w) (k : Nat) : Ap B t r b g bs sp P O won tn v L (w.drewN k) := h.below (below_drewN (Below.refl _ _) k)
/-- The tail has gone on. -/
theorem Ap.on {P' O' won' : Nat} (h : Ap B t r b g bs sp P O won tn v L w) (hp : TlAt w' t r b bs sp P' O' won') (hk : Keeps (InRow r b) w w')
    (h1 : P * sizeN bs + min O (sizeN bs) ≤ P' * sizeN bs + min O' (sizeN bs)) (h2 : ∀ j, P' < j → tn j = 0) (h3 : O' ≤ sizeN bs → tn P' = 0) (h4 : 1 ≤ P' + O') : Ap B t r b g bs sp P' O' won' tn v L w' :=
  ⟨hp, fun j hj => by rw [hk.cell (World.block_lt_of_cell? w _ (h.tc j hj)) h.gr]; exact h.tc j hj, fun j hj => by rw [hk.frozen (World.block_lt_of_cell? w _ (h.tc j hj)) h.gr]; exact h.tf j hj,
    h.ow.keep hk (fun k hk => (h.vo k hk).1), h.gr, h.gt, h.vo, h.lg, h.lr, h.lb, fun j hj => Nat.le_trans (h.fin j hj) h1, h2, h3, h4⟩
theorem Ap.into (h : Ap B t r b g bs sp P O won tn v L w) : ∀ k, InRow r b k → B ≤ k := fun k hk => by
  have := h.lr; have := h.lb
  rcases hk with hk | hk <;> omega
/-- The page's turn is told. -/
theorem Ap.mark (h : Ap B t r b g bs sp P O won tn v L w) (hP : P < 64) (hO : sizeN bs < O) : Ap B t r b g bs sp P O won (fun j => if j = P then 1 else tn j) v L (w.setCell ⟨g, P, none⟩ (.int .i64 1)) := by
  have kg : Keeps (fun k => k = g) w (w.setCell ⟨g, P, none⟩ (.int .i64 1)) := (Keeps.refl (fun k => k = g) w).setCell ⟨g, P, none⟩ (fun _ => rfl) _
  refine ⟨h.p.keep kg (fun e => h.gt e.symm) (fun e => h.gr (.inl e.symm)) (fun e => h.gr (.inr e.symm)), fun j hj => ?_, fun j hj => by rw [World.frozen?_setCell]; exact h.tf j hj, h.ow.keep kg (fun k hk => (h.vo k hk).2.2.1), h.gr, h.gt, h.vo, h.lg, h.lr, h.lb, h.fin, fun j hj => ?_, fun hl => absurd hl (by omega), h.po⟩
  · by_cases e : j = P
    · subst e
      rw [World.cell?_setCell_same _ _ _ (h.tc _ hj)]
      simp
    · rw [cell_set_off _ _ _ _ (fun c => e c.symm), if_neg e]; exact h.tc j hj
  · show (if j = P then 1 else tn j) = 0
    rw [if_neg (by omega)]; exact h.tz j hj
/-- A room is got. -/
theorem Ap.got {v' : Value} {x : R2} (h : Ap B t r b g bs sp P O won tn v L w) (K : Keeps (fun k => v.ownBlock = some k) w w') (ho : Own2 w' v' (L ++ [x])) (hv : ∀ k, v'.ownBlock = some k → v.ownBlock = some k ∨ w.heap.size ≤ k) (hB : B ≤ w.heap.size)
    (hx : x.t ≤ P * sizeN bs + min O (sizeN bs)) : Ap B t r b g bs sp P O won tn v' (L ++ [x]) w' ∧ Below B w w' := by
  have hgl : g < w.heap.size := World.block_lt_of_cell? w _ (h.tc 0 (by decide))
  have htl := h.p.lt
  refine ⟨⟨h.p.keep K (fun e => (h.vo _ e).2.1 rfl) (fun e => (h.vo _ e).1 (.inl rfl)) (fun e => (h.vo _ e).1 (.inr rfl)), fun j hj => ?_, fun j hj => ?_, ho, h.gr, h.gt, fun k hk => ?_, h.lg, h.lr, h.lb, fun j hj => ?_, h.tz, h.tp, h.po⟩, K.below hB (fun k hk => (h.vo k hk).2.2.2)⟩
  · rw [K.cell (World.block_lt_of_cell? w _ (h.tc j hj)) (fun e => (h.vo _ e).2.2.1 rfl)]; exact h.tc j hj
  · rw [K.frozen (World.block_lt_of_cell? w _ (h.tc j hj)) (fun e => (h.vo _ e).2.2.1 rfl)]; exact h.tf j hj
  · rcases hv k hk with hk | hk
    · exact h.vo k hk
    · have hbl : b < w.heap.size := World.block_lt_of_cell? w _ (h.p.row.cs 0 (by decide))
      have hrl : r < w.heap.size := World.block_lt_of_cell? w _ h.p.row.c0
      exact ⟨fun e => by rcases e with e | e <;> omega, by omega, by omega, by omega⟩
  · rw [getR_snoc _ _ _ (by simpa using hj)]
    split
    · rename_i hj'; exact h.fin j hj'
    · exact hx
end
theorem turn_on (S sp P O : Nat) : P * S + min O S ≤ turnP S sp P O * S + min (turnO S sp P O) S ∧ (∀ tn : Nat → Nat, (∀ j, P < j → tn j = 0) → ∀ j, turnP S sp P O < j → tn j = 0)
    ∧ (∀ tn : Nat → Nat, (∀ j, P < j → tn j = 0) → (O ≤ S → tn P = 0) → turnO S sp P O ≤ S → tn (turnP S sp P O) = 0) ∧ (1 ≤ P + O → 1 ≤ turnP S sp P O + turnO S sp P O) := by
  unfold turnP turnO
  by_cases h : O ≤ S ∨ sp ≤ P + 1
  · rw [if_pos h, if_pos h]
    exact ⟨Nat.le_refl _, fun _ h => h, fun _ _ h => h, id⟩
  · rw [if_neg h, if_neg h]
    refine ⟨?_, fun tn h j hj => h j (by omega), fun tn h _ _ => h _ (by omega), fun _ => by omega⟩
    rw [Nat.add_mul]; omega
theorem close_on (S sp P O : Nat) : P * S + min O S ≤ closeP sp P O * S + min (closeO sp P O) S ∧ (∀ tn : Nat → Nat, (∀ j, P < j → tn j = 0) → ∀ j, closeP sp P O < j → tn j = 0)
    ∧ (∀ tn : Nat → Nat, (∀ j, P < j → tn j = 0) → (O ≤ S → tn P = 0) → closeO sp P O ≤ S → tn (closeP sp P O) = 0) ∧ (1 ≤ P + O → 1 ≤ closeP sp P O + closeO sp P O) := by
  unfold closeP closeO
  by_cases h : O = 0 ∨ sp ≤ P + 1
  · rw [if_pos h, if_pos h]
    exact ⟨Nat.le_refl _, fun _ h => h, fun _ _ h => h, id⟩
  · rw [if_neg h, if_neg h]
    refine ⟨?_, fun tn h j hj => h j (by omega), fun tn h _ _ => h _ (by omega), fun _ => by omega⟩
    rw [Nat.add_mul]; omega
theorem fits_at (bs : Int) (P O N : Nat) (hb : 5 ≤ bs ∧ bs ≤ 9) (hP : P < 64) (h1 : 1 ≤ N) (h2 : O + N ≤ sizeN bs) : fitsB bs (P * sizeN bs + O) (N : Int) = true := by
  have hs := sizeN_bounds bs
  have hm : P * sizeN bs ≤ 64 * 512 := Nat.mul_le_mul (by omega) hs
  have e : 2 ^ bs.toNat = sizeN bs := (sizeN_yes hb).symm
  have em : (P * sizeN bs + O) % sizeN bs = O := by rw [Nat.add_comm, Nat.add_mul_mod_self_right, Nat.mod_eq_of_lt (by omega)]
  simp only [fitsB, decide_eq_true_eq, roomN, e]
  rw [if_pos ⟨hb, by omega⟩, em]
  omega
/-- What comes of asking: a room, a turn, or neither. -/
theorem take_cases (S sp P O : Nat) (n : Int) (hn : -9223372036854775808 ≤ n) :
    (∃ N : Nat, n = (N : Int) ∧ takeK S sp P O n = 1 ∧ 1 ≤ N ∧ O + N ≤ S ∧ takeA S P O n = P * S + O ∧ takeO S O n = O + N)
    ∨ (takeK S sp P O n = 2 ∧ O ≤ S ∧ S < takeO S O n)
    ∨ (takeK S sp P O n ≠ 1 ∧ takeK S sp P O n ≠ 2 ∧ O ≤ takeO S O n ∧ (takeO S O n ≤ S → takeO S O n = O)) := by
  by_cases h1 : n < 1 ∨ (S : Int) < n
  · right; right
    have eK : takeK S sp P O n = 0 := by unfold takeK; rw [if_pos h1]
    have eO : takeO S O n = O := by unfold takeO; rw [if_pos (by omega)]
    rw [eK, eO]
    exact ⟨by decide, by decide, Nat.le_refl _, fun _ => rfl⟩
  · obtain ⟨N, rfl⟩ := Int.eq_ofNat_of_zero_le (show 0 ≤ n by omega)
    have eK : takeK S sp P O N = roomK S sp P O N := by unfold takeK; rw [if_neg h1, Int.toNat_natCast]
    have eA : takeA S P O N = roomA S P O N := by unfold takeA; rw [if_neg h1, Int.toNat_natCast]
    by_cases h2 : S < O
    · right; right
      have eO : takeO S O N = O := by unfold takeO; rw [if_pos (by omega)]
      rw [eK, eO]
      unfold roomK
      rw [if_neg (by omega)]
      by_cases h4 : sp ≤ P + 1
      · rw [if_pos h4]; exact ⟨by decide, by decide, Nat.le_refl _, fun _ => rfl⟩
      · rw [if_neg h4, if_pos h2]; exact ⟨by decide, by decide, Nat.le_refl _, fun _ => rfl⟩
    · have eO : takeO S O N = O + N := by unfold takeO; rw [if_neg (by omega), Int.toNat_natCast]
      rw [eK, eO, eA]
      unfold roomK roomA
      by_cases h3 : O + N ≤ S
      · left
        exact ⟨N, rfl, by rw [if_pos h3], by omega, h3, by rw [if_pos h3], rfl⟩
      · rw [if_neg h3]
        by_cases h4 : sp ≤ P + 1
        · right; right
          rw [if_pos h4]
          exact ⟨by decide, by decide, by omega, fun h => by omega⟩
        · right; left
          rw [if_neg h4, if_neg h2]
          exact ⟨rfl, by omega, by omega⟩
set_option maxHeartbeats 8000000 in
set_option maxRecDepth 10000 in
theorem walk (w : World) (bs : Int) (hbs : (Lit.int .i64 bs).wf = true) (sp : Int) (hsp : (Lit.int .i64 sp).wf = true) (v : Value) (o : IsTks w v) :
    Calls Try.prog 4 #[.int .i64 bs, .int .i64 sp, v] w fun e w' => e = .returned (.bool true) ∧ Below w.heap.size w w' := by
  obtain ⟨ao, len, cap, z, rfl, hlen, hs⟩ := o
  have HS := hide hs
  clear hs
  by_cases hg : (5 ≤ bs ∧ bs ≤ 9) ∧ 1 ≤ sp ∧ sp ≤ 64
  · obtain ⟨hb, hs1, hs2⟩ := hg
    obtain ⟨sp, rfl⟩ := Int.eq_ofNat_of_zero_le (show 0 ≤ sp by omega)
    have hs' : 1 ≤ sp ∧ sp ≤ 64 := by omega
    clear hbs hsp
    obtain ⟨i0, hi, hz0, hz1, hz2⟩ := info_parts Try.infoTnt
    go_enter Try.func4, Try.ntmps4
    go_wp2_with fail
    refine (awake14 _).mono ?_
    rintro e x1 ⟨rfl, b1⟩
    go_wp2_with fail
    refine (tNew_yes bs sp hb hs' _).mono ?_
    rintro e x2 ⟨t, r, b, rfl, h, ht, hr, hbk, b2⟩
    replace b2 := b1.trans (b2.mono b1.size)
    have hz := b1.size
    go_wp2_with (at_make; refine wpList_make_full _ rfl _ _ 44 rfl w.heap.size 3 i0 (.int .i64 0) 1 Try.underlying44 hi hz0 hz1 _ _ _ _ 64 rfl rfl rfl rfl ?b1 ?b2 (by have := b2.size; simp; omega) ?_)
    case b1 => rw [hz2]; decide
    case b2 => unfold maxLen; omega
    intro w1 hown hgrow
    have hrl : r < x2.heap.size := World.block_lt_of_cell? x2 _ h.row.c0
    have hbl : b < x2.heap.size := World.block_lt_of_cell? x2 _ (h.row.cs 0 (by decide))
    have htl : t < x2.heap.size := h.lt
    have hx0 : (x2.alloc (Obj.cells #[] 47)).heap.size = x2.heap.size + 1 := by simp
    have ho0 : Own2 (x2.alloc (Obj.cells #[] 47)) (.slice (some ⟨x2.heap.size, 0, none⟩) 0 0) [] := World.ownsRow_lit (base := 0) (e := 47) (size := 2) x2 #[] 0 (Nat.zero_le _) (by decide) rfl
    have hb0 : Below w.heap.size w (x2.alloc (Obj.cells #[] 47)) := b2.alloc b2.size _
    have h0 := h.alloc (Obj.cells #[] 47)
    generalize hX : x2.alloc (Obj.cells #[] 47) = X at *
    have hbw : Below X.heap.size X w1 := (Below.refl _ _).grown hgrow (Nat.le_refl _) (by simp)
    have hown1 : w1.ownsRow w.heap.size 3 1 (.slice (some ⟨x2.heap.size + 1, 0, none⟩) 64 64) 64 (List.replicate 64 (.int .i64 0)) := by
      simpa [Value.cells, toList_madeCells_one] using hown
    have hA : Ap w.heap.size t r b (x2.heap.size + 1) bs sp 0 1 0 (fun _ => 0) (.slice (some ⟨x2.heap.size, 0, none⟩) 0 0) [] w1 := by
      have hws := b2.size
      refine ⟨h0.below hbw, fun j hj => ?_, fun j hj => hown1.frozenAt j, ho0.below hbw, fun e => ?_, by omega, fun k hk => ?_, by omega, by omega, by omega, fun j hj => absurd hj (by simp), fun _ _ => rfl, fun _ => rfl, by omega⟩
      · rw [hown1.cellAt j (by omega), List.getElem?_replicate, if_pos hj]; rfl
      · rcases e with e | e <;> omega
      · have e : x2.heap.size = k := by simpa [Value.ownBlock] using hk
        subst e
        exact ⟨fun e => by rcases e with e | e <;> omega, by omega, by omega, by omega⟩
    have hB := hide (hb0.trans (hbw.mono (by rw [hx0]; have := b2.size; omega)))
    have HA := hide hA
    clear b1 b2 h ht hr hbk hz hrl hbl htl ho0 hb0 h0 hown hgrow hbw hown1 hA hX hx0
    go_wp2
    generalize x2.heap.size + 1 = g at *
    go_loopw [9, 11] (fun gt i wr => ∃ (k P O won : Nat) (tn : Nat → Nat) (L : List R2), k ≤ 200 ∧ k ≤ len ∧ i = .int .i64 k ∧ Ap w.heap.size t r b g bs sp P O won tn gt L wr ∧ won ≤ k ∧ L.length ≤ k ∧ Below w.heap.size w wr) (fun _ i _ => len - (intOf i).toNat)
    case atStart => exact ⟨0, 0, 1, 0, _, [], by omega, Nat.zero_le _, rfl, HA.out, Nat.zero_le _, Nat.zero_le _, hB.out⟩
    case round =>
      clear HA hB
      obtain ⟨k, P, O, won, tn, L, hk1, hk2, rfl, h, hwk, hLk, hbw⟩ := hrel
      by_cases hlt : k < len ∧ k < 200
      · obtain ⟨hl1, hl2⟩ := hlt
        obtain ⟨hok, bb, off, rfl, hA⟩ := HS.out.below hbw k hl1
        generalize z k = cc at *
        obtain ⟨ck, cn⟩ := cc
        obtain ⟨hck, hcn⟩ := hok
        simp only at hck hcn
        obtain ⟨e0, e1⟩ := hA
        simp only at e0 e1
        have i0 : (0 : Int) ≤ (k : Int) := by omega
        go_wp2_with fail
        refine (tPage h.p).mono ?_
        rintro e y1 ⟨rfl, b1⟩
        have hS := hide (sizeN_bounds bs)
        have hp := h.p.hp
        have hq := h.p.hs
        have hsp' : decide (sp ≤ P) = false := by simp; omega
        have hp64 : P < 64 := by omega
        replace e0 := (b1.cell (p := ⟨bb, off + k * 2, none⟩) (World.block_lt_of_cell? wr _ e0)).trans e0
        replace hbw := hbw.trans (b1.mono hbw.size)
        replace h := h.below b1
        clear b1 e1
        by_cases k1 : ck = 1
        · subst k1
          have hT := tTake h.p cn
          rcases take_cases (sizeN bs) sp P O cn hcn.1 with ⟨N, rfl, c1, c2, c3, c4, c5⟩ | ⟨c1, c2, c3⟩ | ⟨c1, c2, c3, c4⟩
          · rw [c1, c4, c5] at hT
            have hF := fun x => fits_any bs (P * sizeN bs + O) (N : Int) x (by have := hS.out; have : P * sizeN bs ≤ 64 * 512 := Nat.mul_le_mul (by omega) (by omega); omega)
            rw [fits_at bs P O N hb hp64 c2 c3] at hF
            have hA1 : ¬ P * sizeN bs + O = 0 := by
              have := h.po
              have := sizeN_pos hb
              intro e0
              have e1 : P * sizeN bs = 0 := by omega
              rcases Nat.mul_eq_zero.1 e1 with e2 | e2 <;> omega
            have hA2 := fun (y : World) (h2 : TlAt y t r b bs sp P (O + N) won) (k2 : Keeps (InRow r b) y1 y) => h.on h2 k2 (by omega) h.tz (fun hh => h.tp (by omega)) (by have := h.po; omega)
            have hw2 := fun (y : World) (k2 : Keeps (InRow r b) y1 y) => hbw.trans (k2.below hbw.size h.into)
            have hfin : ∀ j, j < L.length → (getR L j).t ≤ P * sizeN bs + O := fun j hj => by have := h.fin j hj; omega
            have hAN : P * sizeN bs + O + N ≤ P * sizeN bs + min (O + N) (sizeN bs) := by omega
            have hA3 : P * sizeN bs + O + N ≤ 100000 := by have := hS.out; have : P * sizeN bs ≤ 64 * 512 := Nat.mul_le_mul (by omega) (by omega); omega
            obtain ⟨A, hAA⟩ : ∃ A, A = P * sizeN bs + O := ⟨_, rfl⟩
            rw [← hAA] at hT hF hA1 hfin hAN hA3
            have HAN := hide hAN
            have HF := hide hfin
            generalize takeE (sizeN bs) (N : Int) = E' at *
            have zA : ((A : Int) == 0) = false := by simp; omega
            have zN : ¬ (N : Int) < 1 := by omega
            have zM : decide ((N : Int) < 1) = false := by simp; omega
            obtain ⟨C, hC⟩ : ∃ C, C = A + N := ⟨_, rfl⟩
            have hCI : (A : Int) + (N : Int) = (C : Int) := by omega
            rw [← hC] at HAN hA3
            clear hAN hfin hAA c3 c4 c5 c1 hC
            go_wp2_with fail
            refine hT.mono ?_
            rintro e y2 ⟨rfl, h2, k2⟩
            have hA := hA2 y2 h2 k2
            have hW := hw2 y2 k2
            clear hA2 hw2 h2 k2 h hbw hT
            go_wp2_with fail
            refine (hF _).mono ?_
            rintro e y3 ⟨rfl, b3⟩
            replace hA := hA.below b3
            replace hW := hW.trans (b3.mono hW.size)
            clear b3 hF
            obtain ⟨aq, cq, hv, hcs, hcl, hcm⟩ := hA.ow.form
            subst hv
            have HA := hide hA
            have HW := hide hW
            clear hA hW
            go_wp2
            go_loopw [18] (fun i wr => ∃ m q : Nat, m ≤ L.length ∧ i = .int .i64 m ∧ wr = (y3.alloc (Obj.cells #[.int .u64 (A : Int), .int .u64 (C : Int)] 47)).drewN q) (fun i _ => L.length - (intOf i).toNat)
            case atStart => exact ⟨0, 0, Nat.zero_le _, rfl, rfl⟩
            case round =>
              obtain ⟨m, q, hm, rfl, rfl⟩ := hrel
              by_cases hml : m < L.length
              · obtain ⟨gb, -, rfl, d0, d1⟩ := hcs m hml
                have hle := HF.out m hml
                have d0' := cell_alloc d0 (Obj.cells #[.int .u64 (A : Int), .int .u64 (C : Int)] 47)
                have d1' := cell_alloc d1 (Obj.cells #[.int .u64 (A : Int), .int .u64 (C : Int)] 47)
                generalize (getR L m).f = rf at *
                generalize (getR L m).t = rt at *
                have g0 : decide (A < rt) = false := by simp; omega
                clear hcs d0 d1 hle
                go_wp2
                go_quiet ((fail))
                go_wp2
                go_roundw
                case rel => exact ⟨m + 1, _, by omega, by go_num, rfl⟩
                case measure => simp [intOf]; omega
              · clear hcs
                obtain ⟨j0, hj, hy0, hy1, hy2⟩ := info_parts Try.infoRoom
                have hown2 : (((y3.alloc (Obj.cells #[.int .u64 (A : Int), .int .u64 (C : Int)] 47)).drewN q).alloc (Obj.cells #[.int .u64 (A : Int), .int .u64 (C : Int)] 47)).ownsRow 0 47 2 (.slice aq L.length cq) L.length (roomsV L) :=
                  own_below HA.out.ow ((below_drewN ((Below.refl _ _).alloc (Nat.le_refl _) _) q).alloc (by simp) _)
                have hnews : ∀ j u, [Value.int .u64 (A : Int), .int .u64 (C : Int)][j]? = some u → (((y3.alloc (Obj.cells #[.int .u64 (A : Int), .int .u64 (C : Int)] 47)).drewN q).alloc (Obj.cells #[.int .u64 (A : Int), .int .u64 (C : Int)] 47)).cell? ((⟨y3.heap.size + 1, 0, none⟩ : Addr).add j) = some u := by
                  have := cell_pair ((y3.alloc (Obj.cells #[.int .u64 (A : Int), .int .u64 (C : Int)] 47)).drewN q) (.int .u64 (A : Int)) (.int .u64 (C : Int)) 47
                  simpa using this
                have K0 : Keeps (fun k => (Value.slice aq L.length cq).ownBlock = some k) y3 (((y3.alloc (Obj.cells #[.int .u64 (A : Int), .int .u64 (C : Int)] 47)).drewN q).alloc (Obj.cells #[.int .u64 (A : Int), .int .u64 (C : Int)] 47)) := (((Keeps.refl _ y3).alloc _).drewN q).alloc _
                have hL200 : L.length ≤ 200 := by omega
                go_wp2_with (at_builtin; refine wpList_append_lies _ rfl _ _ 43 rfl 0 47 j0 (.agg #[.int .u64 0, .int .u64 0]) 2 16 Try.underlying43 hj hy0 hy1 hy2 rfl (by decide) _ _ _ rfl hown2 ⟨y3.heap.size + 1, 0, none⟩ 1 1 [.int .u64 (A : Int), .int .u64 (C : Int)] rfl rfl hnews two_words (by decide) ?c3 ?c4 (Nat.zero_le _) (y3.heap.size + 2) (by simp) ?_)
                case c3 => unfold maxLen; omega
                case c4 => omega
                intro gn cap' w2 hown' hgrow hat _
                have K1 := K0.grown hgrow (fun k hk _ => hk)
                obtain ⟨hA4, hB4⟩ := HA.out.got (x := ⟨A, C⟩) K1 (v' := .slice (some ⟨gn, 0, none⟩) (L.length + 1) cap') (by unfold Own2; rw [roomsV_snoc, List.length_append]; exact hown') (fun k hk => by
                  have e : gn = k := by simpa [Value.ownBlock] using hk
                  subst e
                  rcases hat with hat | hat
                  · exact .inl hat
                  · right; omega) HW.out.size HAN.out
                have HA4 := hide hA4
                have HW4 := hide (HW.out.trans hB4)
                clear hA4 hB4 K0 K1 hown' hgrow hat hown2 hnews HA HW HAN HF hj
                go_wp2
                go_roundw
                case rel => exact ⟨k + 1, P, O + N, won, tn, L ++ [⟨A, C⟩], by omega, by omega, by go_num, HA4.out, by omega, by simp; omega, HW4.out⟩
                case measure => simp [intOf]; omega
          · rw [c1] at hT
            go_wp2_with fail
            refine hT.mono ?_
            rintro e y2 ⟨rfl, h2, k2⟩
            have hA2 := h.on h2 k2 (by omega) h.tz (fun hh => by omega) (by have := h.po; omega)
            have hw2 := hbw.trans (k2.below hbw.size h.into)
            have t0 : y2.cell? ⟨g, P, none⟩ = some (.int .i64 0) := by rw [hA2.tc P hp64, h.tp c2]; rfl
            have t1 := hA2.tf P hp64
            have hM := hide (hA2.mark hp64 c3)
            have hW := hide (hw2.setCell (p := ⟨g, P, none⟩) hA2.lg (.int .i64 1))
            clear hA2 hw2 h2 k2 h hbw hT
            go_wp2
            go_roundw
            case rel => exact ⟨k + 1, P, _, won, _, L, by omega, by omega, by go_num, hM.out, by omega, by omega, hW.out⟩
            case measure => simp [intOf]; omega
          · have hT' := hT
            generalize hKK : takeK (sizeN bs) sp P O cn = K at *
            have hA2 := fun (y : World) (h2 : TlAt y t r b bs sp P (takeO (sizeN bs) O cn) won) (k2 : Keeps (InRow r b) y1 y) => h.on h2 k2 (by omega) h.tz (fun hh => by rw [c4 hh] at hh; exact h.tp hh) (by have := h.po; omega)
            have hw2 := fun (y : World) (k2 : Keeps (InRow r b) y1 y) => hbw.trans (k2.below hbw.size h.into)
            generalize takeO (sizeN bs) O cn = O' at *
            generalize takeE (sizeN bs) cn = E' at *
            generalize takeA (sizeN bs) P O cn = A' at *
            clear hKK
            go_wp2_with fail
            refine hT.mono ?_
            rintro e y2 ⟨rfl, h2, k2⟩
            have HA := hide (hA2 y2 h2 k2)
            have HW := hide (hw2 y2 k2)
            have z1 : ((K : Int) == 2) = false := by simp; omega
            have z2 : ((K : Int) == 1) = false := by simp; omega
            clear hA2 hw2 h2 k2 h hbw hT hT'
            go_wp2
            go_roundw
            case rel => exact ⟨k + 1, P, O', won, tn, L, by omega, by omega, by go_num, HA.out, by omega, by omega, HW.out⟩
            case measure => simp [intOf]; omega
        · by_cases k2 : ck = 2
          · subst k2
            have hT := tTurn h.p (by omega)
            have hA2 := fun (y : World) (won' : Nat) (h2 : TlAt y t r b bs sp (turnP (sizeN bs) sp P O) (turnO (sizeN bs) sp P O) won') (k2 : Keeps (InRow r b) y1 y) =>
              h.on h2 k2 (turn_on (sizeN bs) sp P O).1 (fun j hj => (turn_on (sizeN bs) sp P O).2.1 tn h.tz j hj) (fun hh => (turn_on (sizeN bs) sp P O).2.2.1 tn h.tz h.tp hh) ((turn_on (sizeN bs) sp P O).2.2.2 h.po)
            have hw2 := fun (y : World) (k2 : Keeps (InRow r b) y1 y) => hbw.trans (k2.below hbw.size h.into)
            generalize turnP (sizeN bs) sp P O = P' at *
            generalize turnO (sizeN bs) sp P O = O' at *
            generalize turnE (sizeN bs) sp P O = E' at *
            go_wp2_with fail
            refine hT.mono ?_
            rintro e y2 ⟨rfl, ⟨won', hwn, h2⟩, k2⟩
            have HA := hide (hA2 y2 won' h2 k2)
            have HW := hide (hw2 y2 k2)
            clear hA2 hw2 h2 k2 h hbw hT
            go_wp2
            go_roundw
            case rel => exact ⟨k + 1, P', O', won', tn, L, by omega, by omega, by go_num, HA.out, by omega, by omega, HW.out⟩
            case measure => simp [intOf]; omega
          · by_cases k3 : ck = 3
            · subst k3
              have hT := tClose h.p (by omega)
              have hA2 := fun (y : World) (won' : Nat) (h2 : TlAt y t r b bs sp (closeP sp P O) (closeO sp P O) won') (k2 : Keeps (InRow r b) y1 y) =>
                h.on h2 k2 (close_on (sizeN bs) sp P O).1 (fun j hj => (close_on (sizeN bs) sp P O).2.1 tn h.tz j hj) (fun hh => (close_on (sizeN bs) sp P O).2.2.1 tn h.tz h.tp hh) ((close_on (sizeN bs) sp P O).2.2.2 h.po)
              have hw2 := fun (y : World) (k2 : Keeps (InRow r b) y1 y) => hbw.trans (k2.below hbw.size h.into)
              generalize closeP sp P O = P' at *
              generalize closeO sp P O = O' at *
              generalize closeE sp P O = E' at *
              go_wp2_with fail
              refine hT.mono ?_
              rintro e y2 ⟨rfl, ⟨won', hwn, h2⟩, k2⟩
              have HA := hide (hA2 y2 won' h2 k2)
              have HW := hide (hw2 y2 k2)
              clear hA2 hw2 h2 k2 h hbw hT
              go_wp2
              go_roundw
              case rel => exact ⟨k + 1, P', O', won', tn, L, by omega, by omega, by go_num, HA.out, by omega, by omega, HW.out⟩
              case measure => simp [intOf]; omega
            · have HA := hide h
              have HW := hide hbw
              clear h hbw
              go_wp2
              go_roundw
              case rel => exact ⟨k + 1, P, O, won, tn, L, by omega, by omega, by go_num, HA.out, by omega, by omega, HW.out⟩
              case measure => simp [intOf]; omega
      · go_wp2
        all_goals
          go_ret
          exact ⟨rfl, hbw⟩
  · have hn := fun (x : World) => tNew_no bs sp hg x
    clear hbs hsp
    go_enter Try.func4, Try.ntmps4
    go_wp2_with fail
    refine (awake14 _).mono ?_
    rintro e x1 ⟨rfl, b1⟩
    go_wp2_with fail
    refine (hn _).mono ?_
    rintro e x2 ⟨rfl, b2⟩
    go_wp2
    go_ret
    exact ⟨rfl, b1.trans (b2.mono b1.size)⟩

set_option maxRecDepth 100000 in
theorem lifted (os : Os) (started : os.Started) (H : Type) (enc : TypeId × Value → H) :
    ReturnsInHanded {} Try.checked os 4 .any (Rows.tailApartSpec.pre6 enc Try.prog Try.f4 Rows.tailApartRow.domain false) (Rows.tailApartSpec.post enc Try.prog Try.f4 false true false false) := by
  refine returnsInHanded_of_change (C := Try.checked) own started (by kernel_rfl) Try.func4
    (ChangeSpec.witness6 (enc := enc) (C := Try.checked) false ⟨#[], #[.int .i64 0, .int .i64 0, .slice none 0 0], []⟩ 8 (by kernel_rfl) (by kernel_rfl) (by kernel_rfl) (by kernel_rfl)) ?_
  intro W base args ds gs before hval0 hW hcnd _
  have hval : ∀ (j : Nat) t v, Try.f4.params[j]? = some t → args[j]? = some v → Value.okWide Try.prog W .any base t v := hval0
  have hW' := hW
  obtain ⟨p, q, hA0, hV, rfl, hfz, hnd⟩ := hW
  have hA : DataW.TrodAll enc Try.prog W 0 (fun _ => true) true Try.f4.params.toList args.toList ds p := hA0
  rw [Try.params4] at hA hval
  obtain ⟨v0, vs0, d0, ds0, p0, q0, hargs, rfl, rfl, h0, r0⟩ := trodAll_cons hA
  obtain ⟨v1, vs1, d1, ds1, p1, q1, rfl, rfl, rfl, h1, r1⟩ := trodAll_cons r0
  obtain ⟨v2, vs2, d2, ds2, p2, q2, rfl, rfl, rfl, h2, r2⟩ := trodAll_cons r1
  obtain ⟨rfl, rfl, rfl⟩ := trodAll_nil r2
  obtain rfl : args = #[v0, v1, v2] := by cases args; simp_all
  obtain ⟨rfl, rfl⟩ := trodVars_none hV
  obtain ⟨a0, rfl, rfl, rfl, w0⟩ := open_int Try.underlying3 (hval 0 3 v0 rfl rfl) h0
  obtain ⟨a1, rfl, rfl, rfl, w1⟩ := open_int Try.underlying3 (hval 1 3 v1 rfl rfl) h1
  have k2 := h2
  have lt2 : ∀ x ∈ p2, x.block < W.heap.size := by obtain ⟨m, hm⟩ := k2; exact DataW.trod_lt m _ _ _ hm
  have o2 := open_Tks (hval 2 22 v2 rfl rfl) h2
  clear hA0 hval0
  refine (walk W a0 w0 a1 w1 v2 o2).mono fun e W' ⟨he, bel⟩ => ?_
  subst he
  exact ⟨_, rfl, _, _, _, [], _, [], hW', trodAll_mk1 (shut_bool Try.underlying4 _), (trodAll_cons_mk (shut_int Try.underlying3 w0) (trodAll_cons_mk (shut_int Try.underlying3 w1) (trodAll_cons_mk (Below.trod laidOut (by kernel_rfl) (of_decide_eq_true (by kernel_rfl)) k2 bel lt2) trodAll_mk0))), rfl, bel.frame _, fun h => by cases h⟩

theorem over : Rows.tailApartRow.holds Try.pinned (OpenSpec.ofChange Rows.tailApartSpec) :=
  OpenClaim.holds_of_wide 4 Try.f4 rfl rfl rfl rfl rfl rfl rfl ⟨rfl, rfl, rfl, rfl, rfl⟩ rfl rfl rfl rfl rfl (by kernel_rfl) Try.func4 (by kernel_rfl)
    (of_decide_eq_true (by kernel_rfl)) (by unfold Func.isWrapper; first | (rw [if_pos (by decide +kernel)]; kernel_rfl) | (rw [if_neg (by decide +kernel)]; exact ⟨rfl, rfl⟩))
    (fun os started H enc _ => lifted os started H enc)

theorem proved : Rows.TailApartSaid := over
#print axioms proved

end Go.Proofs.Ytpkoohpobcfjcaa.tailApart
