/- The reference: Do. -/
import Derived.Test.YtjhndhibojndfaaEf
namespace Go.Proofs.Ytjhndhibojndfaa
open Go.RowKit
/-- A job's six cells written whole. -/
def set6 (w : World) (g o : Nat) (j : Job) : World :=
  (((((w.setCell ⟨g, o, none⟩ (.int .i64 j.b.1)).setCell ⟨g, o + 1, none⟩ (.int .i64 j.b.2)).setCell ⟨g, o + 2, none⟩ (.bool j.wr)).setCell ⟨g, o + 3, none⟩ (.string j.s)).setCell ⟨g, o + 4, none⟩ (.bool j.no)).setCell ⟨g, o + 5, none⟩ (.int .i64 (j.st : Nat))
theorem set6_keeps (w : World) (g o : Nat) (j : Job) : Keeps (fun k => k = g) w (set6 w g o j) := by
  unfold set6
  exact ((((((Keeps.refl (fun k => k = g) w).setCell ⟨g, o, none⟩ (fun _ => rfl) _).setCell ⟨g, o + 1, none⟩ (fun _ => rfl) _).setCell ⟨g, o + 2, none⟩ (fun _ => rfl) _).setCell ⟨g, o + 3, none⟩ (fun _ => rfl) _).setCell ⟨g, o + 4, none⟩ (fun _ => rfl) _).setCell ⟨g, o + 5, none⟩ (fun _ => rfl) _
theorem setCell_drewN (w : World) (n : Nat) (a : Addr) (v : Value) : (w.drewN n).setCell a v = (w.setCell a v).drewN n := rfl
theorem set6_drew (w : World) (g o : Nat) (a n : Int) (wr : Bool) (s : ByteArray) (no : Bool) :
    ((((((w.setCell ⟨g, o, none⟩ (.int .i64 a)).setCell ⟨g, o + 1, none⟩ (.int .i64 n)).setCell ⟨g, o + 2, none⟩ (.bool wr)).setCell ⟨g, o + 3, none⟩ (.string s)).setCell ⟨g, o + 4, none⟩ (.bool no)).setCell ⟨g, o + 5, none⟩ (.int .i64 1)).drew = set6 (w.drewN 1) g o ⟨(a, n), wr, s, no, 1⟩ := by
  unfold set6
  simp only [setCell_drewN]
  rfl
theorem jobsV_set (l : List Job) (k : Nat) (hk : k < l.length) (c : Nat) (hc : c < 6) (j : Job) (u : Value) (hu : jbV j = (jbV (getJ l k)).set c u) : jobsV (l.set k j) = (jobsV l).set (k * 6 + c) u := flat_set jbV 6 jbV_len l k (getJ l k) j (getJ_some hk) c hc u hu
theorem getJ_set (l : List Job) (k : Nat) (hk : k < l.length) (j : Job) : getJ (l.set k j) k = j := by simp [getJ, List.getD_eq_getElem?_getD, hk]
theorem jobsV_six (l : List Job) (k : Nat) (hk : k < l.length) (j : Job) :
    jobsV (l.set k j) = ((((((jobsV l).set (k * 6) (.int .i64 j.b.1)).set (k * 6 + 1) (.int .i64 j.b.2)).set (k * 6 + 2) (.bool j.wr)).set (k * 6 + 3) (.string j.s)).set (k * 6 + 4) (.bool j.no)).set (k * 6 + 5) (.int .i64 (j.st : Nat)) := by
  have e0 := jobsV_set l k hk 0 (by omega) ⟨(j.b.1, (getJ l k).b.2), (getJ l k).wr, (getJ l k).s, (getJ l k).no, (getJ l k).st⟩ (.int .i64 j.b.1) rfl
  have e1 := jobsV_set (l.set k ⟨(j.b.1, (getJ l k).b.2), (getJ l k).wr, (getJ l k).s, (getJ l k).no, (getJ l k).st⟩) k (by simpa using hk) 1 (by omega) ⟨(j.b.1, j.b.2), (getJ l k).wr, (getJ l k).s, (getJ l k).no, (getJ l k).st⟩ (.int .i64 j.b.2) (by rw [getJ_set l k hk]; rfl)
  have e2 := jobsV_set (l.set k ⟨(j.b.1, j.b.2), (getJ l k).wr, (getJ l k).s, (getJ l k).no, (getJ l k).st⟩) k (by simpa using hk) 2 (by omega) ⟨(j.b.1, j.b.2), j.wr, (getJ l k).s, (getJ l k).no, (getJ l k).st⟩ (.bool j.wr) (by rw [getJ_set l k hk]; rfl)
  have e3 := jobsV_set (l.set k ⟨(j.b.1, j.b.2), j.wr, (getJ l k).s, (getJ l k).no, (getJ l k).st⟩) k (by simpa using hk) 3 (by omega) ⟨(j.b.1, j.b.2), j.wr, j.s, (getJ l k).no, (getJ l k).st⟩ (.string j.s) (by rw [getJ_set l k hk]; rfl)
  have e4 := jobsV_set (l.set k ⟨(j.b.1, j.b.2), j.wr, j.s, (getJ l k).no, (getJ l k).st⟩) k (by simpa using hk) 4 (by omega) ⟨(j.b.1, j.b.2), j.wr, j.s, j.no, (getJ l k).st⟩ (.bool j.no) (by rw [getJ_set l k hk]; rfl)
  have e5 := jobsV_set (l.set k ⟨(j.b.1, j.b.2), j.wr, j.s, j.no, (getJ l k).st⟩) k (by simpa using hk) 5 (by omega) j (.int .i64 (j.st : Nat)) (by rw [getJ_set l k hk]; rfl)
  simp only [List.set_set] at e1 e2 e3 e4 e5
  rw [e5, e4, e3, e2, e1, e0, Nat.add_zero]
/-- A job is written whole. -/
theorem RefD.setJob {w : World} {m : Nat} {d : Dv} {vi vj : Value} (h : RefD w m d vi vj) {g : Nat} (hg : vj.ownBlock = some g) (k : Nat) (hk : k < d.jobs.length) (j : Job) (gd : Good { d with jobs := d.jobs.set k j }) : RefD (set6 w g (k * 6) j) m { d with jobs := d.jobs.set k j } vi vj := by
  have K := set6_keeps w g (k * 6) j
  have hgm := (h.gj hg).1
  have hl := h.lt
  have nm : ¬ m = g := by omega
  refine ⟨?_, ?_, ?_, ?_, ?_, ?_, own_keep h.oi K (fun q e e' => by subst e'; exact h.ne q e hg), ?_, h.ne, gd⟩
  · rw [K.cell hl nm]; exact h.c0
  · rw [K.cell hl nm]; exact h.c1
  · rw [K.cell hl nm]; exact h.c2
  · rw [K.frozen hl nm]; exact h.f0
  · rw [K.frozen hl nm]; exact h.f1
  · rw [K.frozen hl nm]; exact h.f2
  · simp only [List.length_set]
    rw [jobsV_six d.jobs k hk j]
    unfold set6
    exact own_set (own_set (own_set (own_set (own_set (own_set h.oj hg _ _) hg _ _) hg _ _) hg _ _) hg _ _) hg _ _
theorem RefD.keep' {w w' : World} {m : Nat} {d : Dv} {vi vj : Value} {S : Nat → Prop} (h : RefD w m d vi vj) (hk : Keeps S w w') (sm : ¬ S m) (si : ∀ g, vi.ownBlock = some g → ¬ S g) (sj : ∀ g, vj.ownBlock = some g → ¬ S g) : RefD w' m d vi vj := by
  have hl := h.lt
  exact ⟨by rw [hk.cell hl sm]; exact h.c0, by rw [hk.cell hl sm]; exact h.c1, by rw [hk.cell hl sm]; exact h.c2, by rw [hk.frozen hl sm]; exact h.f0, by rw [hk.frozen hl sm]; exact h.f1, by rw [hk.frozen hl sm]; exact h.f2,
    own_keep h.oi hk si, own_keep h.oj hk sj, h.ne, h.good⟩
theorem wrap_small (k : Nat) (h : k ≤ 1000000) : IntKind.i64.wrap (k : Int) = (k : Int) := by
  simp [IntKind.wrap, IntKind.bits, IntKind.signed]; omega
/-- A box of six cells. -/
structure Bx6 (w : World) (B : Nat) (j : Job) : Prop where
  c0 : w.cell? ⟨B, 0, none⟩ = some (.int .i64 j.b.1)
  c1 : w.cell? ⟨B, 1, none⟩ = some (.int .i64 j.b.2)
  c2 : w.cell? ⟨B, 2, none⟩ = some (.bool j.wr)
  c3 : w.cell? ⟨B, 3, none⟩ = some (.string j.s)
  c4 : w.cell? ⟨B, 4, none⟩ = some (.bool j.no)
  c5 : w.cell? ⟨B, 5, none⟩ = some (.int .i64 (j.st : Nat))
  f3 : w.frozen? ⟨B, 3, none⟩ = false
  f4 : w.frozen? ⟨B, 4, none⟩ = false
theorem Bx6.keep {w w' : World} {B : Nat} {j : Job} {S : Nat → Prop} (h : Bx6 w B j) (hk : Keeps S w w') (hS : ¬ S B) : Bx6 w' B j := by
  have hl : B < w.heap.size := World.block_lt_of_cell? w _ h.c0
  exact ⟨by rw [hk.cell hl hS]; exact h.c0, by rw [hk.cell hl hS]; exact h.c1, by rw [hk.cell hl hS]; exact h.c2, by rw [hk.cell hl hS]; exact h.c3, by rw [hk.cell hl hS]; exact h.c4, by rw [hk.cell hl hS]; exact h.c5, by rw [hk.frozen hl hS]; exact h.f3, by rw [hk.frozen hl hS]; exact h.f4⟩
theorem Bx6.setS {w : World} {B : Nat} {j : Job} (h : Bx6 w B j) (s : ByteArray) : Bx6 (w.setCell ⟨B, 3, none⟩ (.string s)) B { j with s := s } := by
  refine ⟨?_, ?_, ?_, World.cell?_setCell_same _ _ _ h.c3, ?_, ?_, ?_, ?_⟩
  · rw [World.cell?_setCell_other _ _ _ _ (by simp)]; exact h.c0
  · rw [World.cell?_setCell_other _ _ _ _ (by simp)]; exact h.c1
  · rw [World.cell?_setCell_other _ _ _ _ (by simp)]; exact h.c2
  · rw [World.cell?_setCell_other _ _ _ _ (by simp)]; exact h.c4
  · rw [World.cell?_setCell_other _ _ _ _ (by simp)]; exact h.c5
  · rw [World.frozen?_setCell]; exact h.f3
  · rw [World.frozen?_setCell]; exact h.f4
theorem Bx6.setN {w : World} {B : Nat} {j : Job} (h : Bx6 w B j) (o : Bool) : Bx6 (w.setCell ⟨B, 4, none⟩ (.bool o)) B { j with no := o } := by
  refine ⟨?_, ?_, ?_, ?_, World.cell?_setCell_same _ _ _ h.c4, ?_, ?_, ?_⟩
  · rw [World.cell?_setCell_other _ _ _ _ (by simp)]; exact h.c0
  · rw [World.cell?_setCell_other _ _ _ _ (by simp)]; exact h.c1
  · rw [World.cell?_setCell_other _ _ _ _ (by simp)]; exact h.c2
  · rw [World.cell?_setCell_other _ _ _ _ (by simp)]; exact h.c3
  · rw [World.cell?_setCell_other _ _ _ _ (by simp)]; exact h.c5
  · rw [World.frozen?_setCell]; exact h.f3
  · rw [World.frozen?_setCell]; exact h.f4
theorem Bx6.made (w : World) (a n : Int) (wr : Bool) (s : ByteArray) (no : Bool) (st : Nat) : Bx6 (w.alloc (.cells #[.int .i64 a, .int .i64 n, .bool wr, .string s, .bool no, .int .i64 (st : Int)] 70)) w.heap.size ⟨(a, n), wr, s, no, st⟩ := by
  refine ⟨?_, ?_, ?_, ?_, ?_, ?_, ?_, ?_⟩ <;> simp
/-- The blocks that Do and Crash write to. -/
def RS (m : Nat) (vj : Value) : Nat → Prop := fun k => k = m ∨ vj.ownBlock = some k
theorem RefD.rs {w w' : World} {m : Nat} {d : Dv} {vi vj : Value} (h : RefD w m d vi vj) (K : Keeps (RS m vj) w w') : Below m w w' :=
  K.below (Nat.le_of_lt h.lt) (fun k s => by
    rcases s with e | e
    · omega
    · have := h.gj e; omega)
set_option maxHeartbeats 2000000 in
set_option maxRecDepth 10000 in
theorem ref_do {w : World} {m : Nat} {d : Dv} {vi vj : Value} (h : RefD w m d vi vj) (x : Int) (hx : okI x) :
    Calls Try.prog 24 #[.pointer (some ⟨m, 0, none⟩), .int .i64 x] w fun e w' => e = .returned (.int .i64 (doE d x)) ∧ (∃ vi', RefD w' m (doD d x) vi' vj) ∧ Keeps (RS m vj) w w' := by
  have c0 := h.c0
  cases ho : d.off with
  | true =>
    rw [ho] at c0
    have e2 : doE d x = 6 := by simp [doE, ho]
    have e4 : doD d x = d := by simp [doD, ho]
    rw [e2, e4]
    have H := hide h
    clear h ho e2 e4
    go_enter Try.func24, Try.ntmps24
    go_wp2
    go_ret
    exact ⟨rfl, ⟨_, H.out⟩, Keeps.refl _ _⟩
  | false =>
    rw [ho] at c0
    have ha0 := ref_at h x hx 0
    simp only [Int.natCast_zero] at ha0
    cases hA0 : atB d.jobs x 0 with
    | false =>
      rw [hA0] at ha0
      have hf : fl d.jobs x = none := by
        have := atB_fl d.jobs x
        rw [hA0] at this
        cases e : fl d.jobs x with
        | none => rfl
        | some r => rw [e] at this; cases this
      have e2 : doE d x = 7 := by simp [doE, ho, hf]
      rw [e2, doD_none hf]
      have H := hide h
      clear h ho e2 hf hA0
      go_enter Try.func24, Try.ntmps24
      go_wp2_with fail
      refine ha0.mono ?_
      rintro e y ⟨rfl, rfl⟩
      go_wp2
      go_ret
      exact ⟨rfl, ⟨_, H.out⟩, Keeps.refl _ _⟩
    | true =>
      rw [hA0] at ha0
      obtain ⟨k, hk, hkl, hj, hst⟩ := atB_yes hA0
      have hfl : fl d.jobs x = some (getJ d.jobs k).rq := by simp [fl, hj, hst]
      have e2 : doE d x = 0 := by simp [doE, ho, hfl]
      have hgd := h.good.done x
      have e4 : doD d x = ⟨d.off, if (getJ d.jobs k).wr = true then lay (getJ d.jobs k).b (getJ d.jobs k).s d.items else d.items, d.jobs.set k (doneJ d (getJ d.jobs k))⟩ := by
        unfold doD
        rw [if_neg (by rw [ho]; simp), hj]
        simp only [hst, if_true]
        rw [show (x - 1).toNat = k by omega]
      rw [e2, e4]
      rw [e4] at hgd
      obtain ⟨hjb1, hjb2⟩ := h.good.jb _ (jobAt_mem hj)
      have hfew := h.good.few
      obtain ⟨ao, cap, hv, hc1, hc2, hjb⟩ := h.job
      obtain ⟨g, hao, hgb, q0, q1, q2, q3, q4, q5, qf⟩ := hjb k hkl
      have c2 := h.c2
      rw [hv, hao] at c2
      have hgl := h.gj hgb
      have hm := h.lt
      have HGI := hide (fun q (e : vi.ownBlock = some q) => (h.gi e).2)
      have hkw : ∀ j', jobAt d.jobs x = some j' → j' = getJ d.jobs k := fun j' e => by rw [hj] at e; exact (Option.some.inj e).symm
      subst hk
      have i1 : ((k : Int) + 1 - 1) = (k : Int) := by omega
      simp only [hst] at q5
      have q5' : w.cell? ⟨g, k * 6 + 5, none⟩ = some (.int .i64 0) := q5
      -- the box, in which it is done
      have hbx := Bx6.made w (getJ d.jobs k).b.1 (getJ d.jobs k).b.2 (getJ d.jobs k).wr (getJ d.jobs k).s (getJ d.jobs k).no 1
      have h1 := h.alloc (.cells #[.int .i64 (getJ d.jobs k).b.1, .int .i64 (getJ d.jobs k).b.2, .bool (getJ d.jobs k).wr, .string (getJ d.jobs k).s, .bool (getJ d.jobs k).no, .int .i64 ((1 : Nat) : Int)] 70)
      have hb1 := (Below.refl w.heap.size w).alloc (Nat.le_refl _) (.cells #[.int .i64 (getJ d.jobs k).b.1, .int .i64 (getJ d.jobs k).b.2, .bool (getJ d.jobs k).wr, .string (getJ d.jobs k).s, .bool (getJ d.jobs k).no, .int .i64 ((1 : Nat) : Int)] 70)
      have HDJ : Hid (doneJ d (getJ d.jobs k) = if (getJ d.jobs k).wr = true then { getJ d.jobs k with st := 1, s := ⟨#[]⟩ } else { getJ d.jobs k with st := 1, s := (lookL d.items (getJ d.jobs k).b).getD ⟨#[]⟩, no := (lookL d.items (getJ d.jobs k).b).isNone }) := rfl
      cases hw : (getJ d.jobs k).wr with
      | true =>
        have hlay := ref_lay h1 (getJ d.jobs k).b (getJ d.jobs k).s hjb1 hjb2
        rw [hw] at hgd q2 hbx h1 hb1 hlay HDJ
        simp only [if_true] at hgd HDJ ⊢
        rw [HDJ.out] at hgd ⊢
        have HGD := hide hgd
        have HB1 := hide hb1
        have HBX := hide hbx
        clear hgd hb1 hbx h1 hjb hv hao HDJ hkw hjb1 hjb2 h hfl hj hA0 e2 e4
        generalize hjj : getJ d.jobs k = jj at *
        obtain ⟨⟨ja, jn⟩, jw, js, jno, jst⟩ := jj
        simp only [bkV] at q0 q1 q2 q3 q4 hst hw HGD HB1 HBX hlay ⊢
        generalize hJJ : d.jobs.length = J at *
        go_enter Try.func24, Try.ntmps24
        go_wp2_with fail
        refine ha0.mono ?_
        rintro e y ⟨rfl, rfl⟩
        go_wp2_with fail
        refine hlay.mono ?_
        rintro e y2 ⟨rfl, ⟨vi', hy2, hvi⟩, ky2⟩
        subst hw
        simp only [World.size_alloc] at hvi
        have hB2 : Keeps (RS m vj) y y2 := (Below.keeps (S := RS m vj) HB1.out).trans ky2 (fun q _ e => .inl e)
        have bx2 := HBX.out.keep ky2 (by omega)
        have K3 : Keeps (fun q => q = y.heap.size) y2 (y2.setCell ⟨y.heap.size, 3, none⟩ (.string ⟨#[]⟩)) := (Keeps.refl (fun q => q = y.heap.size) y2).setCell ⟨y.heap.size, 3, none⟩ (fun _ => rfl) _
        have hy3 := hy2.keep' K3 (by omega) (fun q e e' => by have := hvi q e; omega) (fun q e e' => by rw [hgb] at e; cases e; omega)
        have bx3 := bx2.setS ⟨#[]⟩
        have hB3 : Keeps (RS m vj) y (y2.setCell ⟨y.heap.size, 3, none⟩ (.string ⟨#[]⟩)) := hB2.trans K3 (fun q hq e => by omega)
        have b3f := bx2.f3
        have b3c := bx2.c3
        have HY3 := hide hy3
        have HB3 := hide hB3
        have HX3 := hide bx3
        clear HB1 HBX hlay ha0 ky2 bx2 K3 hy3 bx3 hB3 hB2 hy2 c0 q0 q1 q2 q3 q4 q5 q5' qf c2 hvi hst
        go_wp2
        generalize y2.setCell ⟨y.heap.size, 3, none⟩ (.string ⟨#[]⟩) = y3 at *
        obtain ⟨s0, s1, s2, s3, s4, s5, -, -⟩ := HX3.out
        simp only at s0 s1 s2 s3 s4 s5
        obtain ⟨ao3, cap3, hv3, -, -, hjb3⟩ := HY3.out.job
        simp only [hJJ] at hv3 hjb3
        obtain ⟨g3, hao3, hgb3, t0, t1, t2, t3, t4, t5, tf⟩ := hjb3 k hkl
        rw [hgb] at hgb3
        cases hgb3
        have c2 := HY3.out.c2
        rw [hv3, hao3] at c2
        have tf0 := tf 0 (by omega)
        have tf1 := tf 1 (by omega)
        have tf2 := tf 2 (by omega)
        have tf3 := tf 3 (by omega)
        have tf4 := tf 4 (by omega)
        have tf5 := tf 5 (by omega)
        rw [Nat.add_zero] at tf0
        have hfin := (HY3.out.drew 1).setJob hgb k (by simp only; omega) ⟨(ja, jn), true, ⟨#[]⟩, jno, 1⟩ HGD.out
        have hfb : Keeps (RS m vj) y (set6 (y3.drewN 1) g (k * 6) ⟨(ja, jn), true, ⟨#[]⟩, jno, 1⟩) := (HB3.out.drewN 1).trans (set6_keeps (y3.drewN 1) g (k * 6) ⟨(ja, jn), true, ⟨#[]⟩, jno, 1⟩) (fun q _ e => .inr (e ▸ hgb))
        obtain ⟨X, hX0⟩ : ∃ X, X = set6 (y3.drewN 1) g (k * 6) ⟨(ja, jn), true, ⟨#[]⟩, jno, 1⟩ := ⟨_, rfl⟩
        rw [← hX0] at hfin hfb
        have hX : ((((((y3.setCell ⟨g, k * 6, none⟩ (.int .i64 ja)).setCell ⟨g, k * 6 + 1, none⟩ (.int .i64 jn)).setCell ⟨g, k * 6 + 2, none⟩ (.bool true)).setCell ⟨g, k * 6 + 3, none⟩ (.string ⟨#[]⟩)).setCell ⟨g, k * 6 + 4, none⟩ (.bool jno)).setCell ⟨g, k * 6 + 5, none⟩ (.int .i64 1)).drew = X := by rw [hX0]; exact set6_drew _ _ _ _ _ _ _ _
        have HF := hide (⟨hfin, hfb⟩ : _ ∧ _)
        have HX9 := hide hX
        clear hX hX0
        have hwk := wrap_small k (by omega)
        clear hfin hfb hjb3 hv3 tf HX3 HB3
        go_region_law (fail)
        all_goals
          rw [HX9.out]
          go_wp2
          go_ret
          exact ⟨rfl, ⟨_, by first | exact HF.out.1 | (have hh := HF.out.1; rw [ho] at hh; exact hh)⟩, HF.out.2⟩
      | false =>
        have hpk := ref_peek h1 (getJ d.jobs k).b
        rw [hw] at hgd q2 hbx h1 hb1 hpk HDJ
        simp only [Bool.false_eq_true, if_false] at hgd HDJ ⊢
        rw [HDJ.out] at hgd ⊢
        have HGD := hide hgd
        have HB1 := hide hb1
        have HBX := hide hbx
        have HR1 := hide h1
        clear hgd hb1 hbx h1 hjb hv hao HDJ hkw hjb1 hjb2 h hfl hj hA0 e2 e4
        generalize hjj : getJ d.jobs k = jj at *
        obtain ⟨⟨ja, jn⟩, jw, js, jno, jst⟩ := jj
        simp only [bkV] at q0 q1 q2 q3 q4 hst hw HGD HB1 HBX hpk HR1 ⊢
        have hnone : (lookL d.items (ja, jn)).isNone = !(lookL d.items (ja, jn)).isSome := by cases lookL d.items (ja, jn) <;> rfl
        rw [hnone] at HGD ⊢
        generalize hlk : (lookL d.items (ja, jn)).getD ⟨#[]⟩ = ls at *
        generalize hls : (lookL d.items (ja, jn)).isSome = lo at *
        generalize hJJ : d.jobs.length = J at *
        go_enter Try.func24, Try.ntmps24
        go_wp2_with fail
        refine ha0.mono ?_
        rintro e y ⟨rfl, rfl⟩
        go_wp2_with fail
        refine hpk.mono ?_
        rintro e y2 ⟨rfl, by2⟩
        subst hw
        have hB2 : Keeps (RS m vj) y y2 := (Below.keeps (S := RS m vj) HB1.out).trans (Below.keeps (S := RS m vj) by2) (fun q _ e => e)
        have hy2 := HR1.out.below by2
        have bx2 := HBX.out.keep (Below.keeps (S := fun _ => False) by2) (fun h => h)
        have K3 : Keeps (fun q => q = y.heap.size) y2 ((y2.setCell ⟨y.heap.size, 3, none⟩ (.string ls)).setCell ⟨y.heap.size, 4, none⟩ (.bool (!lo))) := ((Keeps.refl (fun q => q = y.heap.size) y2).setCell ⟨y.heap.size, 3, none⟩ (fun _ => rfl) _).setCell ⟨y.heap.size, 4, none⟩ (fun _ => rfl) _
        have hgi : ∀ q, vi.ownBlock = some q → q < y.heap.size := HGI.out
        have hy3 := hy2.keep' K3 (by omega) (fun q e e' => by have := hgi q e; omega) (fun q e e' => by rw [hgb] at e; cases e; omega)
        have bx3 := (bx2.setS ls).setN (!lo)
        have hB3 : Keeps (RS m vj) y ((y2.setCell ⟨y.heap.size, 3, none⟩ (.string ls)).setCell ⟨y.heap.size, 4, none⟩ (.bool (!lo))) := hB2.trans K3 (fun q hq e => by omega)
        have b3f := bx2.f3
        have b3c := bx2.c3
        have b4f := (bx2.setS ls).f4
        have b4c := (bx2.setS ls).c4
        have HY3 := hide hy3
        have HB3 := hide hB3
        have HX3 := hide bx3
        clear HB1 HBX hpk ha0 by2 bx2 K3 hy3 bx3 hB3 hB2 hy2 c0 q0 q1 q2 q3 q4 q5 q5' qf c2 hst HR1 hgi
        go_wp2
        generalize (y2.setCell ⟨y.heap.size, 3, none⟩ (.string ls)).setCell ⟨y.heap.size, 4, none⟩ (.bool (!lo)) = y3 at *
        obtain ⟨s0, s1, s2, s3, s4, s5, -, -⟩ := HX3.out
        simp only at s0 s1 s2 s3 s4 s5
        obtain ⟨ao3, cap3, hv3, -, -, hjb3⟩ := HY3.out.job
        simp only [hJJ] at hv3 hjb3
        obtain ⟨g3, hao3, hgb3, t0, t1, t2, t3, t4, t5, tf⟩ := hjb3 k hkl
        rw [hgb] at hgb3
        cases hgb3
        have c2 := HY3.out.c2
        rw [hv3, hao3] at c2
        have tf0 := tf 0 (by omega)
        have tf1 := tf 1 (by omega)
        have tf2 := tf 2 (by omega)
        have tf3 := tf 3 (by omega)
        have tf4 := tf 4 (by omega)
        have tf5 := tf 5 (by omega)
        rw [Nat.add_zero] at tf0
        have hfin := (HY3.out.drew 1).setJob hgb k (by omega) ⟨(ja, jn), false, ls, !lo, 1⟩ HGD.out
        have hfb : Keeps (RS m vj) y (set6 (y3.drewN 1) g (k * 6) ⟨(ja, jn), false, ls, !lo, 1⟩) := (HB3.out.drewN 1).trans (set6_keeps (y3.drewN 1) g (k * 6) ⟨(ja, jn), false, ls, !lo, 1⟩) (fun q _ e => .inr (e ▸ hgb))
        obtain ⟨X, hX0⟩ : ∃ X, X = set6 (y3.drewN 1) g (k * 6) ⟨(ja, jn), false, ls, !lo, 1⟩ := ⟨_, rfl⟩
        rw [← hX0] at hfin hfb
        have hX : ((((((y3.setCell ⟨g, k * 6, none⟩ (.int .i64 ja)).setCell ⟨g, k * 6 + 1, none⟩ (.int .i64 jn)).setCell ⟨g, k * 6 + 2, none⟩ (.bool false)).setCell ⟨g, k * 6 + 3, none⟩ (.string ls)).setCell ⟨g, k * 6 + 4, none⟩ (.bool (!lo))).setCell ⟨g, k * 6 + 5, none⟩ (.int .i64 1)).drew = X := by rw [hX0]; exact set6_drew _ _ _ _ _ _ _ _
        have HF := hide (⟨hfin, hfb⟩ : _ ∧ _)
        have HX9 := hide hX
        clear hX hX0
        have hwk := wrap_small k (by omega)
        clear hfin hfb hjb3 hv3 tf HX3 HB3
        go_region_law (fail)
        all_goals
          rw [HX9.out]
          go_wp2
          go_ret
          exact ⟨rfl, ⟨_, by first | exact HF.out.1 | (have hh := HF.out.1; rw [ho] at hh; exact hh)⟩, HF.out.2⟩
end Go.Proofs.Ytjhndhibojndfaa
