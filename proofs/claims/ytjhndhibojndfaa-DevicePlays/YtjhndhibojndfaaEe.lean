/- The reference: Take. -/
import Derived.Test.YtjhndhibojndfaaEd
namespace Go.Proofs.Ytjhndhibojndfaa
open Go.RowKit
theorem atB_fl (l : List Job) (x : Int) : atB l x 0 = (fl l x).isSome := by
  unfold atB fl
  cases jobAt l x with
  | none => rfl
  | some j => by_cases h : j.st = 0 <;> simp [h]
theorem atB_yes {l : List Job} {x : Int} {st : Nat} (h : atB l x st = true) : ∃ k : Nat, x = (k : Int) + 1 ∧ k < l.length ∧ jobAt l x = some (getJ l k) ∧ (getJ l k).st = st := by
  unfold atB at h
  cases hj : jobAt l x with
  | none => rw [hj] at h; cases h
  | some j =>
    rw [hj] at h
    have hl := jobAt_lt hj
    refine ⟨(x - 1).toNat, by omega, by omega, ?_, ?_⟩
    · rw [← hj, jobAt_getJ hl.1 hl.2.1]
    · rw [jobAt_getJ hl.1 hl.2.1] at hj
      cases hj
      simpa using h
theorem an_at {l : List Job} {x : Int} {j : Job} (h : jobAt l x = some j) (hs : j.st = 1) : an l x = if j.no = true then none else some j.s := by
  unfold an
  rw [h]
  obtain ⟨b, wr, s, no, st⟩ := j
  simp only at hs
  subst hs
  cases no <;> rfl
set_option maxHeartbeats 1000000 in
set_option maxRecDepth 10000 in
theorem ref_take {w : World} {m : Nat} {d : Dv} {vi vj : Value} (h : RefD w m d vi vj) (x : Int) (hx : okI x) :
    Calls Try.prog 25 #[.pointer (some ⟨m, 0, none⟩), .int .i64 x] w fun e w' => e = .returned (.tuple #[.string (takeS d x), .int .i64 (takeE d x)]) ∧ RefD w' m (takeD d x) vi vj ∧ Below m w w' := by
  have c0 := h.c0
  cases ho : d.off with
  | true =>
    rw [ho] at c0
    have e2 : takeE d x = 6 := by simp [takeE, ho]
    have e3 : takeS d x = ⟨#[]⟩ := by simp [takeS, e2]
    have e4 : takeD d x = d := by simp [takeD, ho]
    rw [e2, e3, e4]
    have H := hide h
    clear h ho e2 e3 e4
    go_enter Try.func25, Try.ntmps25
    go_wp2
    go_ret2
    exact ⟨rfl, H.out, Below.refl _ _⟩
  | false =>
    rw [ho] at c0
    have ha0 := ref_at h x hx 0
    have ha1 := ref_at h x hx 1
    simp only [Int.natCast_zero] at ha0
    cases hA0 : atB d.jobs x 0 with
    | true =>
      rw [hA0] at ha0
      have hf : (fl d.jobs x).isSome = true := by rw [← atB_fl]; exact hA0
      have e2 : takeE d x = 10 := by simp [takeE, ho, hf]
      have e3 : takeS d x = ⟨#[]⟩ := by simp [takeS, e2]
      obtain ⟨r, hr⟩ := Option.isSome_iff_exists.1 hf
      rw [e2, e3, takeD_fly hr]
      have H := hide h
      clear h ho e2 e3 hf hr ha1 hA0
      go_enter Try.func25, Try.ntmps25
      go_wp2_with fail
      refine ha0.mono ?_
      rintro e y ⟨rfl, rfl⟩
      go_wp2
      go_ret2
      exact ⟨rfl, H.out, Below.refl _ _⟩
    | false =>
      rw [hA0] at ha0
      have hf : (fl d.jobs x).isSome = false := by rw [← atB_fl]; exact hA0
      cases hA1 : atB d.jobs x 1 with
      | false =>
        rw [hA1] at ha1
        have hn : (an d.jobs x).isSome = false := by
          unfold atB at hA1
          unfold an
          cases hj : jobAt d.jobs x with
          | none => rfl
          | some j =>
            rw [hj] at hA1
            have : ¬ j.st = 1 := by simpa using hA1
            simp [this]
        have e2 : takeE d x = 7 := by simp [takeE, ho, hf, hn]
        have e3 : takeS d x = ⟨#[]⟩ := by simp [takeS, e2]
        have e4 : takeD d x = d := by
          unfold takeD
          rw [if_neg (by rw [ho]; simp)]
          unfold atB at hA1
          cases hj : jobAt d.jobs x with
          | none => rfl
          | some j =>
            rw [hj] at hA1
            have : ¬ j.st = 1 := by simpa using hA1
            simp [this]
        rw [e2, e3, e4]
        have H := hide h
        clear h ho e2 e3 e4 hf hn hA0 hA1
        go_enter Try.func25, Try.ntmps25
        go_wp2_with fail
        refine ha0.mono ?_
        rintro e y ⟨rfl, rfl⟩
        go_wp2_with fail
        refine ha1.mono ?_
        rintro e y ⟨rfl, rfl⟩
        go_wp2
        go_ret2
        exact ⟨rfl, H.out, Below.refl _ _⟩
      | true =>
        rw [hA1] at ha1
        obtain ⟨k, hk, hkl, hj, hst⟩ := atB_yes hA1
        have e4 : takeD d x = { d with jobs := d.jobs.set k { getJ d.jobs k with st := 2 } } := by
          unfold takeD
          rw [if_neg (by rw [ho]; simp), hj]
          simp only [hst, if_true]
          rw [show (x - 1).toNat = k by omega]
        have hgd := h.good.take x
        rw [e4] at hgd
        obtain ⟨ao, cap, hv, hc1, hc2, hjb⟩ := h.job
        obtain ⟨g, hao, hgb, q0, q1, q2, q3, q4, q5, qf⟩ := hjb k hkl
        have hS := h.setSt hgb k hkl 2 hgd
        have hgl := (h.gj hgb).2
        have hgm := (h.gj hgb).1
        have hm := h.lt
        have hbel : Below m w (w.setCell ⟨g, k * 6 + 5, none⟩ (.int .i64 2)) := hS.2.below (by omega) (fun q e => by omega)
        have HS := hide (fun o => hS.1.alloc o)
        have HB := hide (fun o => hbel.alloc (by simp [World.setCell]; omega) o)
        have c2 := h.c2
        rw [hv, hao] at c2
        have qf5 := qf 5 (by omega)
        have hfew := h.good.few
        subst hk
        have i1 : ((k : Int) + 1 - 1) = (k : Int) := by omega
        have HE2 : Hid (takeE d ((k : Int) + 1) = if (getJ d.jobs k).no = true then 7 else 0) := by
          unfold takeE
          rw [if_neg (by rw [ho]; simp), if_neg (by rw [hf]; simp)]
          rw [an_at hj hst]
          cases (getJ d.jobs k).no <;> exact rfl
        have HE3 : Hid (takeS d ((k : Int) + 1) = if (getJ d.jobs k).no = true then ⟨#[]⟩ else (getJ d.jobs k).s) := by
          unfold takeS
          rw [HE2.out]
          rw [an_at hj hst]
          cases (getJ d.jobs k).no <;> exact rfl
        rw [HE2.out, HE3.out, e4]
        clear hjb hS hbel hgd h hf hA0 hA1 e4 HE2 HE3 hv hao qf
        simp only [hst] at q5
        generalize d.jobs.length = J at *
        have HST := hide hst
        clear hst
        generalize getJ d.jobs k = jj at *
        obtain ⟨⟨ja, jn⟩, jw, js, jno, jst⟩ := jj
        simp only at q0 q1 q2 q3 q4 HST ⊢
        cases jno with
        | true =>
          simp only [if_true]
          go_enter Try.func25, Try.ntmps25
          go_wp2_with fail
          refine ha0.mono ?_
          rintro e y ⟨rfl, rfl⟩
          go_wp2_with fail
          refine ha1.mono ?_
          rintro e y ⟨rfl, rfl⟩
          go_wp2
          go_ret2
          exact ⟨rfl, HS.out _, HB.out _⟩
        | false =>
          simp only [Bool.false_eq_true, if_false]
          go_enter Try.func25, Try.ntmps25
          go_wp2_with fail
          refine ha0.mono ?_
          rintro e y ⟨rfl, rfl⟩
          go_wp2_with fail
          refine ha1.mono ?_
          rintro e y ⟨rfl, rfl⟩
          go_wp2
          go_ret2
          exact ⟨rfl, HS.out _, HB.out _⟩
end Go.Proofs.Ytjhndhibojndfaa
