/- The program's index: Look. -/
import Derived.Test.YtmpnbaiolmkhlaaIp
import Derived.Deep.CutBlock
import Derived.Deep.DeepCutAuto
namespace Go.Proofs.Ytmpnbaiolmkhlaa
set_option maxRecDepth 20000
open Go.RowKit
theorem enters_ofI {f : Nat} {fn : Func} {c : Code} (hf : Try.prog.funcs[f]? = some fn) (hname : (fn.name == "runtime.NumGoroutine") = false) (hb : fn.body = some c) (args : Array Value) (w : World) : (callFunc f args).run Try.prog w = .ok (.enter f args) w := by
  have h1 : fn.name ≠ "runtime.NumGoroutine" := by simpa using hname
  simp [callFunc, hf, h1, hb]
theorem fit_free (y : Nat) (w : World) :
    Calls Try.prog 48 #[.int .u64 (y : Int)] w fun e w' => e = .returned (.bool (decide (y = 0))) ∧ Below w.heap.size w w' := by
  go_enter Try.func48, Try.ntmps48
  go_wp2
  go_ret
  exact ⟨ret_bool (by rw [Bool.eq_iff_iff]; simp), Below.refl _ _⟩
theorem fit_tag (y t qt : Nat) (w : World) (hy : y = 0 ∨ IxEn y) (hc : w.cell? ⟨qt, 0, none⟩ = some (.int .u64 (t : Int))) :
    Calls Try.prog 46 #[.int .u64 (y : Int), .pointer (some ⟨qt, 0, none⟩)] w fun e w' => e = .returned (.bool (decide (y ≠ 0) && decide (ixTag y = t))) ∧ Below w.heap.size w w' := by
  obtain ⟨r, HR⟩ : ∃ r, Hid ((decide (y ≠ 0) && decide (ixTag y = t)) = r) := ⟨_, rfl⟩
  rw [HR.out]
  have hS : Says 47 #[.int .u64 (y : Int), .int .u64 (t : Int)] (.returned (.bool r)) := by
    rcases hy with rfl | ⟨a, t', f, hE, rfl⟩
    · exact ehas_says 0 0 0 t false 7 (fun w => eun_zero w) r (by rw [Hid, ← HR.out]; rfl)
    · have h0 : entN a t' f ≠ 0 := (IxEn.pos ⟨a, t', f, hE, rfl⟩).1
      rw [entN_tag hE] at HR
      exact ehas_says _ a t' t f 0 (pack_reads a t' f hE).2 r (by rw [Hid, ← HR.out]; simp [h0])
  have HS := hide hS
  clear hS hy HR
  go_enter Try.func46, Try.ntmps46
  go_wp2_with fail
  refine (HS.out _).mono ?_
  rintro e z ⟨rfl, b1⟩
  go_wp2
  go_ret
  exact ⟨rfl, b1⟩
theorem ixLook_of (g : Nat → Nat) (l : List Nat) (t kd sl xw : Nat) (h : ixLook g l t = (kd, sl, xw)) :
    (∃ s, l.find? (ixHit g t) = some s ∧ kd = 1 ∧ sl = s ∧ xw = g s) ∨ (l.find? (ixHit g t) = none ∧ ((∃ s, l.find? (ixFree g) = some s ∧ kd = 2 ∧ sl = s ∧ xw = 0) ∨ (l.find? (ixFree g) = none ∧ kd = 3 ∧ sl = 0 ∧ xw = 0))) := by
  unfold ixLook at h
  cases h1 : l.find? (ixHit g t) with
  | some s => rw [h1] at h; cases h; exact .inl ⟨_, rfl, rfl, rfl, rfl⟩
  | none =>
    rw [h1] at h
    cases h2 : l.find? (ixFree g) with
    | some s => rw [h2] at h; cases h; exact .inr ⟨rfl, .inl ⟨_, rfl, rfl, rfl, rfl⟩⟩
    | none => rw [h2] at h; cases h; exact .inr ⟨rfl, .inr ⟨rfl, rfl, rfl, rfl⟩⟩
set_option maxHeartbeats 4000000 in
theorem px_look {w : World} {x rr rb tr tb B S : Nat} {g : Nat → Nat} {T T' won lost : Nat} {lk : Int} {cs : Nat → List Nat} (h : PxIs w x rr rb tr tb B S g T' won lost lk) (G : IxGood B S g T cs) (hN : Nat) (hh : hN < 18446744073709551616) (b t kd sl xw : Nat) (hbk : buckN hN (B : Int) = b) (ht : hN / 1125899906842624 = t) (hlk : ixLook g (ixSlots (cs b)) t = (kd, sl, xw)) :
    Calls Try.prog 16 #[.pointer (some ⟨x, 0, none⟩), .int .u64 (hN : Int)] w fun e w' => e = .returned (.tuple #[lookV kd sl xw (ixLast (cs b)), .int .i64 0]) ∧ Below w.heap.size w w' := by
  have hb : b < B := by rw [← hbk]; exact G.buck hN
  have hbs := h.bs
  have hR0 := LkRes.made w 46
  have hb0 := (Below.refl w.heap.size w).alloc (Nat.le_refl _) (.cells #[.int .i64 0, .int .i64 0, .int .u64 0, .int .i64 0] 46)
  have H := hide h
  have HB := hide hbk
  have HTA := fun (w : World) => tag_any hN w hh
  rw [ht] at HTA
  have HTA' := hide HTA
  have HBU := hide (fun (w : World) => bucket_any hN (B : Int) w hh)
  have HCH : Hid (∀ Z : World, PxIs Z x rr rb tr tb B S g T' won lost lk → _) := fun Z hZ => px_chain hZ (G.inv.path b hb) (G.len hb) (G.in' hb)
  obtain ⟨la, HLA⟩ : ∃ la, Hid (ixLast (cs b) = la) := ⟨_, rfl⟩
  rw [HLA.out]
  have hpos := (G.inv.path b hb).pos
  have hlen := G.len hb
  have HIN := hide (G.in' hb)
  have HWD := hide (G.words hb)
  have HLK := hide hlk
  have hsl : (ixSlots (cs b)).length ≤ 20000 := by rw [ixSlots_length]; omega
  clear h G hlk HTA
  go_enter Try.func16, Try.ntmps16
  go_wp2_with fail
  refine (HTA'.out _).mono ?_
  rintro e y1 ⟨rfl, b1⟩
  have hR1 := (hR0.below b1).below ((Below.refl y1.heap.size y1).alloc (Nat.le_refl _) (.cells #[.int .u64 (t : Int)] 32))
  have B1 := (hb0.trans (b1.mono hb0.size)).alloc (hb0.trans (b1.mono hb0.size)).size (.cells #[.int .u64 (t : Int)] 32)
  have ht1 : (y1.alloc (.cells #[.int .u64 (t : Int)] 32)).cell? ⟨y1.heap.size, 0, none⟩ = some (.int .u64 (t : Int)) := by simp
  have h1 := H.out.below B1
  have c0 := h1.c0
  clear hR0 hb0 b1
  go_wp2_with fail
  refine (HBU.out _).mono ?_
  rintro e y2 ⟨rfl, rfl⟩
  rw [HB.out]
  clear h1 c0
  go_wp2_with fail
  refine (HCH.out _ (H.out.below B1)).mono ?_
  rintro e y3 ⟨v, rfl, ho, b3⟩
  obtain ⟨q, capq, rfl, hq1, hq2, hqc⟩ := own_slI ho hpos
  have hchn : ChnAt y3 q (cs b) := hqc
  have hR3 := hR1.below b3
  have B3 := B1.trans (b3.mono B1.size)
  have ht3 := (b3.cell (p := ⟨y1.heap.size, 0, none⟩) (World.block_lt_of_cell? _ _ ht1)).trans ht1
  have cl := hchn ((cs b).length - 1) (by omega)
  rw [show (cs b).getD ((cs b).length - 1) 0 = ixLast (cs b) from rfl, HLA.out] at cl
  have hcl : (((cs b).length : Int) - 1) = (((cs b).length - 1 : Nat) : Int) := by omega
  have HRD := hide (px_read (capq := capq) (H.out.below B3) hchn (by omega) hq2 HIN.out)
  have hwl := B3.size
  clear hR1 B1 ht1 ho hq1 hqc b3
  go_wp2_with fail
  refine HRD.out.mono ?_
  rintro e y4 ⟨ps, caps, rfl, hos, b4⟩
  have hsp := hos.at
  have hR4 := hR3.below b4
  have B4 := B3.trans (b4.mono B3.size)
  have ht4 := (b4.cell (p := ⟨y1.heap.size, 0, none⟩) (World.block_lt_of_cell? _ _ ht3)).trans ht3
  have hqt : y1.heap.size < y4.heap.size := World.block_lt_of_cell? _ _ ht4
  have HF1 := hide (px_first (cap := caps) hsp hsl (ixHit g t) 46 #[.pointer (some ⟨y1.heap.size, 0, none⟩)] (enters_ofI Try.func46 (by kernel_rfl) rfl) (fun s hs W hW => fit_tag (g s) t y1.heap.size W (HWD.out s hs) ((hW.cell (p := ⟨y1.heap.size, 0, none⟩) hqt).trans ht4)))
  have hmf : ∀ (fn : Fn) (first cap : Array Value) (w : World), (Instr.makeFunc fn first cap).run Try.prog w = .ok (.func fn first cap) w := fun _ _ _ _ => rfl
  clear hchn hR3 B3 ht3 cl hcl HRD hos b4
  go_wp2_with fail
  refine HF1.out.mono ?_
  rintro e y5 ⟨rfl, b5⟩
  have hR5 := hR4.below b5
  have B5 := B4.trans (b5.mono B4.size)
  rcases ixLook_of _ _ _ _ _ _ HLK.out with ⟨s, hf, e1, e2, e3⟩ | ⟨hf, hrest⟩
  · rw [hf]
    obtain ⟨gs, HGS⟩ : ∃ gs, Hid (g s = gs) := ⟨_, rfl⟩
    have HR : Hid (lookV kd sl xw la = .agg #[.int .i64 1, .int .i64 (s : Int), .int .u64 (gs : Int), .int .i64 (la : Int)]) := by rw [Hid, e1, e2, e3, HGS.out]; rfl
    simp only [spotV]
    rw [HGS.out]
    have b6 := (Below.refl y5.heap.size y5).alloc (Nat.le_refl _) (.cells #[.int .i64 (s : Int), .int .u64 (gs : Int)] 90)
    have RES := hR5.below b6
    have BEL := B5.trans (b6.mono B5.size)
    have fz0 := RES.f0
    have fz1 := RES.f1
    have fz2 := RES.f2
    have fz3 := RES.f3
    have dz0 := RES.c0
    have dz1 := RES.c1
    have dz2 := RES.c2
    have dz3 := RES.c3
    clear e1 e2 e3 hf HF1 hR4 B4 hR5 B5 b6 b5 ht4 hsp
    have p0 : (y5.alloc (.cells #[.int .i64 (s : Int), .int .u64 (gs : Int)] 90)).cell? ⟨y5.heap.size, 0, none⟩ = some (.int .i64 (s : Int)) := by simp
    have p1 : (y5.alloc (.cells #[.int .i64 (s : Int), .int .u64 (gs : Int)] 90)).cell? ⟨y5.heap.size, 1, none⟩ = some (.int .u64 (gs : Int)) := by simp
    go_upto_region 9 with fail
    generalize y5.alloc (.cells #[.int .i64 (s : Int), .int .u64 (gs : Int)] 90) = YY at *
    go_wp2
    obtain ⟨z0, z1, z2, z3⟩ := RES.set (.int .i64 1) (.int .i64 (s : Int)) (.int .u64 (gs : Int)) (.int .i64 (la : Int))
    have hy : Below w.heap.size w ((((YY.setCell ⟨w.heap.size, 0, none⟩ (.int .i64 1)).setCell ⟨w.heap.size, 1, none⟩ (.int .i64 (s : Int))).setCell ⟨w.heap.size, 2, none⟩ (.int .u64 (gs : Int))).setCell ⟨w.heap.size, 3, none⟩ (.int .i64 (la : Int))) := (((BEL.setCell (Nat.le_refl _) _).setCell (Nat.le_refl _) _).setCell (Nat.le_refl _) _).setCell (Nat.le_refl _) _
    generalize (((YY.setCell ⟨w.heap.size, 0, none⟩ (.int .i64 1)).setCell ⟨w.heap.size, 1, none⟩ (.int .i64 (s : Int))).setCell ⟨w.heap.size, 2, none⟩ (.int .u64 (gs : Int))).setCell ⟨w.heap.size, 3, none⟩ (.int .i64 (la : Int)) = yy at *
    (try simp only [Exit.inBlock, Exit.then])
    refine bodyPost_ret (by simp [results, Try.results16, go_sem, z0, z1, z2, z3]; try rfl) rfl ?_
    exact ⟨by rw [HR.out], hy⟩
  · rw [hf]
    simp only [spotV]
    have b6 := (Below.refl y5.heap.size y5).alloc (Nat.le_refl _) (.cells #[.int .i64 0, .int .u64 0] 90)
    have hR6 := hR5.below b6
    have B6 := B5.trans (b6.mono B5.size)
    have hsp6 := (hsp.below b5).below b6
    have HF2 := hide (px_first (cap := caps) hsp6 hsl (ixFree g) 48 #[] (enters_ofI Try.func48 (by kernel_rfl) rfl) (fun s _ W _ => fit_free (g s) W))
    clear HF1 hR4 B4 hR5 B5 b6 b5 ht4 hsp hsp6
    go_wp2_with fail
    refine HF2.out.mono ?_
    rintro e y7 ⟨rfl, b7⟩
    have hR7 := hR6.below b7
    have B7 := B6.trans (b7.mono B6.size)
    clear HF2 hR6 B6 b7
    rcases hrest with ⟨s, hf2, e1, e2, e3⟩ | ⟨hf2, e1, e2, e3⟩
    · rw [hf2]
      obtain ⟨gs, HGS⟩ : ∃ gs, Hid (g s = gs) := ⟨_, rfl⟩
      have HR : Hid (lookV kd sl xw la = .agg #[.int .i64 2, .int .i64 (s : Int), .int .u64 0, .int .i64 (la : Int)]) := by rw [Hid, e1, e2, e3]; rfl
      simp only [spotV]
      rw [HGS.out]
      have b8 := (Below.refl y7.heap.size y7).alloc (Nat.le_refl _) (.cells #[.int .i64 (s : Int), .int .u64 (gs : Int)] 90)
      have RES := hR7.below b8
      have BEL := B7.trans (b8.mono B7.size)
      have fz0 := RES.f0
      have fz1 := RES.f1
      have fz2 := RES.f2
      have fz3 := RES.f3
      have dz0 := RES.c0
      have dz1 := RES.c1
      have dz2 := RES.c2
      have dz3 := RES.c3
      have p0 : (y7.alloc (.cells #[.int .i64 (s : Int), .int .u64 (gs : Int)] 90)).cell? ⟨y7.heap.size, 0, none⟩ = some (.int .i64 (s : Int)) := by simp
      have p1 : (y7.alloc (.cells #[.int .i64 (s : Int), .int .u64 (gs : Int)] 90)).cell? ⟨y7.heap.size, 1, none⟩ = some (.int .u64 (gs : Int)) := by simp
      clear e1 e2 e3 hf hf2 hR7 B7 b8
      go_upto_region 12 with fail
      generalize y7.alloc (.cells #[.int .i64 (s : Int), .int .u64 (gs : Int)] 90) = YY at *
      go_wp2
      obtain ⟨z0, z1, z2, z3⟩ := RES.set (.int .i64 2) (.int .i64 (s : Int)) (.int .u64 0) (.int .i64 (la : Int))
      have hy : Below w.heap.size w ((((YY.setCell ⟨w.heap.size, 0, none⟩ (.int .i64 2)).setCell ⟨w.heap.size, 1, none⟩ (.int .i64 (s : Int))).setCell ⟨w.heap.size, 2, none⟩ (.int .u64 0)).setCell ⟨w.heap.size, 3, none⟩ (.int .i64 (la : Int))) := (((BEL.setCell (Nat.le_refl _) _).setCell (Nat.le_refl _) _).setCell (Nat.le_refl _) _).setCell (Nat.le_refl _) _
      generalize (((YY.setCell ⟨w.heap.size, 0, none⟩ (.int .i64 2)).setCell ⟨w.heap.size, 1, none⟩ (.int .i64 (s : Int))).setCell ⟨w.heap.size, 2, none⟩ (.int .u64 0)).setCell ⟨w.heap.size, 3, none⟩ (.int .i64 (la : Int)) = yy at *
      (try simp only [Exit.inBlock, Exit.then])
      refine bodyPost_ret (by simp [results, Try.results16, go_sem, z0, z1, z2, z3]; try rfl) rfl ?_
      exact ⟨by rw [HR.out], hy⟩
    · rw [hf2]
      simp only [spotV]
      have HR : Hid (lookV kd sl xw la = .agg #[.int .i64 3, .int .i64 0, .int .u64 0, .int .i64 (la : Int)]) := by rw [Hid, e1, e2, e3]; rfl
      have b8 := (Below.refl y7.heap.size y7).alloc (Nat.le_refl _) (.cells #[.int .i64 0, .int .u64 0] 90)
      have RES := hR7.below b8
      have BEL := B7.trans (b8.mono B7.size)
      have fz0 := RES.f0
      have fz1 := RES.f1
      have fz2 := RES.f2
      have fz3 := RES.f3
      have dz0 := RES.c0
      have dz1 := RES.c1
      have dz2 := RES.c2
      have dz3 := RES.c3
      clear e1 e2 e3 hf hf2 hR7 B7 b8
      go_upto_region 13 with fail
      generalize y7.alloc (.cells #[.int .i64 0, .int .u64 0] 90) = YY at *
      go_wp2
      obtain ⟨z0, z1, z2, z3⟩ := RES.set (.int .i64 3) (.int .i64 0) (.int .u64 0) (.int .i64 (la : Int))
      have hy : Below w.heap.size w ((((YY.setCell ⟨w.heap.size, 0, none⟩ (.int .i64 3)).setCell ⟨w.heap.size, 1, none⟩ (.int .i64 0)).setCell ⟨w.heap.size, 2, none⟩ (.int .u64 0)).setCell ⟨w.heap.size, 3, none⟩ (.int .i64 (la : Int))) := (((BEL.setCell (Nat.le_refl _) _).setCell (Nat.le_refl _) _).setCell (Nat.le_refl _) _).setCell (Nat.le_refl _) _
      generalize (((YY.setCell ⟨w.heap.size, 0, none⟩ (.int .i64 3)).setCell ⟨w.heap.size, 1, none⟩ (.int .i64 0)).setCell ⟨w.heap.size, 2, none⟩ (.int .u64 0)).setCell ⟨w.heap.size, 3, none⟩ (.int .i64 (la : Int)) = yy at *
      (try simp only [Exit.inBlock, Exit.then])
      refine bodyPost_ret (by simp [results, Try.results16, go_sem, z0, z1, z2, z3]; try rfl) rfl ?_
      exact ⟨by rw [HR.out], hy⟩
end Go.Proofs.Ytmpnbaiolmkhlaa
