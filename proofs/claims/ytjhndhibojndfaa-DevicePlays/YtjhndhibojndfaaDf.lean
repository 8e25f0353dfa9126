/- Package device: ask. -/
import Derived.Test.YtjhndhibojndfaaDe
namespace Go.Proofs.Ytjhndhibojndfaa
open Go.RowKit Go.Maps
/-- The tickets under way, as whole numbers. -/
def tkI (l : List Job) : List Int := (tk (fun _ => true) l).map fun (n : Nat) => (n : Int)
theorem tkI_len (l : List Job) : (tkI l).length = (tk (fun _ => true) l).length := by simp [tkI]
theorem fl_tk {l : List Job} {x : Int} : fl l x ≠ none ↔ x ∈ tkI l := by
  unfold tkI fl
  constructor
  · intro h
    cases e : jobAt l x with
    | none => rw [e] at h; exact absurd rfl h
    | some j =>
      rw [e] at h
      have hst : j.st = 0 := by
        apply Classical.byContradiction
        intro hn
        simp [hn] at h
      have := jobAt_lt e
      refine List.mem_map.2 ⟨x.toNat, tk_mem.2 ⟨j, by rw [show ((x.toNat : Nat) : Int) = x by omega]; exact e, hst, rfl⟩, by omega⟩
  · intro h
    obtain ⟨n, hn, rfl⟩ := List.mem_map.1 h
    obtain ⟨j, h1, h2, -⟩ := tk_mem.1 hn
    simp [h1, h2]
theorem tkI_nodup (l : List Job) : (tkI l).Nodup := by
  unfold tkI
  rw [List.Nodup, List.pairwise_map]
  exact (tk_nodup _ l).imp (fun h e => h (by omega))
theorem okI_small {x : Int} (h1 : 0 ≤ x) (h2 : x ≤ 1000000) : okI x := WalkArith.wf_i64 ⟨by omega, by omega⟩
theorem tkI_ok {l : List Job} (hl : l.length ≤ 1000) {x : Int} (h : x ∈ tkI l) : okI x := by
  obtain ⟨n, hn, rfl⟩ := List.mem_map.1 h
  obtain ⟨j, h1, -⟩ := tk_mem.1 hn
  have := jobAt_lt h1
  exact okI_small (by omega) (by omega)
theorem DvIs.flen {w : World} {t : Nat} {d : Dv} (h : DvIs w t d) (ty : TypeId) : (Builtin.len_ #[58] ty #[.map (some (t + 1))]).run Try.prog w = .ok (.int .i64 ((tk (fun _ => true) d.jobs).length : Int)) w := by
  have := h.mf.len (tkI d.jobs) (tkI_nodup _) (fun x hx => ⟨tkI_ok h.good.few hx, fl_tk.2 hx⟩) (fun x _ hx => fl_tk.1 hx) ty
  rw [tkI_len] at this
  exact this
theorem cell_alloc4 (w : World) (a b c d : Value) (T : TypeId) : (w.alloc (.cells #[a, b, c, d] T)).heap[w.heap.size]? = some (.cells #[a, b, c, d] T (0, 0)) := (MapKept.heap_alloc w _).1
/-- ask, where there is no room. -/
theorem device_ask_full {w : World} {t : Nat} {d : Dv} (h : DvIs w t d) (r : Rq) (hf : 32 ≤ (tk (fun _ => true) d.jobs).length) :
    Calls Try.prog 32 #[.pointer (some ⟨t + 3, 0, none⟩), rqV r] w fun e w' => e = .returned (.tuple #[.int .i64 0, .int .i64 9]) ∧ Below w.heap.size w w' := by
  obtain ⟨⟨a, n⟩, wr, s⟩ := r
  simp only [rqV]
  have h1 := h.alloc (.cells #[.int .i64 a, .int .i64 n, .bool wr, .string s] 67)
  have hl := h1.flen
  have c3 := h1.c3
  have hB := hide ((Below.refl w.heap.size w).alloc (Nat.le_refl _) (.cells #[.int .i64 a, .int .i64 n, .bool wr, .string s] 67))
  generalize (tk (fun _ => true) d.jobs).length = F at *
  clear h h1
  go_enter Try.func32, Try.ntmps32
  go_wp2
  go_ret2
  exact ⟨rfl, hB.out⟩
set_option maxHeartbeats 1000000 in
set_option maxRecDepth 10000 in
/-- ask, where there is. -/
theorem device_ask_room {w : World} {t : Nat} {d : Dv} (h : DvIs w t d) (r : Rq) (hb : okB r.b = true) (hs : r.s.size ≤ 131072) (hf : (tk (fun _ => true) d.jobs).length < 32) (hj : d.jobs.length < 1000) :
    Calls Try.prog 32 #[.pointer (some ⟨t + 3, 0, none⟩), rqV r] w fun e w' => e = .returned (.tuple #[.int .i64 ((d.jobs.length : Int) + 1), .int .i64 0]) ∧ DvIs w' t { d with jobs := d.jobs ++ [⟨r.b, r.wr, r.s, false, 0⟩] } ∧ Keeps (InD t) w w' := by
  obtain ⟨⟨a, n⟩, wr, s⟩ := r
  simp only [rqV] at *
  have ht := h.lt
  have h1 := h.alloc (.cells #[.int .i64 a, .int .i64 n, .bool wr, .string s] 67)
  have hl := h1.flen
  have c3' := h1.c3
  have c1' := h1.c1
  have f1' := h1.f1
  have c3 := h.c3
  have c1 := h.c1
  have f1 := h.f1
  -- the counter
  have K2 : Keeps (fun k => k = t + 3) w (w.setCell ⟨t + 3, 1, none⟩ (.int .i64 ((d.jobs.length : Int) + 1))) := (Keeps.refl (fun k => k = t + 3) w).setCell ⟨t + 3, 1, none⟩ (fun _ => rfl) _
  have g1 : (w.setCell ⟨t + 3, 1, none⟩ (.int .i64 ((d.jobs.length : Int) + 1))).cell? ⟨t + 3, 1, none⟩ = some (.int .i64 ((d.jobs.length : Int) + 1)) := World.cell?_setCell_same _ _ _ c1
  have hsz : (w.setCell ⟨t + 3, 1, none⟩ (.int .i64 ((d.jobs.length : Int) + 1))).heap.size = w.heap.size := by simp [World.setCell]
  have hm := ((h.mf.keep K2 (by simp)).alloc (.cells #[.int .i64 a, .int .i64 n, .bool wr, .string s] 67)).drew 1
  have KA := (Keeps.refl (fun _ => False) (w.setCell ⟨t + 3, 1, none⟩ (.int .i64 ((d.jobs.length : Int) + 1)))).alloc (.cells #[.int .i64 a, .int .i64 n, .bool wr, .string s] 67)
  obtain ⟨w3, hr, hm3, htu⟩ := hm.store (tkI d.jobs) (fun y _ hy => fl_tk.1 hy) (by rw [tkI_len]; omega) (x := (d.jobs.length : Int) + 1) (okI_small (by omega) (by omega)) ⟨(a, n), wr, s⟩
  have KT := (KA.drewN 1).wider (T := fun k => k = t + 1) (fun _ _ h => h.elim) |>.trans (Keeps.turned htu) (fun _ _ e => e)
  simp only [MF, rqV] at hr
  change Sem.run _ _ (World.drew _) = _ at hr
  have hkeep : ∀ {p : Addr}, p.block = t + 3 → w3.cell? p = (w.setCell ⟨t + 3, 1, none⟩ (.int .i64 ((d.jobs.length : Int) + 1))).cell? p ∧ w3.frozen? p = (w.setCell ⟨t + 3, 1, none⟩ (.int .i64 ((d.jobs.length : Int) + 1))).frozen? p := fun {p} hp => by
    refine ⟨KT.cell (by omega) ?_, KT.frozen (by omega) ?_⟩ <;> (show ¬ p.block = t + 1; omega)
  have hD : DvIs w3 t { d with jobs := d.jobs ++ [⟨(a, n), wr, s, false, 0⟩] } := by
    refine ⟨?_, ?_, ?_, ?_, ?_, ?_, ?_, ?_, hm3.eq (fun y _ => fl_snoc _ _ _ _ y), ?_, ?_⟩
    · rw [(hkeep rfl).1, World.cell?_setCell_other _ _ _ _ (by simp)]; exact h.c0
    · rw [(hkeep rfl).1, g1]; simp
    · rw [(hkeep rfl).1, World.cell?_setCell_other _ _ _ _ (by simp)]; exact h.c2
    · rw [(hkeep rfl).1, World.cell?_setCell_other _ _ _ _ (by simp)]; exact h.c3
    · rw [(hkeep rfl).1, World.cell?_setCell_other _ _ _ _ (by simp)]; exact h.c4
    · rw [(hkeep rfl).2, World.frozen?_setCell]; exact h.f0
    · rw [(hkeep rfl).2, World.frozen?_setCell]; exact h.f1
    · exact (h.mb.keep K2 (by simp)).keep KT (by simp)
    · exact ((h.ma.keep K2 (by simp)).keep KT (by simp)).eq (fun y _ => an_snoc _ _ _ _ y)
    · refine ⟨h.good.rise, h.good.it, fun j hj' => ?_, ?_, by simp; omega, fun j hj' h0 => ?_⟩
      · rcases List.mem_append.1 hj' with hj' | hj'
        · exact h.good.jb j hj'
        · rw [List.mem_singleton.1 hj']; exact ⟨hb, hs⟩
      · simp only; rw [tk_snoc, if_pos ⟨rfl, rfl⟩, List.length_append, List.length_singleton]; omega
      · rcases List.mem_append.1 hj' with hj' | hj'
        · exact h.good.nn j hj' h0
        · rw [List.mem_singleton.1 hj']
  have hK : Keeps (InD t) w w3 := (K2.wider (T := InD t) (fun k _ e => by rw [e]; exact ⟨by omega, by omega⟩)).trans KT (fun k _ e => by rw [e]; exact ⟨by omega, by omega⟩)
  have z1 : w3.cell? ⟨t + 3, 1, none⟩ = some (.int .i64 ((d.jobs.length : Int) + 1)) := by rw [(hkeep rfl).1, g1]
  have HD := hide hD
  have HK := hide hK
  clear hD hK hkeep KT htu hm3 hm K2 h1 h KA hsz hb hs
  generalize (tk (fun _ => true) d.jobs).length = F at *
  generalize d.jobs.length = J at *
  go_enter Try.func32, Try.ntmps32
  go_wp2
  go_region_law (fail)
  all_goals
    go_wp2
    go_ret2
    exact ⟨rfl, HD.out, HK.out⟩
end Go.Proofs.Ytjhndhibojndfaa
