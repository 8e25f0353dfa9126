/- Parts of the proof: Vn. -/
import Derived.Test.YtfghfbmmaclcnaaGreatJ21
import Derived.Shelf.SlIterI.Sorted
import Derived.Shelf.SlMaps.DeleteFunc
import Derived.Ground.GgzProg
import Derived.Ground.SlmdProg
namespace Go.Proofs
set_option maxRecDepth 20000
open Go.RowKit Go.Maps Go.Sort Go.Shelf
shelf_lay_g SlLaysZI.n7 Ggz 7 at Tryz 92 as Tryz.hkeys
shelf_lay_g SlLaysZI.n6 Ggz 6 at Tryz 91 as Tryz.hsorted
shelf_lay_g SlLaysDf.n5 Slmd 5 at Tryz 176 as Tryz.hdel
end Go.Proofs
namespace Go.Proofs.YtfghfbmmaclcnaaGreat
open Go.RowKit Go.Maps Go.Sort Go.Shelf
theorem sorts_in (m : Nat) : AnyZI.SortsIn Tryz.prog Tryz.hsorted_ren Fence.wide m :=
  ⟨fun blk off cap ss W hH hblk hsz => callsIn_wide.2 (Any.slices_Sort_int Tryz.sortInts blk off cap ss W hH hblk hsz),
   fun p cap W => callsIn_wide.2 (calls_of_every_depth fun D => AnyS.slices_Sort_int_none_in Tryz.sortInts D p cap W)⟩
/-- maps.Keys. -/
theorem hl_keys (b : Nat) (w : World) : Calls Tryz.prog 92 #[.map (some b)] w fun e w' => e = .returned (.func (.func 175) #[] #[.pointer (some ⟨w.heap.size, 0, none⟩)]) ∧ w' = w.alloc (.cells #[.map (some b)] 102) :=
  (callsIn_wide (n := 5)).1 (AnyZI.keys_in Tryz.hkeys Fence.wide 5 trivial rfl (some b) w)
theorem keys_mem {D : DataW Unit} {w : World} {b n : Nat} {f : Int → Option Int} (h : w.ownsMap Tryz.prog MI.k MI.R b n D) (hT : Tells MI D f) (x : Int) : x ∈ intKeys D ↔ okI x ∧ f x ≠ none := by
  obtain ⟨es, rfl, hn, hk⟩ := owns_keys h
  show x ∈ es.map (fun p => Go.intOf p.1) ↔ _
  constructor
  · intro hx
    obtain ⟨p, hp, rfl⟩ := List.mem_map.1 hx
    obtain ⟨q, hq, e⟩ := hk p.1 (List.mem_map.2 ⟨p, hp, rfl⟩)
    have e2 : Go.intOf p.1 = q := by rw [e]; rfl
    rw [e2]
    refine ⟨hq, fun e3 => ?_⟩
    have h1 := (hT q hq).1 e3
    rw [(has_key (MI.keyed.key (MI.key q hq))).2 (List.mem_map.2 ⟨p, hp, e⟩)] at h1
    cases h1
  · rintro ⟨h1, h2⟩
    obtain ⟨v, hv⟩ := Option.ne_none_iff_exists'.1 h2
    obtain ⟨p, hp, e⟩ := List.mem_map.1 ((has_key (MI.keyed.key (MI.key x h1))).1 ((hT x h1).2 v hv).1)
    exact List.mem_map.2 ⟨p, hp, by rw [e]; rfl⟩
theorem keys_nodup {D : DataW Unit} {w : World} {b n : Nat} (h : w.ownsMap Tryz.prog MI.k MI.R b n D) : (intKeys D).Nodup := by
  obtain ⟨es, rfl, hn, hk⟩ := owns_keys h
  show (es.map (fun p => Go.intOf p.1)).Nodup
  rw [List.Nodup, List.pairwise_map] at hn ⊢
  refine List.Pairwise.imp_of_mem (fun {p q} hp hq hne e => hne ?_) hn
  obtain ⟨x, hx, e1⟩ := hk p.1 (List.mem_map.2 ⟨p, hp, rfl⟩)
  obtain ⟨y, hy, e2⟩ := hk q.1 (List.mem_map.2 ⟨q, hq, rfl⟩)
  rw [e1, e2] at e ⊢
  have e' : x = y := e
  rw [e']
/-- slices.Sorted of a map's keys. -/
theorem hl_sorted {w : World} {b : Nat} {f : Int → Option Int} (h : MapAs MI w b f) (U : List Nat) (hU : U.Pairwise (· < ·)) (hl : U.length ≤ 1000) (hm : ∀ x, (okI x ∧ f x ≠ none) ↔ x ∈ U.map fun (n : Nat) => (n : Int)) :
    Calls Tryz.prog 91 #[.func (.func 175) #[] #[.pointer (some ⟨w.heap.size, 0, none⟩)]] (w.alloc (.cells #[.map (some b)] 102)) fun e w' => ∃ ao cap, e = .returned (.slice ao U.length cap) ∧ Sl .i64 w' ao U.length (fun j => ((U.getD j 0 : Nat) : Int)) ∧ (∀ g off, ao = some ⟨g, off, none⟩ → w.heap.size ≤ g) ∧ Below w.heap.size w w' := by
  obtain ⟨nn, D, hown, hT⟩ := h
  have hbl := hown.lt
  have hb0 : Below w.heap.size w (w.alloc (.cells #[.map (some b)] 102)) := (Below.refl _ _).alloc (Nat.le_refl _) _
  have hsz : Maps.size D ≤ 1000 := by
    have := owns_few hown hT (U.map fun (n : Nat) => (n : Int)) (fun x hx hne => (hm x).1 ⟨hx, hne⟩)
    rw [List.length_map] at this
    omega
  have hseq : SeqGives Fence.wide 2 Tryz.prog 175 #[.pointer (some ⟨w.heap.size, 0, none⟩)] encZ (fun ss => ss.Perm (intKeys D)) (Maps.size D) (w.alloc (.cells #[.map (some b)] 102)) :=
    AnyZI.keys_gives (ρ := Tryz.hkeys_ren) { Tryz.hkeys with } Fence.wide _ trivial rfl (by omega) w.heap.size b nn D _ (by simp) (by simp) (by
      obtain ⟨es, clock, hb, Ft, hs, hD⟩ := hown
      exact ⟨es, clock, (hb0.block b hbl).trans hb, Ft, hs, hD⟩)
  have cS := AnyZI.sorted_in Tryz.hsorted Fence.wide 5 trivial trivial trivial trivial rfl (by omega) (sorts_in _) (enters_of Tryz.func58 (by kernel_rfl) rfl) 175 #[.pointer (some ⟨w.heap.size, 0, none⟩)] trivial (enters_of Tryz.func175 (by kernel_rfl) rfl) _ _ (by unfold maxLen; omega) (by omega) _ hseq
  refine ((callsIn_wide (n := 5)).1 cS).mono ?_
  rintro e w' ⟨v, ss, rfl, hp, hrow, hnil, hbel⟩
  have hB : Below w.heap.size w w' := hb0.trans (hbel.mono (by simp))
  have hso := sort_is (zs := ss) (L := U) (hp.nodup_iff.2 (keys_nodup hown)) hU (fun x => by rw [hp.mem_iff, keys_mem hown hT x]; exact hm x)
  rw [hso] at hrow
  have hlen : ss.length = U.length := by
    have := congrArg List.length hso
    simpa using this
  rw [hlen] at hrow
  by_cases h0 : U.length = 0
  · have hv : ∃ ao cap, v = .slice ao 0 cap := by
      rcases hrow.2 with ⟨e, -⟩ | ⟨g', cap, cur, e, -⟩
      · exact ⟨none, 0, e⟩
      · exact ⟨some ⟨g', 0, none⟩, cap, by rw [e, h0]⟩
    have hs0 : ss = [] := List.eq_nil_of_length_eq_zero (by omega)
    have hvn := hnil.2 hs0
    subst hvn
    exact ⟨none, 0, by rw [h0], (fun j hj => by omega), (fun g off e => by cases e), hB⟩
  · obtain ⟨g, cap, rfl, hg, hgl⟩ := own_form hrow (by omega)
    refine ⟨_, cap, rfl, fun j hj => ⟨g, 0, rfl, ?_⟩, fun g' off e => by cases e; simp at hg; omega, hB⟩
    have := hrow.cells (g := g) rfl j (.int .i64 ((U.getD j 0 : Nat) : Int)) (by simp [List.getD_eq_getElem?_getD, hj])
    rw [Nat.zero_add]
    have hadd : (⟨g, 0, none⟩ : Addr).add j = ⟨g, j, none⟩ := by unfold Addr.add; split <;> simp_all
    rw [hadd] at this
    exact this
end Go.Proofs.YtfghfbmmaclcnaaGreat
