/- The law's alike. -/
import Derived.Test.YtjhndhibojndfaaEo
namespace Go.Proofs.Ytjhndhibojndfaa
open Go.RowKit
theorem getI_mem {l : List (Bk × ByteArray)} {k : Nat} (h : k < l.length) : getI l k ∈ l := List.mem_of_getElem? (getI_some h)
set_option maxHeartbeats 8000000 in
set_option maxRecDepth 10000 in
theorem law_alike {B t m : Nat} {d : Dv} {x : World} (hB : Both B t m d x) :
    Calls Try.prog 9 #[.pointer (some ⟨t + 3, 0, none⟩), .pointer (some ⟨m, 0, none⟩)] x fun e y => e = .returned (.bool true) ∧ Below x.heap.size x y := by
  obtain ⟨vi, vj, hr⟩ := hB.rf
  have hbl := device_blocks hB.dv (d.items.map Prod.fst) rfl
  simp only [List.length_map] at hbl
  have hgd := hr.good
  have hfew := items_few hgd.rise (fun p hp => (hgd.it p hp).1)
  have HK : Hid (∀ k, k < d.items.length → (d.items.map Prod.fst).getD k (0, 0) = (getI d.items k).1) := fun k hk => by
    simp [List.getD_eq_getElem?_getD, getI, hk]
  have HLK : Hid (∀ k, k < d.items.length → lookL d.items (getI d.items k).1 = some (getI d.items k).2) := fun k hk => lookL_rising hgd.rise (getI_mem hk)
  have HOK : Hid (∀ k, k < d.items.length → okK (getI d.items k).1) := fun k hk => by
    have := okB_iff.1 (hgd.it _ (getI_mem hk)).1
    exact ⟨by simp [Lit.wf, IntKind.min, IntKind.max, IntKind.bits, IntKind.signed]; omega, by simp [Lit.wf, IntKind.min, IntKind.max, IntKind.bits, IntKind.signed]; omega⟩
  have HB := hide hB
  have HR := hide hr
  clear hB hr hgd
  go_enter Try.func9, Try.ntmps9
  go_wp2_with fail
  refine hbl.mono ?_
  rintro e y ⟨ao, cap, rfl, hbs, hby⟩
  have hRy := HR.out.below hby
  have HBy := hide (HB.out.below hby)
  obtain ⟨aoi, capi, hv, hc1, hc2, hit⟩ := hRy.item
  have c1 := hRy.c1
  rw [hv] at c1
  have HRy := hide hRy
  have HBS := hide hbs
  have HBL := hide hby
  have HIT := hide hit
  have HV := hide hv
  clear hbl hRy hv hit hbs hby
  generalize hLL : d.items.length = L at *
  go_wp2
  go_loopw [6] (fun v wr => ∃ k : Nat, k ≤ L ∧ v = .int .i64 k ∧ Below y.heap.size y wr) (fun v _ => L - (intOf v).toNat)
  case atStart => exact ⟨0, Nat.zero_le _, rfl, Below.refl _ _⟩
  case round =>
    clear c1
    obtain ⟨k, hk, rfl, hbw⟩ := hrel
    have hEND := hide (HBL.out.trans (hbw.mono HBL.out.size))
    by_cases hlt : k < L
    · have hpk := device_peek (HBy.out.below hbw).dv (getI d.items k).1 (HOK.out k hlt)
      have hlk := HLK.out k hlt
      rw [hlk] at hpk
      have hZ : ∀ z, Below y.heap.size y z → (∃ b off, ao = some ⟨b, off, none⟩ ∧ z.cell? ⟨b, off + k * 2, none⟩ = some (.int .i64 (getI d.items k).1.1) ∧ z.cell? ⟨b, off + k * 2 + 1, none⟩ = some (.int .i64 (getI d.items k).1.2)) ∧ z.cell? ⟨m, 1, none⟩ = some (.slice aoi L capi) ∧ ∃ g, aoi = some ⟨g, 0, none⟩ ∧ z.cell? ⟨g, k * 3, none⟩ = some (.int .i64 (getI d.items k).1.1) ∧ z.cell? ⟨g, k * 3 + 1, none⟩ = some (.int .i64 (getI d.items k).1.2) ∧ z.cell? ⟨g, k * 3 + 2, none⟩ = some (.string (getI d.items k).2) := fun z hz => by
        obtain ⟨b, off, h1, h2, h3⟩ := HBS.out k hlt
        simp only [HK.out k hlt] at h2 h3
        obtain ⟨g, i1, -, i2, i3, i4⟩ := HIT.out k hlt
        refine ⟨⟨b, off, h1, ?_, ?_⟩, ?_, g, i1, ?_, ?_, ?_⟩
        · rw [hz.cell (World.block_lt_of_cell? y _ h2)]; exact h2
        · rw [hz.cell (World.block_lt_of_cell? y _ h3)]; exact h3
        · rw [hz.cell HRy.out.lt, HRy.out.c1, HV.out]
        · rw [hz.cell (World.block_lt_of_cell? y _ i2)]; exact i2
        · rw [hz.cell (World.block_lt_of_cell? y _ i3)]; exact i3
        · rw [hz.cell (World.block_lt_of_cell? y _ i4)]; exact i4
      have HZ := hide hZ
      obtain ⟨⟨b, off, rfl, z0, z1⟩, -, g, rfl, -, -, -⟩ := hZ wr hbw
      have HBW := hide hbw
      clear hZ hlk HBS HIT HK HLK HOK HV HRy HBy HB HR hbw
      generalize getI d.items k = it at *
      obtain ⟨⟨ia, inn⟩, is⟩ := it
      simp only [bkV, Option.getD_some, Option.isSome_some] at hpk z0 z1 HZ
      go_wp2_with fail
      refine hpk.mono ?_
      rintro e y3 ⟨rfl, hb3⟩
      have hb4 := HBW.out.trans (hb3.mono HBW.out.size)
      obtain ⟨⟨b', off', e1, w0, w1⟩, w2, g', e2, w3, w4, w5⟩ := HZ.out y3 hb4
      cases e1
      cases e2
      have HB4 := hide hb4
      clear hpk hb3 hb4 HZ HBW hEND z0 z1
      go_wp2
      go_quiet ((fail))
      go_wp2
      go_roundw
      case rel => exact ⟨k + 1, by omega, by go_num, by first | exact HB4.out | exact below_drewN HB4.out _⟩
      case measure => simp [intOf]; omega
    · clear HBS HIT HK HLK HOK HV HRy HBy HB HR
      go_wp2
      go_ret
      exact ⟨rfl, hEND.out⟩
end Go.Proofs.Ytjhndhibojndfaa
