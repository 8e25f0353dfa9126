/- Maps by what they hold at each key. -/
import Derived.Test.YtjhndhibojndfaaWx
import Derived.Maps.RangeWalk
import Derived.DeepKeys4
namespace Go.Proofs.Ytjhndhibojndfaa
open Go.RowKit Go.Maps
open Go.ChangeMaps (setBlock heap_setBlock_same heap_setBlock_other)
theorem nodup_len_le {α : Type} {a b : List α} (ha : a.Nodup) (h : ∀ x ∈ a, x ∈ b) : a.length ≤ b.length := by
  classical
  induction a generalizing b with
  | nil => simp
  | cons x a ih =>
    have hx : x ∈ b := h x (by simp)
    obtain ⟨h1, h2⟩ := List.nodup_cons.1 ha
    have := ih (b := b.erase x) h2 (fun y hy => (List.mem_erase_of_ne (fun e => h1 (by rw [← e]; exact hy))).2 (h y (by simp [hy])))
    rw [List.length_erase_of_mem hx] at this
    have : 0 < b.length := List.length_pos_of_mem hx
    simp; omega
/-- A kind of maps: types, how keys and elements stand as values. -/
structure MK (κ ν : Type) where
  t : TypeId
  k : TypeId
  e : TypeId
  kv : κ → Value
  kl : κ → Lit
  ok : κ → Prop
  vv : ν → Value
  en : ν → DataW Unit
  z : ν
  keyed : Keyed Try.prog k
  ty : Try.prog.underlying t = some (.map k e)
  key : ∀ x, ok x → keyOf Try.prog k (kv x) = some (kl x)
  keyInv : ∀ v l, keyOf Try.prog k v = some l → ∃ x, ok x ∧ v = kv x
  kvInj : ∀ x y, kv x = kv y → x = y
  vvInj : ∀ x y, vv x = vv y → x = y
  enInj : ∀ x y, en x = en y → x = y
  zero : ∀ w, (zeroValue e).run Try.prog w = .ok (vv z) w
section
variable {κ ν : Type} (M : MK κ ν)
theorem MK.klInj {x y : κ} (hx : M.ok x) (hy : M.ok y) (h : M.kl x = M.kl y) : x = y :=
  M.kvInj x y (M.keyed.inj (M.key x hx) (by rw [h]; exact M.key y hy))
open Classical in
noncomputable def MK.R (v : Value) : Option (DataW Unit × List MemPlace) := if h : ∃ c, v = M.vv c then some (M.en h.choose, []) else none
theorem MK.R_mk (c : ν) : M.R (M.vv c) = some (M.en c, []) := by
  have h : ∃ c', M.vv c = M.vv c' := ⟨c, rfl⟩
  unfold MK.R
  rw [dif_pos h, ← M.vvInj _ _ h.choose_spec]
theorem MK.R_inv {v : Value} {y : DataW Unit × List MemPlace} (h : M.R v = some y) : ∃ c, v = M.vv c ∧ y = (M.en c, []) := by
  unfold MK.R at h
  split at h
  · rename_i hc
    cases h
    exact ⟨_, hc.choose_spec, rfl⟩
  · cases h
/-- What the datum tells, as a function. -/
def Tells (D : DataW Unit) (m : κ → Option ν) : Prop := ∀ x, M.ok x → (m x = none → has D (M.kl x) = false) ∧ ∀ v, m x = some v → has D (M.kl x) = true ∧ ∀ z, D.atKey (M.kl x) z = M.en v
/-- Block b is a map that holds m. -/
def MapAs (w : World) (b : Nat) (m : κ → Option ν) : Prop := ∃ n D, w.ownsMap Try.prog M.k M.R b n D ∧ Tells M D m
variable {M}
theorem MapAs.made (w : World) : MapAs M (w.alloc (.map #[] 0)) w.heap.size (fun _ => none) :=
  ⟨0, _, World.ownsMap_made _ _ _ _, fun _ _ => ⟨fun _ => rfl, fun _ h => by cases h⟩⟩
theorem MapAs.lt {w : World} {b : Nat} {m : κ → Option ν} (h : MapAs M w b m) : b < w.heap.size := by
  obtain ⟨n, D, h, _⟩ := h
  exact h.lt
theorem MapAs.block {w w' : World} {b : Nat} {m : κ → Option ν} (h : MapAs M w b m) (hb : w'.heap[b]? = w.heap[b]?) : MapAs M w' b m := by
  obtain ⟨n, D, ⟨es, clock, hb', r⟩, hT⟩ := h
  exact ⟨n, D, ⟨es, clock, hb.trans hb', r⟩, hT⟩
theorem MapAs.keep {w w' : World} {b : Nat} {m : κ → Option ν} {S : Nat → Prop} (h : MapAs M w b m) (hk : Keeps S w w') (hS : ¬ S b) : MapAs M w' b m := h.block (hk.block b h.lt hS)
theorem MapAs.below {w w' : World} {b : Nat} {m : κ → Option ν} (h : MapAs M w b m) (hb : Below w.heap.size w w') : MapAs M w' b m := h.block (hb.block b h.lt)
theorem MapAs.alloc {w : World} {b : Nat} {m : κ → Option ν} (h : MapAs M w b m) (o : Obj) : MapAs M (w.alloc o) b m := h.below ((Below.refl _ _).alloc (Nat.le_refl _) o)
theorem MapAs.drew {w : World} {b : Nat} {m : κ → Option ν} (h : MapAs M w b m) (k : Nat) : MapAs M (w.drewN k) b m := h
theorem MapAs.eq {w : World} {b : Nat} {m m' : κ → Option ν} (h : MapAs M w b m) (he : ∀ x, M.ok x → m' x = m x) : MapAs M w b m' := by
  obtain ⟨n, D, h, hT⟩ := h
  exact ⟨n, D, h, fun x hx => by rw [he x hx]; exact hT x hx⟩
theorem tells_look {D : DataW Unit} {m : κ → Option ν} (hT : Tells M D m) {x : κ} (hx : M.ok x) {v : Value} {ps : List MemPlace} (h : M.R v = some (D.atKey (M.kl x) (M.en M.z), ps)) : v = M.vv ((m x).getD M.z) ∧ has D (M.kl x) = (m x).isSome := by
  obtain ⟨c, rfl, hc⟩ := M.R_inv h
  have hc1 : D.atKey (M.kl x) (M.en M.z) = M.en c := congrArg Prod.fst hc
  cases e : m x with
  | none =>
    have hh := (hT x hx).1 e
    rw [atKey_of_not_has hh] at hc1
    rw [M.enInj _ _ hc1.symm, hh]
    exact ⟨rfl, rfl⟩
  | some u =>
    obtain ⟨hh, ha⟩ := (hT x hx).2 u e
    rw [ha] at hc1
    rw [M.enInj _ _ hc1.symm, hh]
    exact ⟨rfl, rfl⟩
/-- 'v, ok := m[x]'. -/
theorem MapAs.look {w : World} {b : Nat} {m : κ → Option ν} (h : MapAs M w b m) {x : κ} (hx : M.ok x) :
    (Instr.lookup M.t (.map (some b)) (M.kv x) true).run Try.prog w = .ok (.tuple #[M.vv ((m x).getD M.z), .bool (m x).isSome]) w := by
  obtain ⟨n, D, h, hT⟩ := h
  obtain ⟨v, ps, hr, hv⟩ := h.look_ok M.keyed M.ty (M.zero w) (M.R_mk M.z) (M.key x hx)
  obtain ⟨rfl, h2⟩ := tells_look hT hx hv
  rw [hr, h2]
/-- 'm[x]'. -/
theorem MapAs.at {w : World} {b : Nat} {m : κ → Option ν} (h : MapAs M w b m) {x : κ} (hx : M.ok x) :
    (Instr.lookup M.t (.map (some b)) (M.kv x) false).run Try.prog w = .ok (M.vv ((m x).getD M.z)) w := by
  obtain ⟨n, D, h, hT⟩ := h
  obtain ⟨v, ps, hr, hv⟩ := h.lookup M.keyed M.ty (M.zero w) (M.R_mk M.z) (M.key x hx)
  obtain ⟨rfl, h2⟩ := tells_look hT hx hv
  rw [hr]
theorem Keeps.turned {w w' : World} {b : Nat} (h : w.mapTurned w' b) : Keeps (fun k => k = b) w w' :=
  ⟨h.grown.os, h.grown.tape, h.grown.output, h.grown.size, fun k hk hne => h.grown.block k hk (fun e => hne (by cases e; rfl))⟩
theorem turned_size {w w' : World} {b : Nat} (h : w.mapTurned w' b) : w'.heap.size = w.heap.size := by
  obtain ⟨es, clock, es', clock', hb, rfl⟩ := h
  simp [setBlock]
theorem has_key {es : List (Lit × DataW Unit)} {l : Lit} (hl : WideAt.IsKeyLit l) : has (.map es) l = true ↔ l ∈ es.map Prod.fst := by
  rw [has_eq, List.any_eq_true]
  constructor
  · rintro ⟨p, hp, h⟩
    exact List.mem_map.2 ⟨p, hp, WideAt.sameKey_eq h⟩
  · intro h
    obtain ⟨p, hp, rfl⟩ := List.mem_map.1 h
    exact ⟨p, hp, WideAt.sameKey_self hl⟩
theorem owns_keys {w : World} {b n : Nat} {D : DataW Unit} (h : w.ownsMap Try.prog M.k M.R b n D) : ∃ es, D = .map es ∧ (es.map Prod.fst).Nodup ∧ ∀ l ∈ es.map Prod.fst, ∃ x, M.ok x ∧ l = M.kl x := by
  obtain ⟨es', he', hp, -⟩ := h.entries M.keyed
  refine ⟨es', he', ?_, ?_⟩
  · rw [List.Nodup, List.pairwise_map]; exact hp
  · obtain ⟨es, clock, hb, F, hs, hD⟩ := h
    rw [hD] at he'
    cases he'
    intro l hl
    obtain ⟨p, hp', rfl⟩ := List.mem_map.1 hl
    obtain ⟨x, hx, rfl⟩ := List.mem_map.1 (mem_sorted.1 hp')
    obtain ⟨y, hy⟩ := F.reads x hx
    rw [WideElems.rg_of hy]
    have hk := WideElems.rd_key hy
    obtain ⟨q, hq, e⟩ := M.keyInv _ _ hk
    rw [e, M.key q hq] at hk
    exact ⟨q, hq, (Option.some.inj hk).symm⟩
theorem owns_few {w : World} {b n : Nat} {D : DataW Unit} {m : κ → Option ν} (h : w.ownsMap Try.prog M.k M.R b n D) (hT : Tells M D m) (L : List κ) (hL : ∀ x, M.ok x → m x ≠ none → x ∈ L) : Maps.size D ≤ L.length := by
  obtain ⟨es, rfl, hn, hk⟩ := owns_keys h
  have := nodup_len_le (b := L.map M.kl) hn (fun l hl => by
    obtain ⟨x, hx, rfl⟩ := hk l hl
    refine List.mem_map.2 ⟨x, hL x hx (fun e => ?_), rfl⟩
    have h1 := (hT x hx).1 e
    rw [(has_key (M.keyed.key (M.key x hx))).2 hl] at h1
    cases h1)
  simpa [Maps.size] using this
theorem owns_many {w : World} {b n : Nat} {D : DataW Unit} {m : κ → Option ν} (h : w.ownsMap Try.prog M.k M.R b n D) (hT : Tells M D m) (L : List κ) (hn : L.Nodup) (hL : ∀ x ∈ L, M.ok x ∧ m x ≠ none) : L.length ≤ Maps.size D := by
  obtain ⟨es, rfl, -, hk⟩ := owns_keys h
  have hn' : (L.map M.kl).Nodup := by
    rw [List.Nodup, List.pairwise_map]
    exact List.Pairwise.imp_of_mem (fun {x y} hx hy hne e => hne (M.klInj (hL x hx).1 (hL y hy).1 e)) hn
  have := nodup_len_le (b := es.map Prod.fst) hn' (fun l hl => by
    obtain ⟨x, hx, rfl⟩ := List.mem_map.1 hl
    obtain ⟨h1, h2⟩ := hL x hx
    obtain ⟨v, hv⟩ := Option.ne_none_iff_exists'.1 h2
    exact (has_key (M.keyed.key (M.key x h1))).1 ((hT x h1).2 v hv).1)
  simpa [Maps.size] using this
/-- 'len(m)'. -/
theorem MapAs.len {w : World} {b : Nat} {m : κ → Option ν} (h : MapAs M w b m) (L : List κ) (hn : L.Nodup) (hL : ∀ x ∈ L, M.ok x ∧ m x ≠ none) (hL' : ∀ x, M.ok x → m x ≠ none → x ∈ L) (ty : TypeId) :
    (Builtin.len_ #[M.t] ty #[.map (some b)]).run Try.prog w = .ok (.int .i64 L.length) w := by
  obtain ⟨n, D, h, hT⟩ := h
  rw [h.len M.ty ty, Nat.le_antisymm (owns_few h hT L hL') (owns_many h hT L hn hL)]
/-- 'm[x] = v'. -/
theorem MapAs.store [DecidableEq κ] {w : World} {b : Nat} {m : κ → Option ν} (h : MapAs M w b m) (L : List κ) (hL : ∀ x, M.ok x → m x ≠ none → x ∈ L) (hl : L.length < 4611686018427387904) {x : κ} (hx : M.ok x) (v : ν) :
    ∃ w', (Instr.mapUpdate M.t (.map (some b)) (M.kv x) (M.vv v)).run Try.prog w = .ok () w' ∧ MapAs M w' b (fun y => if y = x then some v else m y) ∧ w.mapTurned w' b := by
  obtain ⟨n, D, h, hT⟩ := h
  have hs := owns_few h hT L hL
  have h' : w.ownsMap Try.prog M.k M.R b (Maps.size D) D := by
    obtain ⟨es, clock, hb, F, hs', rfl⟩ := h
    exact ⟨es, clock, hb, F, by simp [Maps.size, length_sorted], rfl⟩
  obtain ⟨w', hr, ho, ht⟩ := h'.store M.keyed M.ty (by unfold maxLen; omega) (M.key x hx) (M.R_mk v)
  refine ⟨w', hr, ⟨_, _, ho, fun y hy => ?_⟩, ht⟩
  have hk := M.keyed.key (M.key x hx)
  by_cases e : y = x
  · subst e
    simp only [if_true]
    refine ⟨(fun h => by cases h), fun u hu => ?_⟩
    cases hu
    exact ⟨has_put_same h.isMap hk _, fun z => atKey_put_same h.isMap hk _ z⟩
  · simp only [if_neg e]
    have hne : M.kl y ≠ M.kl x := fun e' => e (M.klInj hy hx e')
    exact ⟨fun h => by rw [has_put_other hne]; exact (hT y hy).1 h, fun u hu => ⟨by rw [has_put_other hne]; exact ((hT y hy).2 u hu).1, fun z => by rw [atKey_put_other hne]; exact ((hT y hy).2 u hu).2 z⟩⟩
/-- 'delete(m, x)'. -/
theorem MapAs.drop [DecidableEq κ] {w : World} {b : Nat} {m : κ → Option ν} (h : MapAs M w b m) {x : κ} (hx : M.ok x) (ty : TypeId) :
    ∃ w', (Builtin.delete_ #[M.t, M.k] ty #[.map (some b), M.kv x]).run Try.prog w = .ok (.tuple #[]) w' ∧ MapAs M w' b (fun y => if y = x then none else m y) ∧ w.mapTurned w' b := by
  obtain ⟨n, D, h, hT⟩ := h
  obtain ⟨w', hr, ho, ht⟩ := h.drop M.keyed M.ty (M.key x hx) ty
  refine ⟨w', hr, ⟨_, _, ho, fun y hy => ?_⟩, ht⟩
  by_cases e : y = x
  · subst e
    simp only [if_true]
    exact ⟨fun _ => has_del_same, (fun u hu => by cases hu)⟩
  · simp only [if_neg e]
    have hne : M.kl y ≠ M.kl x := fun e' => e (M.klInj hy hx e')
    exact ⟨fun h => by rw [has_del_other hne]; exact (hT y hy).1 h, fun u hu => ⟨by rw [has_del_other hne]; exact ((hT y hy).2 u hu).1, fun z => by rw [atKey_del_other hne]; exact ((hT y hy).2 u hu).2 z⟩⟩
/-- 'clear(m)'. -/
theorem MapAs.clear {w : World} {b : Nat} {m : κ → Option ν} (h : MapAs M w b m) (ty : TypeId) :
    ∃ w', (Builtin.clear_ #[M.t] ty #[.map (some b)]).run Try.prog w = .ok (.tuple #[]) w' ∧ MapAs M w' b (fun _ => none) ∧ w.mapTurned w' b := by
  obtain ⟨n, D, ⟨es, clock, hb, F, hs, hD⟩, hT⟩ := h
  refine ⟨setBlock w b (.map #[] clock), ?_, ⟨0, .map [], ⟨#[], clock, heap_setBlock_same hb _, ⟨by simp, MapKept.stamped_empty clock, by simp⟩, Nat.le_refl _, rfl⟩, fun x hx => ⟨fun _ => rfl, fun _ h => by cases h⟩⟩, ⟨es, clock, #[], clock, hb, rfl⟩⟩
  simp [Builtin.clear_, run_underlying M.ty, MapKept.run_getObj_map hb, MapKept.run_setObj_map _ hb, Result.andThen, setBlock]
variable (M) in
/-- 'for x, v := range m' under way: block r is its iterator; left tells who is still to come. -/
def RangeAs (w : World) (b r : Nat) (m : κ → Option ν) (left : κ → Bool) : Prop := ∃ n D lf cnt, w.ranges Try.prog M.k M.R b r n D lf cnt ∧ Tells M D m ∧ ∀ x, M.ok x → lf (M.kl x) = left x
theorem MapAs.range {w : World} {b : Nat} {m : κ → Option ν} (h : MapAs M w b m) :
    ∃ w', (Instr.range M.t (.map (some b))).run Try.prog w = .ok (.pointer (some ⟨w.heap.size, 0, none⟩)) w' ∧ RangeAs M w' b w.heap.size m (fun x => (m x).isSome) ∧ Below w.heap.size w w' ∧ w'.heap.size = w.heap.size + 1 := by
  obtain ⟨n, D, h, hT⟩ := h
  obtain ⟨w', hr, hg, hb, hs⟩ := h.range M.keyed M.ty
  refine ⟨w', hr, ⟨n, D, _, _, hg, hT, fun x hx => ?_⟩, ⟨hb.os, hb.tape, hb.output, hb.size, fun k hk => hb.block k hk (by simp)⟩, hs⟩
  cases e : m x with
  | none => simp [(hT x hx).1 e, e]
  | some v => simp [((hT x hx).2 v e).1, e]
theorem RangeAs.owns {w : World} {b r : Nat} {m : κ → Option ν} {left : κ → Bool} (h : RangeAs M w b r m left) : MapAs M w b m := by
  obtain ⟨n, D, lf, cnt, h, hT, _⟩ := h
  exact ⟨n, D, h.owns, hT⟩
theorem RangeAs.lt {w : World} {b r : Nat} {m : κ → Option ν} {left : κ → Bool} (h : RangeAs M w b r m left) : r < w.heap.size := by
  obtain ⟨n, D, lf, cnt, h, hT, _⟩ := h
  exact h.lt
theorem RangeAs.keep {w w' : World} {b r : Nat} {m : κ → Option ν} {left : κ → Bool} (h : RangeAs M w b r m left) {row : Option Nat} (hg : w.grownBy w' row) (h1 : some b ≠ row) (h2 : some r ≠ row) : RangeAs M w' b r m left ∧ w'.rangeLeft b r = w.rangeLeft b r := by
  obtain ⟨n, D, lf, cnt, h, hT, hl⟩ := h
  have h' := h.kept hg h1 h2
  exact ⟨⟨n, D, lf, cnt, h', hT, hl⟩, by rw [h'.left_eq, h.left_eq]⟩
theorem RangeAs.next [DecidableEq κ] {w : World} {b r : Nat} {m : κ → Option ν} {left : κ → Bool} (h : RangeAs M w b r m left) (ty : TypeId) :
    ((∀ x, M.ok x → left x = false) ∧ (Instr.next (.pointer (some ⟨r, 0, none⟩)) false ty).run Try.prog w = .ok (.tuple #[.bool false]) w) ∨
    ∃ x v w', M.ok x ∧ left x = true ∧ m x = some v ∧ (Instr.next (.pointer (some ⟨r, 0, none⟩)) false ty).run Try.prog w = .ok (.tuple #[.bool true, M.kv x, M.vv v]) w' ∧
      RangeAs M w' b r m (fun y => left y && !decide (y = x)) ∧ w'.rangeLeft b r < w.rangeLeft b r ∧ w.grownBy w' (some r) ∧ w'.heap.size = w.heap.size ∧ (Instr.entry (.pointer (some ⟨r, 0, none⟩))).run Try.prog w' = .ok (.tuple #[M.kv x, M.vv v]) w' := by
  obtain ⟨n, D, lf, cnt, h, hT, hl⟩ := h
  rcases h.next M.keyed ty with ⟨h0, hf, hr⟩ | ⟨key, v, kl, y, w', cnt', hkey, hlk, hv, hat, hr, hrg, hlt, hg, hsz, hen⟩
  · exact .inl ⟨fun x hx => by rw [← hl x hx]; exact hf _, hr⟩
  · obtain ⟨x, hx, rfl⟩ := M.keyInv _ _ hkey
    rw [M.key x hx] at hkey
    obtain rfl := Option.some.inj hkey
    obtain ⟨c, rfl, rfl⟩ := M.R_inv hv
    refine .inr ⟨x, c, w', hx, by rw [← hl x hx]; exact hlk, ?_, hr, ⟨n, D, _, cnt', hrg, hT, fun q hq => ?_⟩, by rw [hrg.left_eq, h.left_eq]; exact hlt, hg, hsz, hen⟩
    · have hh : has D (M.kl x) = true := has_true_of_atKey hat
      cases e : m x with
      | none => rw [(hT x hx).1 e] at hh; cases hh
      | some u =>
        have := ((hT x hx).2 u e).2 (.map [])
        rw [hat] at this
        rw [M.enInj _ _ this]
    · show (lf (M.kl q) && !(M.kl q).sameKey (M.kl x)) = _
      rw [hl q hq]
      by_cases e : q = x
      · subst e
        rw [WideAt.sameKey_self (M.keyed.key (M.key q hx))]
        simp
      · rw [sameKey_ne (fun e' => e (M.klInj hq hx e'))]
        simp [e]
end
end Go.Proofs.Ytjhndhibojndfaa
