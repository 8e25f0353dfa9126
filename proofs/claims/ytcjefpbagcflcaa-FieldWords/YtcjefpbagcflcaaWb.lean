/- The walks of the reference's functions over bits in lists. -/
import Derived.Test.YtcjefpbagcflcaaWa
import Derived.Test.YtcjefpbagcflcaaMb
namespace Go.Proofs.Ytcjefpbagcflcaa
open Go.RowKit

theorem Try.infoInt : (Try.prog.info? 3).map (fun i => (i.zero, i.size, i.bytes)) = some (some (.int .i64 0), 1, 8) := by kernel_rfl
theorem Try.infoU64 : (Try.prog.info? 22).map (fun i => (i.zero, i.size, i.bytes)) = some (some (.int .u64 0), 1, 8) := by kernel_rfl

def intsN (l : List Nat) : List Value := l.map fun (b : Nat) => Value.int .i64 (b : Int)
theorem intsN_length (l : List Nat) : (intsN l).length = l.length := by simp [intsN]
theorem intsN_snoc (l : List Nat) (b : Nat) : intsN (l ++ [b]) = intsN l ++ [Value.int .i64 (b : Int)] := by simp [intsN]
theorem intsN_get (l : List Nat) (j : Nat) (h : j < l.length) : (intsN l)[j]? = some (.int .i64 (l[j]?.getD 0 : Nat)) := by simp [intsN, h]

set_option maxHeartbeats 400000 in
theorem rright_any (a b : Int) (w : World) :
    Calls Try.prog 12 #[.int .i64 a, .int .i64 b] w fun e w' => e = .returned (.bool (rightB a b)) ∧ w' = w := by
  by_cases h0 : 0 ≤ a
  · by_cases h1 : a ≤ 63
    · by_cases h2 : 1 ≤ b
      · by_cases h3 : b ≤ 64
        · go_enter Try.func12, Try.ntmps12
          go_wp2
          go_ret
          exact ⟨ret_bool (by unfold rightB; rw [decide_eq_decide]; omega), rfl⟩
        · go_enter Try.func12, Try.ntmps12
          go_wp2
          go_ret
          exact ⟨ret_bool (by symm; rw [rightB_not]; omega), rfl⟩
      · go_enter Try.func12, Try.ntmps12
        go_wp2
        go_ret
        exact ⟨ret_bool (by symm; rw [rightB_not]; omega), rfl⟩
    · go_enter Try.func12, Try.ntmps12
      go_wp2
      go_ret
      exact ⟨ret_bool (by symm; rw [rightB_not]; omega), rfl⟩
  · go_enter Try.func12, Try.ntmps12
    go_wp2
    go_ret
    exact ⟨ret_bool (by symm; rw [rightB_not]; omega), rfl⟩

theorem mostN_succ (k : Nat) (h : k < 64) : mostN ((k : Int) + 1) = 2 * mostN k + 1 := by
  unfold mostN
  rw [show min ((k : Int) + 1).toNat 64 = k + 1 by omega, show min (k : Int).toNat 64 = k by omega, Nat.pow_succ]
  have := pow_pos2 k
  omega
theorem mostN_half (k : Nat) (h : k < 64) : 2 * mostN k + 1 < 18446744073709551616 := by
  rw [← mostN_succ k h]; exact mostN_lt _
theorem mostN_min (b : Int) (k : Nat) (h : k = min b.toNat 64) : mostN k = mostN b := by
  unfold mostN; rw [show min (k : Int).toNat 64 = min b.toNat 64 by omega]

set_option maxHeartbeats 400000 in
theorem rmost_any (b : Int) (w : World) :
    Calls Try.prog 14 #[.int .i64 b] w fun e w' => e = .returned (.int .u64 (mostN b : Int)) ∧ w' = w := by
  go_enter Try.func14, Try.ntmps14
  go_wp2
  go_loop [3, 4] (fun m i => ∃ k : Nat, k ≤ 64 ∧ k ≤ b.toNat ∧ i = .int .i64 k ∧ m = .int .u64 (mostN k : Int)) (fun _ i => 64 - (intOf i).toNat)
  case atStart => exact ⟨0, Nat.zero_le _, Nat.zero_le _, rfl, rfl⟩
  case round =>
    obtain ⟨k, hk, hkb, rfl, rfl⟩ := hrel
    by_cases h1 : (k : Int) < b
    · by_cases h2 : k < 64
      · have hb := mostN_half k h2
        have HS : Hid (mostN ((k : Int) + 1) = 2 * mostN k + 1) := mostN_succ k h2
        go_wp2
        go_round
        case rel => exact ⟨k + 1, by omega, by omega, by go_num, by rw [show ((k + 1 : Nat) : Int) = (k : Int) + 1 by omega, HS.out]; go_num⟩
        case measure => simp [intOf]; omega
      · go_wp2
        go_ret
        exact ⟨ret_int (by rw [mostN_min b k (by omega)]), rfl⟩
    · go_wp2
      go_ret
      exact ⟨ret_int (by rw [mostN_min b k (by omega)]), rfl⟩

theorem own_form {w : World} {base : Nat} {e : TypeId} {v : Value} {n : Nat} {xs : List Value} (h : w.ownsRow base e 1 v n xs) (hn : 0 < n) :
    ∃ g cap, v = .slice (some ⟨g, 0, none⟩) n cap ∧ base ≤ g ∧ g < w.heap.size := by
  rcases h.2 with ⟨_, h0⟩ | ⟨g, cap, cur, hv, hb, hg, _⟩
  · omega
  · exact ⟨g, cap, hv, hb, (Array.getElem?_eq_some_iff.1 hg).1⟩
theorem cell_one (w : World) (a : Value) (t : TypeId) : ∀ j u, [a][j]? = some u → (w.alloc (.cells #[a] t)).cell? ((⟨w.heap.size, 0, none⟩ : Addr).add j) = some u := by
  intro j u hj
  match j, hj with
  | 0, hj => simp at hj; subst hj; simp [Addr.add]
theorem one_int {k : IntKind} {z : Int} : ∀ u ∈ [Value.int k z], u.oneCell' = true := by
  intro u hu; simp at hu; subst hu; rfl
/-- What one round of appending does to the rest. -/
theorem grow_step {W w w1 : World} {o : Obj} {B : Nat} {e : TypeId} {v : Value} {n : Nat} {xs : List Value} (hown : w.ownsRow B e 1 v n xs) (hB : B ≤ w.heap.size)
    (hb : Below B W w) (hg : (w.alloc o).grownBy w1 v.ownBlock) : Below B W w1 :=
  ((hb.alloc hB o).grown hg (by simp; omega) (fun k hk => (hown.lt k hk).1))

theorem i64_mod2 (n : Nat) : IntKind.i64.wrap ((n : Int) % 2) = ((n % 2 : Nat) : Int) := by
  rw [IntKind.wrap_i64]; omega

set_option maxHeartbeats 800000 in
theorem bits_any (n : Nat) (w : World) (hn : n < 18446744073709551616) :
    Calls Try.prog 19 #[.int .u64 (n : Int)] w fun e w' => ∃ g cap, e = .returned (.slice (some ⟨g, 0, none⟩) 64 cap) ∧
      w'.ownsRow w.heap.size 3 1 (.slice (some ⟨g, 0, none⟩) 64 cap) 64 (intsN (bitsL n 64)) ∧ Below w.heap.size w w' := by
  obtain ⟨i0, hi, hz0, hz1, hz2⟩ := info_parts Try.infoInt
  go_enter Try.func19, Try.ntmps19
  go_wp2
  go_loopw [0, 3, 4] (fun x v i wr => ∃ k : Nat, k ≤ 64 ∧ i = .int .i64 k ∧ x = .int .u64 ((n / 2 ^ k : Nat) : Int) ∧ wr.ownsRow w.heap.size 3 1 v k (intsN (bitsL n k)) ∧ Below w.heap.size w wr)
    (fun _ _ i _ => 64 - (intOf i).toNat)
  case atStart => exact ⟨0, Nat.zero_le _, rfl, by simp, by simpa [intsN, bitsL] using World.ownsRow_made (e := 3) (size := 1) w #[] 0 (Nat.le_refl _) (by decide) (by simp), (Below.refl _ _).alloc (Nat.le_refl _) _⟩
  case round =>
    obtain ⟨k, hk, rfl, rfl, hown, hbel⟩ := hrel
    have hB := hbel.size
    by_cases hlt : k < 64
    · have hx : n / 2 ^ k < 18446744073709551616 := Nat.lt_of_le_of_lt (Nat.div_le_self _ _) hn
      obtain ⟨m, hm⟩ : ∃ m, m = n / 2 ^ k := ⟨_, rfl⟩
      rw [← hm] at hx ⊢
      have hm2 : (m / 2 : Nat) = n / 2 ^ (k + 1) := by rw [hm, Nat.div_div_eq_div_mul, Nat.pow_succ]
      have HM : Hid (m = n / 2 ^ k) := hm
      have HM2 : Hid ((m / 2 : Nat) = n / 2 ^ (k + 1)) := hm2
      clear hm hm2
      have hown2 := hown.alloc (.cells #[.int .i64 ((m % 2 : Nat) : Int)] 3)
      go_wp2_with (at_builtin; refine wpList_append_own _ rfl _ _ 33 rfl w.heap.size 3 i0 (.int .i64 0) 1 8 Try.underlying33 hi hz0 hz1 hz2 rfl (by decide) _ _ _ rfl hown2 ⟨wr.heap.size, 0, none⟩ 1 1 [.int .i64 ((m % 2 : Nat) : Int)] rfl rfl ?c1 ?c2 ?c3 ?c4 ?c5 ?_)
      case c1 => exact cell_one _ _ _
      case c2 => exact one_int
      case c3 => unfold maxLen; omega
      case c4 => omega
      case c5 => simp; omega
      intro v' w1 hown' hgrow _
      have R := grow_step hown hB hbel hgrow
      clear hgrow hown hown2
      go_wp2
      go_roundw
      case rel => exact ⟨k + 1, by omega, by go_num, by rw [← HM2.out]; go_num, by rw [bitsL_succ, intsN_snoc, ← HM.out]; exact hown', R⟩
      case measure => simp [intOf]; omega
    · go_wp2
      go_ret
      have e : k = 64 := by omega
      subst e
      obtain ⟨g, cap, rfl, h1, h2⟩ := own_form hown (by decide)
      exact ⟨g, cap, rfl, hown, hbel⟩
end Go.Proofs.Ytcjefpbagcflcaa
