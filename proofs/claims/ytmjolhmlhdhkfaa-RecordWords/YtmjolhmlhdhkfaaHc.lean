/- The walks of the reference's lengths. -/
import Derived.Test.YtmjolhmlhdhkfaaHb
namespace Go.Proofs.Ytmjolhmlhdhkfaa
open Go.RowKit
set_option maxHeartbeats 400000 in
theorem rlen_arg (k v : Int) (w : World) (h : k < 0 ∨ v < 0) :
    Calls Try.prog 29 #[.int .i64 k, .int .i64 v] w fun e w' => e = .returned (.tuple #[.int .u64 0, .int .i64 1]) ∧ w' = w := by
  by_cases hk : k < 0
  · go_enter Try.func29, Try.ntmps29
    go_wp2
    go_ret2
    exact ⟨rfl, rfl⟩
  · have hv : v < 0 := by omega
    clear h
    go_enter Try.func29, Try.ntmps29
    go_wp2
    go_ret2
    exact ⟨rfl, rfl⟩
set_option maxHeartbeats 400000 in
theorem rlen_long (k v : Int) (w : World) (hk : 0 ≤ k) (hv : 0 ≤ v) (h : 64 < k ∨ 128 < v) :
    Calls Try.prog 29 #[.int .i64 k, .int .i64 v] w fun e w' => e = .returned (.tuple #[.int .u64 0, .int .i64 5]) ∧ w' = w := by
  by_cases hk' : 64 < k
  · clear h
    go_enter Try.func29, Try.ntmps29
    go_wp2
    go_ret2
    exact ⟨rfl, rfl⟩
  · have hv' : 128 < v := by omega
    clear h
    go_enter Try.func29, Try.ntmps29
    go_wp2
    go_ret2
    exact ⟨rfl, rfl⟩
set_option maxHeartbeats 1000000 in
theorem rlen_yes (k v : Nat) (w : World) (hk : k ≤ 64) (hv : v ≤ 128) :
    Calls Try.prog 29 #[.int .i64 (k : Int), .int .i64 (v : Int)] w fun e w' => e = .returned (.tuple #[.int .u64 (lenN k v : Int), .int .i64 0]) ∧ w' = w := by
  have H : Hid ((lenN k v : Int) = (k : Int) + (v : Int) * 65536 + 189850439385088) := by simp only [Hid, lenN]; omega
  go_enter Try.func29, Try.ntmps29
  go_wp2
  go_ret2
  exact ⟨ret_two H.out.symm rfl, rfl⟩
set_option maxHeartbeats 1000000 in
theorem rtold_any (n : Nat) (w : World) (hn : n < 18446744073709551616) :
    Calls Try.prog 17 #[.int .u64 (n : Int)] w fun e w' => e = .returned (.tuple (if toldB n then #[.int .i64 ((n % 65536 : Nat) : Int), .int .i64 ((n / 65536 % 65536 : Nat) : Int), .int .i64 0] else #[.int .i64 0, .int .i64 0, .int .i64 4])) ∧ w' = w := by
  have p1 : (n : Int) % 65536 = ((n % 65536 : Nat) : Int) := by omega
  have p2 : (n : Int) / 65536 % 65536 = ((n / 65536 % 65536 : Nat) : Int) := by omega
  have p3 : (n : Int) / 4294967296 = ((n / 4294967296 : Nat) : Int) := by omega
  have l1 : n % 65536 < 65536 := Nat.mod_lt _ (by decide)
  have l2 : n / 65536 % 65536 < 65536 := Nat.mod_lt _ (by decide)
  have HT : Hid (toldB n = decide (n / 4294967296 = 44203 ∧ n % 65536 ≤ 64 ∧ n / 65536 % 65536 ≤ 128)) := rfl
  generalize n % 65536 = K at *
  generalize n / 65536 % 65536 = V at *
  generalize n / 4294967296 = Q at *
  by_cases h1 : Q = 44203
  · subst h1
    by_cases h2 : K ≤ 64
    · by_cases h3 : V ≤ 128
      · have ht : toldB n = true := by rw [HT.out, decide_eq_true_eq]; exact ⟨rfl, h2, h3⟩
        rw [ht, if_pos rfl]
        clear ht HT
        go_enter Try.func17, Try.ntmps17
        go_wp2
        go_ret3
        exact ⟨rfl, rfl⟩
      · have ht : toldB n = false := by rw [HT.out, decide_eq_false_iff_not]; exact fun x => h3 x.2.2
        rw [ht, if_neg (by decide)]
        clear ht HT
        go_enter Try.func17, Try.ntmps17
        go_wp2
        go_ret3
        exact ⟨rfl, rfl⟩
    · have ht : toldB n = false := by rw [HT.out, decide_eq_false_iff_not]; exact fun x => h2 x.2.1
      rw [ht, if_neg (by decide)]
      clear ht HT
      go_enter Try.func17, Try.ntmps17
      go_wp2
      go_ret3
      exact ⟨rfl, rfl⟩
  · have ht : toldB n = false := by rw [HT.out, decide_eq_false_iff_not]; exact fun x => h1 x.1
    rw [ht, if_neg (by decide)]
    have h1' : ((Q : Int) != 44203) = true := by rw [bne_iff_ne]; omega
    clear ht HT
    go_enter Try.func17, Try.ntmps17
    go_wp2
    go_ret3
    exact ⟨rfl, rfl⟩
end Go.Proofs.Ytmjolhmlhdhkfaa
