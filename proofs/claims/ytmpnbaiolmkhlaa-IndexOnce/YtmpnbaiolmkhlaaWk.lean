/- The walks of bytes in words: wordsFor, Words, byteOf, emptyBehind, Bytes; slices that are read (Sl). -/
import Derived.Test.YtmpnbaiolmkhlaaW0
import Derived.Test.YtmpnbaiolmkhlaaMf
import Derived.Deep.RegionHeld3
import Derived.OpenShut
import Derived.ProofKit
namespace Go.Proofs.Ytmpnbaiolmkhlaa
set_option maxRecDepth 20000
open Go.RowKit

theorem Try.infoU64 : (Try.prog.info? 32).map (fun i => (i.zero, i.size, i.bytes)) = some (some (.int .u64 0), 1, 8) := by kernel_rfl
theorem Try.infoU8 : (Try.prog.info? 5).map (fun i => (i.zero, i.size, i.bytes)) = some (some (.int .u8 0), 1, 1) := by kernel_rfl

def uintsN (l : List Nat) : List Value := l.map fun (b : Nat) => Value.int .u64 (b : Int)
theorem uintsN_length (l : List Nat) : (uintsN l).length = l.length := by simp [uintsN]
theorem uintsN_snoc (l : List Nat) (b : Nat) : uintsN (l ++ [b]) = uintsN l ++ [Value.int .u64 (b : Int)] := by simp [uintsN]
theorem uintsN_get (l : List Nat) (j : Nat) (h : j < l.length) : (uintsN l)[j]? = some (.int .u64 (l[j]?.getD 0 : Nat)) := by simp [uintsN, h]
theorem uintsN_set (l : List Nat) (j b : Nat) : (uintsN l).set j (.int .u64 (b : Int)) = uintsN (l.set j b) := by simp [uintsN, List.map_set]
theorem own_cellsU {w : World} {base g cap n : Nat} {e : TypeId} {zs : List Nat} (h : w.ownsRow base e 1 (.slice (some ⟨g, 0, none⟩) n cap) n (uintsN zs)) (hl : zs.length = n) (j : Nat) (hj : j < n) :
    w.cell? ⟨g, j, none⟩ = some (.int .u64 (zs[j]?.getD 0 : Nat)) := by
  rw [h.cellAt j (by omega), uintsN_get _ _ (by omega)]

theorem own_slU {w : World} {base n : Nat} {e : TypeId} {v : Value} {zs : List Nat} (h : w.ownsRow base e 1 v n (uintsN zs)) (hl : zs.length = n) :
    ∃ ao cap, v = .slice ao n cap ∧ Sl .u64 w ao n (fun i => ((zs[i]?.getD 0 : Nat) : Int)) := by
  by_cases hn : 0 < n
  · obtain ⟨g, cap, rfl, _, _⟩ := own_form h hn
    refine ⟨_, _, rfl, fun j hj => ⟨g, 0, rfl, ?_⟩⟩
    rw [Nat.zero_add]
    exact own_cellsU h hl j hj
  · rcases h.2 with ⟨h1, h2⟩ | ⟨g, cap, cur, h1, _⟩
    · exact ⟨_, _, by rw [h1, h2], fun j hj => absurd hj (by omega)⟩
    · exact ⟨_, _, h1, fun j hj => absurd hj (by omega)⟩
theorem u8_byte (x r : Nat) : (x : Int) / 2 ^ (r % 8 * 8) % 256 = ((x / 2 ^ (r % 8 * 8) % 256 : Nat) : Int) := by
  have h3 : ((x : Int) / 2 ^ (r % 8 * 8)) = ((x / 2 ^ (r % 8 * 8) : Nat) : Int) := by simp
  rw [h3]; omega

theorem ret_str {a b : ByteArray} (h : a = b) : Ending.returned (.string a) = .returned (.string b) := by rw [h]
/-- A string by its list of bytes. -/
def strL (l : List UInt8) : ByteArray := ⟨l.toArray⟩
theorem strL_data (s : ByteArray) : strL s.data.toList = s := rfl
theorem strL_toList (l : List UInt8) : (strL l).data.toList = l := rfl
theorem strL_size (l : List UInt8) : (strL l).size = l.length := by show l.toArray.size = _; simp
theorem str_append (s : ByteArray) (l : List UInt8) : s ++ (⟨l.toArray⟩ : ByteArray) = strL (s.data.toList ++ l) := by
  apply ByteArray.ext
  rw [ByteArray.data_append]
  apply Array.ext'
  simp [strL]
theorem sl_one (w : World) (t : TypeId) (x : Nat) : Sl .u64 (w.alloc (.cells #[.int .u64 (x : Int)] t)) (some ⟨w.heap.size, 0, none⟩) 1 (fun j => (((fun _ => x) j : Nat) : Int)) := by
  intro j hj
  have e : j = 0 := by omega
  subst e
  exact ⟨_, 0, rfl, World.cell?_alloc_new (w := w) _ _ 0⟩
theorem byteAt_one (x k : Nat) (hk : k < 8) : byteAt (fun _ => x) k = x / 2 ^ (8 * k) % 256 := by
  unfold byteAt; rw [Nat.mod_eq_of_lt hk, Nat.mul_comm]
theorem div_byte (x k : Nat) : x / 2 ^ (8 * k) / 256 = x / 2 ^ (8 * (k + 1)) := by
  rw [Nat.div_div_eq_div_mul, show (256 : Nat) = 2 ^ 8 by decide, ← Nat.pow_add]; rfl
def bytesV (l : List UInt8) : List Value := l.map fun (b : UInt8) => Value.int .u8 (b.toNat : Int)
theorem bytesV_length (l : List UInt8) : (bytesV l).length = l.length := by simp [bytesV]
theorem bytesV_set (v : Nat → Nat) (n k : Nat) (h : k < n) : (bytesV (bytesL v k ++ List.replicate (n - k) 0)).set k (.int .u8 (byteAt v k : Int)) = bytesV (bytesL v (k + 1) ++ List.replicate (n - (k + 1)) 0) := by
  have e : n - k = (n - (k + 1)) + 1 := by omega
  rw [bytesL_succ, e, List.replicate_succ, List.append_assoc]
  simp only [bytesV, List.map_append, List.map_cons]
  rw [List.set_append_right _ _ (by simp [bytesL_length]), List.length_map, bytesL_length, Nat.sub_self, List.set_cons_zero]
  simp [ofNat_toNat (byteAt_lt v k)]

end Go.Proofs.Ytmpnbaiolmkhlaa
