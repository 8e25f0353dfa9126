/-
  No cell of these rows narrows 'for every input' (looked for: loops, veiled, ifaces, maps, wideKeys, modest, calm, conditions, laid).
  DERIVED. THE GIVEN ROWS OF THIS SEAT. 3 by the template 'for every input the law returns true; each argument reads behind the call as it read before'; 0 by the template 'total and deterministic' (their statements: YtpkoohpobcfjcaaTotals.lean).
  GIVEN WITH THE SEED: the statements are not yours to turn. If you find one false, say at which input.
  Laid BY PROGRAM, IN A SANDBOX (cutbox-rows.mjs): the forced cells as the released guide's own fill.sh prints them over the translation daedeee7013c748d… (all of the seat's roots in one cut). By AI agents, Wed Nov 11 2026. No macro, syntax, notation, axiom, sorry.
-/
import Derived.Test.YtpkoohpobcfjcaaChecked
import GoSem.Claim
import GoSem.ClaimJoined
import GoSem.ClaimMapViews
import Derived.JoinedTies
import Derived.KernelRfl
namespace Go.Proofs.Ytpkoohpobcfjcaa
/- THE CELL 'sum', in the pinned program and in every row, IS THE sha256 OF THE DUMP (.gsa) THAT YtpkoohpobcfjcaaProg.lean LOADS. Nothing in Lean hashes anything: it is a label: what it is worth is what the hold of that sum in a sandbox is worth. -/
noncomputable def Try.pinned : Pinned := { name := "ytpkoohpobcfjcaa", sum := "daedeee7013c748d05971f8ff4e8e293bd7624195eb63ed67dfa864fc2821d24", checked := Try.checked }
namespace Rows
def none {H : Type} : Left H := { results := [], args := [] }

/-- 'haycroftlaw14.TailPlays': WHATEVER THE INPUT: true; the input reads as it did. -/
def tailPlaysSpec : ChangeSpec := { name := "tailPlays", fn := fun _ => fun
  | [d1, d2, d3] => { results := [.lit (.bool true)], args := [d1, d2, d3] }
  | _ => none }
def tailPlaysRow : OpenClaim := { program := "ytpkoohpobcfjcaa", sum := "daedeee7013c748d05971f8ff4e8e293bd7624195eb63ed67dfa864fc2821d24", func := "haycroft/haycroftlaw14.TailPlays", spec := "tailPlays", inPlace := ["sync/atomic.StoreUint64", "sync/atomic.LoadUint64", "sync/atomic.AddUint64", "sync/atomic.CompareAndSwapUint64", "sync/atomic.AddInt64"], apart := false }
def TailPlaysSaid : Prop := tailPlaysRow.holds Try.pinned (OpenSpec.ofChange tailPlaysSpec)

/-- ITS FALSE NEIGHBOUR: 'it returns false'. Refute it at one input. -/
def tailPlaysWrong : ChangeSpec := { name := "tailPlays", fn := fun _ => fun
  | [d1, d2, d3] => { results := [.lit (.bool false)], args := [d1, d2, d3] }
  | _ => none }
def TailPlaysWrongFalsely : Prop := tailPlaysRow.holds Try.pinned (OpenSpec.ofChange tailPlaysWrong)

/-- 'haycroftlaw14.TailApart': WHATEVER THE INPUT: true; the input reads as it did. -/
def tailApartSpec : ChangeSpec := { name := "tailApart", fn := fun _ => fun
  | [d1, d2, d3] => { results := [.lit (.bool true)], args := [d1, d2, d3] }
  | _ => none }
def tailApartRow : OpenClaim := { program := "ytpkoohpobcfjcaa", sum := "daedeee7013c748d05971f8ff4e8e293bd7624195eb63ed67dfa864fc2821d24", func := "haycroft/haycroftlaw14.TailApart", spec := "tailApart", inPlace := ["sync/atomic.StoreUint64", "sync/atomic.LoadUint64", "sync/atomic.AddUint64", "sync/atomic.CompareAndSwapUint64", "sync/atomic.AddInt64"], apart := false }
def TailApartSaid : Prop := tailApartRow.holds Try.pinned (OpenSpec.ofChange tailApartSpec)

/-- ITS FALSE NEIGHBOUR: 'it returns false'. Refute it at one input. -/
def tailApartWrong : ChangeSpec := { name := "tailApart", fn := fun _ => fun
  | [d1, d2, d3] => { results := [.lit (.bool false)], args := [d1, d2, d3] }
  | _ => none }
def TailApartWrongFalsely : Prop := tailApartRow.holds Try.pinned (OpenSpec.ofChange tailApartWrong)

/-- 'haycroftlaw14.TailNil': WHATEVER THE INPUT: true; the input reads as it did. -/
def tailNilSpec : ChangeSpec := { name := "tailNil", fn := fun _ => fun
  | [d] => { results := [.lit (.bool true)], args := [d] }
  | _ => none }
def tailNilRow : OpenClaim := { program := "ytpkoohpobcfjcaa", sum := "daedeee7013c748d05971f8ff4e8e293bd7624195eb63ed67dfa864fc2821d24", func := "haycroft/haycroftlaw14.TailNil", spec := "tailNil", inPlace := ["sync/atomic.StoreUint64", "sync/atomic.LoadUint64", "sync/atomic.AddUint64", "sync/atomic.CompareAndSwapUint64", "sync/atomic.AddInt64"], apart := false }
def TailNilSaid : Prop := tailNilRow.holds Try.pinned (OpenSpec.ofChange tailNilSpec)

/-- ITS FALSE NEIGHBOUR: 'it returns false'. Refute it at one input. -/
def tailNilWrong : ChangeSpec := { name := "tailNil", fn := fun _ => fun
  | [d] => { results := [.lit (.bool false)], args := [d] }
  | _ => none }
def TailNilWrongFalsely : Prop := tailNilRow.holds Try.pinned (OpenSpec.ofChange tailNilWrong)

/- THE SECOND FORM. 'bulk': how many values and letters a reading holds, each counted each time it is reached (what is shared counts as often as it is met; a slice's spare places count too). A statement '..UptoSaid' is the law's where the arguments, and the package variables that the reading takes, are together of bulk at most 1048576: NARROWER than '..Said'. Prove '..Said' where nothing that the law and all that it calls make is longer than what came in: it says more and counts as full. Else prove '..UptoSaid'. A law counts once. -/
mutual
def uptoBulk {H : Type} : DataW H → Nat
  | .lit (.string bytes) => bytes.length + 1
  | .lit _ => 1
  | .nil => 1
  | .ptr d => uptoBulk d + 1
  | .slice elems spare => uptoBulkAll elems + uptoBulkAll spare + 1
  | .agg parts => uptoBulkAll parts + 1
  | .iface _ d => uptoBulk d + 1
  | .map entries => uptoBulkEntries entries + 1
  | .held _ => 1
def uptoBulkAll {H : Type} : List (DataW H) → Nat
  | [] => 0
  | d :: r => uptoBulk d + uptoBulkAll r
def uptoBulkEntries {H : Type} : List (Lit × DataW H) → Nat
  | [] => 0
  | x :: r => uptoBulkEntry x + uptoBulkEntries r
def uptoBulkEntry {H : Type} : Lit × DataW H → Nat
  | (.string bytes, d) => bytes.length + uptoBulk d + 1
  | (_, d) => uptoBulk d + 1
 end
def uptoSmall : (H : Type) → List (DataW H) → Bool := fun _ ds => decide (uptoBulkAll ds ≤ 1048576)
def OpenSpec.upto (s : _root_.Go.ChangeSpec) : _root_.Go.OpenSpec := { _root_.Go.OpenSpec.ofChange s with cond := some uptoSmall }

/-- 'haycroftlaw14.TailPlays', WHERE WHAT IT READS IS OF BULK AT MOST 1048576: true; the input reads as it did. -/
def tailPlaysUptoRow : OpenClaim := { program := "ytpkoohpobcfjcaa", sum := "daedeee7013c748d05971f8ff4e8e293bd7624195eb63ed67dfa864fc2821d24", func := "haycroft/haycroftlaw14.TailPlays", spec := "tailPlays", inPlace := ["sync/atomic.StoreUint64", "sync/atomic.LoadUint64", "sync/atomic.AddUint64", "sync/atomic.CompareAndSwapUint64", "sync/atomic.AddInt64"], apart := false, narrowed := true }
def TailPlaysUptoSaid : Prop := tailPlaysUptoRow.holds Try.pinned (OpenSpec.upto tailPlaysSpec)

/-- 'haycroftlaw14.TailApart', WHERE WHAT IT READS IS OF BULK AT MOST 1048576: true; the input reads as it did. -/
def tailApartUptoRow : OpenClaim := { program := "ytpkoohpobcfjcaa", sum := "daedeee7013c748d05971f8ff4e8e293bd7624195eb63ed67dfa864fc2821d24", func := "haycroft/haycroftlaw14.TailApart", spec := "tailApart", inPlace := ["sync/atomic.StoreUint64", "sync/atomic.LoadUint64", "sync/atomic.AddUint64", "sync/atomic.CompareAndSwapUint64", "sync/atomic.AddInt64"], apart := false, narrowed := true }
def TailApartUptoSaid : Prop := tailApartUptoRow.holds Try.pinned (OpenSpec.upto tailApartSpec)

/-- 'haycroftlaw14.TailNil', WHERE WHAT IT READS IS OF BULK AT MOST 1048576: true; the input reads as it did. -/
def tailNilUptoRow : OpenClaim := { program := "ytpkoohpobcfjcaa", sum := "daedeee7013c748d05971f8ff4e8e293bd7624195eb63ed67dfa864fc2821d24", func := "haycroft/haycroftlaw14.TailNil", spec := "tailNil", inPlace := ["sync/atomic.StoreUint64", "sync/atomic.LoadUint64", "sync/atomic.AddUint64", "sync/atomic.CompareAndSwapUint64", "sync/atomic.AddInt64"], apart := false, narrowed := true }
def TailNilUptoSaid : Prop := tailNilUptoRow.holds Try.pinned (OpenSpec.upto tailNilSpec)

end Rows
end Go.Proofs.Ytpkoohpobcfjcaa
