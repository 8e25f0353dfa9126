/-
  No cell of these rows narrows 'for every input' (looked for: loops, veiled, ifaces, maps, wideKeys, modest, calm, conditions, laid).
  DERIVED. THE GIVEN ROWS OF THIS SEAT. 3 by the template 'for every input the law returns true; each argument reads behind the call as it read before'; 0 by the template 'total and deterministic' (their statements: YtodkbhboapledaaTotals.lean).
  GIVEN WITH THE SEED: the statements are not yours to turn. If you find one false, say at which input.
  Laid BY PROGRAM, IN A SANDBOX (cutbox-rows.mjs): the forced cells as the released guide's own fill.sh prints them over the translation 30b48c4c9ab21773… (all of the seat's roots in one cut). By AI agents, Wed Nov 11 2026. No macro, syntax, notation, axiom, sorry.
-/
import Derived.Test.YtodkbhboapledaaChecked
import GoSem.Claim
import GoSem.ClaimJoined
import GoSem.ClaimMapViews
import Derived.JoinedTies
import Derived.KernelRfl
namespace Go.Proofs.Ytodkbhboapledaa
/- THE CELL 'sum', in the pinned program and in every row, IS THE sha256 OF THE DUMP (.gsa) THAT YtodkbhboapledaaProg.lean LOADS. Nothing in Lean hashes anything: it is a label: what it is worth is what the hold of that sum in a sandbox is worth. -/
noncomputable def Try.pinned : Pinned := { name := "ytodkbhboapledaa", sum := "30b48c4c9ab21773f27ecd898c306606e2b515b0841c28600d8e9408f70d3e6e", checked := Try.checked }
namespace Rows
def none {H : Type} : Left H := { results := [], args := [] }

/-- 'haycroftlaw07.DrainPlays': WHATEVER THE INPUT: true; the input reads as it did. -/
def drainPlaysSpec : ChangeSpec := { name := "drainPlays", fn := fun _ => fun
  | [d] => { results := [.lit (.bool true)], args := [d] }
  | _ => none }
def drainPlaysRow : OpenClaim := { program := "ytodkbhboapledaa", sum := "30b48c4c9ab21773f27ecd898c306606e2b515b0841c28600d8e9408f70d3e6e", func := "haycroft/haycroftlaw07.DrainPlays", spec := "drainPlays", apart := false }
def DrainPlaysSaid : Prop := drainPlaysRow.holds Try.pinned (OpenSpec.ofChange drainPlaysSpec)

/-- ITS FALSE NEIGHBOUR: 'it returns false'. Refute it at one input. -/
def drainPlaysWrong : ChangeSpec := { name := "drainPlays", fn := fun _ => fun
  | [d] => { results := [.lit (.bool false)], args := [d] }
  | _ => none }
def DrainPlaysWrongFalsely : Prop := drainPlaysRow.holds Try.pinned (OpenSpec.ofChange drainPlaysWrong)

/-- 'haycroftlaw07.DrainOnce': WHATEVER THE INPUT: true; the input reads as it did. -/
def drainOnceSpec : ChangeSpec := { name := "drainOnce", fn := fun _ => fun
  | [d1, d2] => { results := [.lit (.bool true)], args := [d1, d2] }
  | _ => none }
def drainOnceRow : OpenClaim := { program := "ytodkbhboapledaa", sum := "30b48c4c9ab21773f27ecd898c306606e2b515b0841c28600d8e9408f70d3e6e", func := "haycroft/haycroftlaw07.DrainOnce", spec := "drainOnce", apart := false }
def DrainOnceSaid : Prop := drainOnceRow.holds Try.pinned (OpenSpec.ofChange drainOnceSpec)

/-- ITS FALSE NEIGHBOUR: 'it returns false'. Refute it at one input. -/
def drainOnceWrong : ChangeSpec := { name := "drainOnce", fn := fun _ => fun
  | [d1, d2] => { results := [.lit (.bool false)], args := [d1, d2] }
  | _ => none }
def DrainOnceWrongFalsely : Prop := drainOnceRow.holds Try.pinned (OpenSpec.ofChange drainOnceWrong)

/-- 'haycroftlaw07.DrainNil': WHATEVER THE INPUT: true; the input reads as it did. -/
def drainNilSpec : ChangeSpec := { name := "drainNil", fn := fun _ => fun
  | [d] => { results := [.lit (.bool true)], args := [d] }
  | _ => none }
def drainNilRow : OpenClaim := { program := "ytodkbhboapledaa", sum := "30b48c4c9ab21773f27ecd898c306606e2b515b0841c28600d8e9408f70d3e6e", func := "haycroft/haycroftlaw07.DrainNil", spec := "drainNil", apart := false }
def DrainNilSaid : Prop := drainNilRow.holds Try.pinned (OpenSpec.ofChange drainNilSpec)

/-- ITS FALSE NEIGHBOUR: 'it returns false'. Refute it at one input. -/
def drainNilWrong : ChangeSpec := { name := "drainNil", fn := fun _ => fun
  | [d] => { results := [.lit (.bool false)], args := [d] }
  | _ => none }
def DrainNilWrongFalsely : Prop := drainNilRow.holds Try.pinned (OpenSpec.ofChange drainNilWrong)

/- THE SECOND FORM. 'bulk': how many values and letters a reading holds, each counted each time it is reached (what is shared counts as often as it is met; a slice's spare places count too). A statement '..UptoSaid' is the law's where the arguments, and the package variables that the reading takes, are together of bulk at most 1048576: NARROWER than '..Said'. Prove '..Said' where nothing that the law and all that it calls make is longer than what came in: it says more and counts as full. Else prove '..UptoSaid'. A law counts once. -/
mutual
def uptoBulk {H : Type} : DataW H → Nat
  | .lit (.string bytes) => bytes.length + 1
  | .lit _ => 1
  | .nil => 1
  | .ptr d => uptoBulk d + 1
  | .slice elems spare => uptoBulkAll elems + uptoBulkAll spare + 1
  | .agg parts => uptoBulkAll parts + 1
  | .iface _ d => uptoBulk d + 1
  | .map entries => uptoBulkEntries entries + 1
  | .held _ => 1
def uptoBulkAll {H : Type} : List (DataW H) → Nat
  | [] => 0
  | d :: r => uptoBulk d + uptoBulkAll r
def uptoBulkEntries {H : Type} : List (Lit × DataW H) → Nat
  | [] => 0
  | x :: r => uptoBulkEntry x + uptoBulkEntries r
def uptoBulkEntry {H : Type} : Lit × DataW H → Nat
  | (.string bytes, d) => bytes.length + uptoBulk d + 1
  | (_, d) => uptoBulk d + 1
 end
def uptoSmall : (H : Type) → List (DataW H) → Bool := fun _ ds => decide (uptoBulkAll ds ≤ 1048576)
def OpenSpec.upto (s : _root_.Go.ChangeSpec) : _root_.Go.OpenSpec := { _root_.Go.OpenSpec.ofChange s with cond := some uptoSmall }

/-- 'haycroftlaw07.DrainPlays', WHERE WHAT IT READS IS OF BULK AT MOST 1048576: true; the input reads as it did. -/
def drainPlaysUptoRow : OpenClaim := { program := "ytodkbhboapledaa", sum := "30b48c4c9ab21773f27ecd898c306606e2b515b0841c28600d8e9408f70d3e6e", func := "haycroft/haycroftlaw07.DrainPlays", spec := "drainPlays", apart := false, narrowed := true }
def DrainPlaysUptoSaid : Prop := drainPlaysUptoRow.holds Try.pinned (OpenSpec.upto drainPlaysSpec)

/-- 'haycroftlaw07.DrainOnce', WHERE WHAT IT READS IS OF BULK AT MOST 1048576: true; the input reads as it did. -/
def drainOnceUptoRow : OpenClaim := { program := "ytodkbhboapledaa", sum := "30b48c4c9ab21773f27ecd898c306606e2b515b0841c28600d8e9408f70d3e6e", func := "haycroft/haycroftlaw07.DrainOnce", spec := "drainOnce", apart := false, narrowed := true }
def DrainOnceUptoSaid : Prop := drainOnceUptoRow.holds Try.pinned (OpenSpec.upto drainOnceSpec)

/-- 'haycroftlaw07.DrainNil', WHERE WHAT IT READS IS OF BULK AT MOST 1048576: true; the input reads as it did. -/
def drainNilUptoRow : OpenClaim := { program := "ytodkbhboapledaa", sum := "30b48c4c9ab21773f27ecd898c306606e2b515b0841c28600d8e9408f70d3e6e", func := "haycroft/haycroftlaw07.DrainNil", spec := "drainNil", apart := false, narrowed := true }
def DrainNilUptoSaid : Prop := drainNilUptoRow.holds Try.pinned (OpenSpec.upto drainNilSpec)

end Rows
end Go.Proofs.Ytodkbhboapledaa
