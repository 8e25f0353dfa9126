/-
  No cell of these rows narrows 'for every input' (looked for: loops, veiled, ifaces, maps, wideKeys, modest, calm, conditions, laid).
  DERIVED. THE GIVEN ROWS OF THIS SEAT. 4 by the template 'for every input the law returns true; each argument reads behind the call as it read before'; 0 by the template 'total and deterministic' (their statements: YtjfifnfdpkaijaaTotals.lean).
  GIVEN WITH THE SEED: the statements are not yours to turn. If you find one false, say at which input.
  Laid BY PROGRAM, IN A SANDBOX (cutbox-rows.mjs): the forced cells as the released guide's own fill.sh prints them over the translation 1fd80c8294eb3631… (all of the seat's roots in one cut). By AI agents, Wed Nov 11 2026. No macro, syntax, notation, axiom, sorry.
-/
import Derived.Test.YtjfifnfdpkaijaaChecked
import GoSem.Claim
import GoSem.ClaimJoined
import GoSem.ClaimMapViews
import Derived.JoinedTies
import Derived.KernelRfl
namespace Go.Proofs.Ytjfifnfdpkaijaa
/- THE CELL 'sum', in the pinned program and in every row, IS THE sha256 OF THE DUMP (.gsa) THAT YtjfifnfdpkaijaaProg.lean LOADS. Nothing in Lean hashes anything: it is a label: what it is worth is what the hold of that sum in a sandbox is worth. -/
noncomputable def Try.pinned : Pinned := { name := "ytjfifnfdpkaijaa", sum := "1fd80c8294eb3631fe51b5952879d2b0d38ac5ba2bdb3ece5d9fb21421979dbe", checked := Try.checked }
namespace Rows
def none {H : Type} : Left H := { results := [], args := [] }

/-- 'haycroftlaw08.HeaderPacks': WHATEVER THE INPUT: true; the input reads as it did. -/
def headerPacksSpec : ChangeSpec := { name := "headerPacks", fn := fun _ => fun
  | [d1, d2] => { results := [.lit (.bool true)], args := [d1, d2] }
  | _ => none }
def headerPacksRow : OpenClaim := { program := "ytjfifnfdpkaijaa", sum := "1fd80c8294eb3631fe51b5952879d2b0d38ac5ba2bdb3ece5d9fb21421979dbe", func := "haycroft/haycroftlaw08.HeaderPacks", spec := "headerPacks", apart := false }
def HeaderPacksSaid : Prop := headerPacksRow.holds Try.pinned (OpenSpec.ofChange headerPacksSpec)

/-- ITS FALSE NEIGHBOUR: 'it returns false'. Refute it at one input. -/
def headerPacksWrong : ChangeSpec := { name := "headerPacks", fn := fun _ => fun
  | [d1, d2] => { results := [.lit (.bool false)], args := [d1, d2] }
  | _ => none }
def HeaderPacksWrongFalsely : Prop := headerPacksRow.holds Try.pinned (OpenSpec.ofChange headerPacksWrong)

/-- 'haycroftlaw08.HeaderLocks': WHATEVER THE INPUT: true; the input reads as it did. -/
def headerLocksSpec : ChangeSpec := { name := "headerLocks", fn := fun _ => fun
  | [d] => { results := [.lit (.bool true)], args := [d] }
  | _ => none }
def headerLocksRow : OpenClaim := { program := "ytjfifnfdpkaijaa", sum := "1fd80c8294eb3631fe51b5952879d2b0d38ac5ba2bdb3ece5d9fb21421979dbe", func := "haycroft/haycroftlaw08.HeaderLocks", spec := "headerLocks", apart := false }
def HeaderLocksSaid : Prop := headerLocksRow.holds Try.pinned (OpenSpec.ofChange headerLocksSpec)

/-- ITS FALSE NEIGHBOUR: 'it returns false'. Refute it at one input. -/
def headerLocksWrong : ChangeSpec := { name := "headerLocks", fn := fun _ => fun
  | [d] => { results := [.lit (.bool false)], args := [d] }
  | _ => none }
def HeaderLocksWrongFalsely : Prop := headerLocksRow.holds Try.pinned (OpenSpec.ofChange headerLocksWrong)

/-- 'haycroftlaw08.HeaderTurns': WHATEVER THE INPUT: true; the input reads as it did. -/
def headerTurnsSpec : ChangeSpec := { name := "headerTurns", fn := fun _ => fun
  | [d] => { results := [.lit (.bool true)], args := [d] }
  | _ => none }
def headerTurnsRow : OpenClaim := { program := "ytjfifnfdpkaijaa", sum := "1fd80c8294eb3631fe51b5952879d2b0d38ac5ba2bdb3ece5d9fb21421979dbe", func := "haycroft/haycroftlaw08.HeaderTurns", spec := "headerTurns", apart := false }
def HeaderTurnsSaid : Prop := headerTurnsRow.holds Try.pinned (OpenSpec.ofChange headerTurnsSpec)

/-- ITS FALSE NEIGHBOUR: 'it returns false'. Refute it at one input. -/
def headerTurnsWrong : ChangeSpec := { name := "headerTurns", fn := fun _ => fun
  | [d] => { results := [.lit (.bool false)], args := [d] }
  | _ => none }
def HeaderTurnsWrongFalsely : Prop := headerTurnsRow.holds Try.pinned (OpenSpec.ofChange headerTurnsWrong)

/-- 'haycroftlaw08.HeaderLengths': WHATEVER THE INPUT: true; the input reads as it did. -/
def headerLengthsSpec : ChangeSpec := { name := "headerLengths", fn := fun _ => fun
  | [d1, d2, d3] => { results := [.lit (.bool true)], args := [d1, d2, d3] }
  | _ => none }
def headerLengthsRow : OpenClaim := { program := "ytjfifnfdpkaijaa", sum := "1fd80c8294eb3631fe51b5952879d2b0d38ac5ba2bdb3ece5d9fb21421979dbe", func := "haycroft/haycroftlaw08.HeaderLengths", spec := "headerLengths", apart := false }
def HeaderLengthsSaid : Prop := headerLengthsRow.holds Try.pinned (OpenSpec.ofChange headerLengthsSpec)

/-- ITS FALSE NEIGHBOUR: 'it returns false'. Refute it at one input. -/
def headerLengthsWrong : ChangeSpec := { name := "headerLengths", fn := fun _ => fun
  | [d1, d2, d3] => { results := [.lit (.bool false)], args := [d1, d2, d3] }
  | _ => none }
def HeaderLengthsWrongFalsely : Prop := headerLengthsRow.holds Try.pinned (OpenSpec.ofChange headerLengthsWrong)

/- THE SECOND FORM. 'bulk': how many values and letters a reading holds, each counted each time it is reached (what is shared counts as often as it is met; a slice's spare places count too). A statement '..UptoSaid' is the law's where the arguments, and the package variables that the reading takes, are together of bulk at most 1048576: NARROWER than '..Said'. Prove '..Said' where nothing that the law and all that it calls make is longer than what came in: it says more and counts as full. Else prove '..UptoSaid'. A law counts once. -/
mutual
def uptoBulk {H : Type} : DataW H → Nat
  | .lit (.string bytes) => bytes.length + 1
  | .lit _ => 1
  | .nil => 1
  | .ptr d => uptoBulk d + 1
  | .slice elems spare => uptoBulkAll elems + uptoBulkAll spare + 1
  | .agg parts => uptoBulkAll parts + 1
  | .iface _ d => uptoBulk d + 1
  | .map entries => uptoBulkEntries entries + 1
  | .held _ => 1
def uptoBulkAll {H : Type} : List (DataW H) → Nat
  | [] => 0
  | d :: r => uptoBulk d + uptoBulkAll r
def uptoBulkEntries {H : Type} : List (Lit × DataW H) → Nat
  | [] => 0
  | x :: r => uptoBulkEntry x + uptoBulkEntries r
def uptoBulkEntry {H : Type} : Lit × DataW H → Nat
  | (.string bytes, d) => bytes.length + uptoBulk d + 1
  | (_, d) => uptoBulk d + 1
 end
def uptoSmall : (H : Type) → List (DataW H) → Bool := fun _ ds => decide (uptoBulkAll ds ≤ 1048576)
def OpenSpec.upto (s : _root_.Go.ChangeSpec) : _root_.Go.OpenSpec := { _root_.Go.OpenSpec.ofChange s with cond := some uptoSmall }

/-- 'haycroftlaw08.HeaderPacks', WHERE WHAT IT READS IS OF BULK AT MOST 1048576: true; the input reads as it did. -/
def headerPacksUptoRow : OpenClaim := { program := "ytjfifnfdpkaijaa", sum := "1fd80c8294eb3631fe51b5952879d2b0d38ac5ba2bdb3ece5d9fb21421979dbe", func := "haycroft/haycroftlaw08.HeaderPacks", spec := "headerPacks", apart := false, narrowed := true }
def HeaderPacksUptoSaid : Prop := headerPacksUptoRow.holds Try.pinned (OpenSpec.upto headerPacksSpec)

/-- 'haycroftlaw08.HeaderLocks', WHERE WHAT IT READS IS OF BULK AT MOST 1048576: true; the input reads as it did. -/
def headerLocksUptoRow : OpenClaim := { program := "ytjfifnfdpkaijaa", sum := "1fd80c8294eb3631fe51b5952879d2b0d38ac5ba2bdb3ece5d9fb21421979dbe", func := "haycroft/haycroftlaw08.HeaderLocks", spec := "headerLocks", apart := false, narrowed := true }
def HeaderLocksUptoSaid : Prop := headerLocksUptoRow.holds Try.pinned (OpenSpec.upto headerLocksSpec)

/-- 'haycroftlaw08.HeaderTurns', WHERE WHAT IT READS IS OF BULK AT MOST 1048576: true; the input reads as it did. -/
def headerTurnsUptoRow : OpenClaim := { program := "ytjfifnfdpkaijaa", sum := "1fd80c8294eb3631fe51b5952879d2b0d38ac5ba2bdb3ece5d9fb21421979dbe", func := "haycroft/haycroftlaw08.HeaderTurns", spec := "headerTurns", apart := false, narrowed := true }
def HeaderTurnsUptoSaid : Prop := headerTurnsUptoRow.holds Try.pinned (OpenSpec.upto headerTurnsSpec)

/-- 'haycroftlaw08.HeaderLengths', WHERE WHAT IT READS IS OF BULK AT MOST 1048576: true; the input reads as it did. -/
def headerLengthsUptoRow : OpenClaim := { program := "ytjfifnfdpkaijaa", sum := "1fd80c8294eb3631fe51b5952879d2b0d38ac5ba2bdb3ece5d9fb21421979dbe", func := "haycroft/haycroftlaw08.HeaderLengths", spec := "headerLengths", apart := false, narrowed := true }
def HeaderLengthsUptoSaid : Prop := headerLengthsUptoRow.holds Try.pinned (OpenSpec.upto headerLengthsSpec)

end Rows
end Go.Proofs.Ytjfifnfdpkaijaa
