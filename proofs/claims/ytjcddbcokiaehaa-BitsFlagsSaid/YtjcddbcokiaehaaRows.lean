/-
  No cell of these rows narrows 'for every input' (looked for: loops, veiled, ifaces, maps, wideKeys, modest, calm, conditions, laid).
  DERIVED. THE GIVEN ROWS OF THIS SEAT. 5 by the template 'for every input the law returns true; each argument reads behind the call as it read before'; 0 by the template 'total and deterministic' (their statements: YtjcddbcokiaehaaTotals.lean).
  GIVEN WITH THE SEED: the statements are not yours to turn. If you find one false, say at which input.
  Laid BY PROGRAM, IN A SANDBOX (cutbox-rows.mjs): the forced cells as the released guide's own fill.sh prints them over the translation e83e3f916178919f… (all of the seat's roots in one cut). By AI agents, Wed Nov 11 2026. No macro, syntax, notation, axiom, sorry.
-/
import Derived.Test.YtjcddbcokiaehaaChecked
import GoSem.Claim
import GoSem.ClaimJoined
import GoSem.ClaimMapViews
import Derived.JoinedTies
import Derived.KernelRfl
namespace Go.Proofs.Ytjcddbcokiaehaa
/- THE CELL 'sum', in the pinned program and in every row, IS THE sha256 OF THE DUMP (.gsa) THAT YtjcddbcokiaehaaProg.lean LOADS. Nothing in Lean hashes anything: it is a label: what it is worth is what the hold of that sum in a sandbox is worth. -/
noncomputable def Try.pinned : Pinned := { name := "ytjcddbcokiaehaa", sum := "e83e3f916178919f1cbd29d61633b5edc38f8d990fe9dea4fe5473b970980af3", checked := Try.checked }
namespace Rows
def none {H : Type} : Left H := { results := [], args := [] }

/-- 'quittancelaw05.BitsStrings': WHATEVER THE INPUT: true; the input reads as it did. -/
def bitsStringsSpec : ChangeSpec := { name := "bitsStrings", fn := fun _ => fun
  | [d1, d2] => { results := [.lit (.bool true)], args := [d1, d2] }
  | _ => none }
def bitsStringsRow : OpenClaim := { program := "ytjcddbcokiaehaa", sum := "e83e3f916178919f1cbd29d61633b5edc38f8d990fe9dea4fe5473b970980af3", func := "quittance/quittancelaw05.BitsStrings", spec := "bitsStrings", unfollowed := true, recurses := true, apart := false }
def BitsStringsSaid : Prop := bitsStringsRow.holds Try.pinned (OpenSpec.ofChange bitsStringsSpec)

/-- ITS FALSE NEIGHBOUR: 'it returns false'. Refute it at one input. -/
def bitsStringsWrong : ChangeSpec := { name := "bitsStrings", fn := fun _ => fun
  | [d1, d2] => { results := [.lit (.bool false)], args := [d1, d2] }
  | _ => none }
def BitsStringsWrongFalsely : Prop := bitsStringsRow.holds Try.pinned (OpenSpec.ofChange bitsStringsWrong)

/-- 'quittancelaw05.BitsParses': WHATEVER THE INPUT: true; the input reads as it did. -/
def bitsParsesSpec : ChangeSpec := { name := "bitsParses", fn := fun _ => fun
  | [d] => { results := [.lit (.bool true)], args := [d] }
  | _ => none }
def bitsParsesRow : OpenClaim := { program := "ytjcddbcokiaehaa", sum := "e83e3f916178919f1cbd29d61633b5edc38f8d990fe9dea4fe5473b970980af3", func := "quittance/quittancelaw05.BitsParses", spec := "bitsParses", unfollowed := true, recurses := true, apart := false }
def BitsParsesSaid : Prop := bitsParsesRow.holds Try.pinned (OpenSpec.ofChange bitsParsesSpec)

/-- ITS FALSE NEIGHBOUR: 'it returns false'. Refute it at one input. -/
def bitsParsesWrong : ChangeSpec := { name := "bitsParses", fn := fun _ => fun
  | [d] => { results := [.lit (.bool false)], args := [d] }
  | _ => none }
def BitsParsesWrongFalsely : Prop := bitsParsesRow.holds Try.pinned (OpenSpec.ofChange bitsParsesWrong)

/-- 'quittancelaw05.BitsFlags': WHATEVER THE INPUT: true; the input reads as it did. -/
def bitsFlagsSpec : ChangeSpec := { name := "bitsFlags", fn := fun _ => fun
  | [d1, d2] => { results := [.lit (.bool true)], args := [d1, d2] }
  | _ => none }
def bitsFlagsRow : OpenClaim := { program := "ytjcddbcokiaehaa", sum := "e83e3f916178919f1cbd29d61633b5edc38f8d990fe9dea4fe5473b970980af3", func := "quittance/quittancelaw05.BitsFlags", spec := "bitsFlags", unfollowed := true, recurses := true, apart := false }
def BitsFlagsSaid : Prop := bitsFlagsRow.holds Try.pinned (OpenSpec.ofChange bitsFlagsSpec)

/-- ITS FALSE NEIGHBOUR: 'it returns false'. Refute it at one input. -/
def bitsFlagsWrong : ChangeSpec := { name := "bitsFlags", fn := fun _ => fun
  | [d1, d2] => { results := [.lit (.bool false)], args := [d1, d2] }
  | _ => none }
def BitsFlagsWrongFalsely : Prop := bitsFlagsRow.holds Try.pinned (OpenSpec.ofChange bitsFlagsWrong)

/-- 'quittancelaw05.BitsReads': WHATEVER THE INPUT: true; the input reads as it did. -/
def bitsReadsSpec : ChangeSpec := { name := "bitsReads", fn := fun _ => fun
  | [d] => { results := [.lit (.bool true)], args := [d] }
  | _ => none }
def bitsReadsRow : OpenClaim := { program := "ytjcddbcokiaehaa", sum := "e83e3f916178919f1cbd29d61633b5edc38f8d990fe9dea4fe5473b970980af3", func := "quittance/quittancelaw05.BitsReads", spec := "bitsReads", unfollowed := true, recurses := true, apart := false }
def BitsReadsSaid : Prop := bitsReadsRow.holds Try.pinned (OpenSpec.ofChange bitsReadsSpec)

/-- ITS FALSE NEIGHBOUR: 'it returns false'. Refute it at one input. -/
def bitsReadsWrong : ChangeSpec := { name := "bitsReads", fn := fun _ => fun
  | [d] => { results := [.lit (.bool false)], args := [d] }
  | _ => none }
def BitsReadsWrongFalsely : Prop := bitsReadsRow.holds Try.pinned (OpenSpec.ofChange bitsReadsWrong)

/-- 'quittancelaw05.BitsWrites': WHATEVER THE INPUT: true; the input reads as it did. -/
def bitsWritesSpec : ChangeSpec := { name := "bitsWrites", fn := fun _ => fun
  | [d1, d2, d3] => { results := [.lit (.bool true)], args := [d1, d2, d3] }
  | _ => none }
def bitsWritesRow : OpenClaim := { program := "ytjcddbcokiaehaa", sum := "e83e3f916178919f1cbd29d61633b5edc38f8d990fe9dea4fe5473b970980af3", func := "quittance/quittancelaw05.BitsWrites", spec := "bitsWrites", unfollowed := true, recurses := true, apart := false }
def BitsWritesSaid : Prop := bitsWritesRow.holds Try.pinned (OpenSpec.ofChange bitsWritesSpec)

/-- ITS FALSE NEIGHBOUR: 'it returns false'. Refute it at one input. -/
def bitsWritesWrong : ChangeSpec := { name := "bitsWrites", fn := fun _ => fun
  | [d1, d2, d3] => { results := [.lit (.bool false)], args := [d1, d2, d3] }
  | _ => none }
def BitsWritesWrongFalsely : Prop := bitsWritesRow.holds Try.pinned (OpenSpec.ofChange bitsWritesWrong)

/- THE SECOND FORM. 'bulk': how many values and letters a reading holds, each counted each time it is reached (what is shared counts as often as it is met; a slice's spare places count too). A statement '..UptoSaid' is the law's where the arguments, and the package variables that the reading takes, are together of bulk at most 1048576: NARROWER than '..Said'. Prove '..Said' where nothing that the law and all that it calls make is longer than what came in: it says more and counts as full. Else prove '..UptoSaid'. A law counts once. -/
mutual
def uptoBulk {H : Type} : DataW H → Nat
  | .lit (.string bytes) => bytes.length + 1
  | .lit _ => 1
  | .nil => 1
  | .ptr d => uptoBulk d + 1
  | .slice elems spare => uptoBulkAll elems + uptoBulkAll spare + 1
  | .agg parts => uptoBulkAll parts + 1
  | .iface _ d => uptoBulk d + 1
  | .map entries => uptoBulkEntries entries + 1
  | .held _ => 1
def uptoBulkAll {H : Type} : List (DataW H) → Nat
  | [] => 0
  | d :: r => uptoBulk d + uptoBulkAll r
def uptoBulkEntries {H : Type} : List (Lit × DataW H) → Nat
  | [] => 0
  | x :: r => uptoBulkEntry x + uptoBulkEntries r
def uptoBulkEntry {H : Type} : Lit × DataW H → Nat
  | (.string bytes, d) => bytes.length + uptoBulk d + 1
  | (_, d) => uptoBulk d + 1
 end
def uptoSmall : (H : Type) → List (DataW H) → Bool := fun _ ds => decide (uptoBulkAll ds ≤ 1048576)
def OpenSpec.upto (s : _root_.Go.ChangeSpec) : _root_.Go.OpenSpec := { _root_.Go.OpenSpec.ofChange s with cond := some uptoSmall }

/-- 'quittancelaw05.BitsStrings', WHERE WHAT IT READS IS OF BULK AT MOST 1048576: true; the input reads as it did. -/
def bitsStringsUptoRow : OpenClaim := { program := "ytjcddbcokiaehaa", sum := "e83e3f916178919f1cbd29d61633b5edc38f8d990fe9dea4fe5473b970980af3", func := "quittance/quittancelaw05.BitsStrings", spec := "bitsStrings", unfollowed := true, recurses := true, apart := false, narrowed := true }
def BitsStringsUptoSaid : Prop := bitsStringsUptoRow.holds Try.pinned (OpenSpec.upto bitsStringsSpec)

/-- 'quittancelaw05.BitsParses', WHERE WHAT IT READS IS OF BULK AT MOST 1048576: true; the input reads as it did. -/
def bitsParsesUptoRow : OpenClaim := { program := "ytjcddbcokiaehaa", sum := "e83e3f916178919f1cbd29d61633b5edc38f8d990fe9dea4fe5473b970980af3", func := "quittance/quittancelaw05.BitsParses", spec := "bitsParses", unfollowed := true, recurses := true, apart := false, narrowed := true }
def BitsParsesUptoSaid : Prop := bitsParsesUptoRow.holds Try.pinned (OpenSpec.upto bitsParsesSpec)

/-- 'quittancelaw05.BitsFlags', WHERE WHAT IT READS IS OF BULK AT MOST 1048576: true; the input reads as it did. -/
def bitsFlagsUptoRow : OpenClaim := { program := "ytjcddbcokiaehaa", sum := "e83e3f916178919f1cbd29d61633b5edc38f8d990fe9dea4fe5473b970980af3", func := "quittance/quittancelaw05.BitsFlags", spec := "bitsFlags", unfollowed := true, recurses := true, apart := false, narrowed := true }
def BitsFlagsUptoSaid : Prop := bitsFlagsUptoRow.holds Try.pinned (OpenSpec.upto bitsFlagsSpec)

/-- 'quittancelaw05.BitsReads', WHERE WHAT IT READS IS OF BULK AT MOST 1048576: true; the input reads as it did. -/
def bitsReadsUptoRow : OpenClaim := { program := "ytjcddbcokiaehaa", sum := "e83e3f916178919f1cbd29d61633b5edc38f8d990fe9dea4fe5473b970980af3", func := "quittance/quittancelaw05.BitsReads", spec := "bitsReads", unfollowed := true, recurses := true, apart := false, narrowed := true }
def BitsReadsUptoSaid : Prop := bitsReadsUptoRow.holds Try.pinned (OpenSpec.upto bitsReadsSpec)

/-- 'quittancelaw05.BitsWrites', WHERE WHAT IT READS IS OF BULK AT MOST 1048576: true; the input reads as it did. -/
def bitsWritesUptoRow : OpenClaim := { program := "ytjcddbcokiaehaa", sum := "e83e3f916178919f1cbd29d61633b5edc38f8d990fe9dea4fe5473b970980af3", func := "quittance/quittancelaw05.BitsWrites", spec := "bitsWrites", unfollowed := true, recurses := true, apart := false, narrowed := true }
def BitsWritesUptoSaid : Prop := bitsWritesUptoRow.holds Try.pinned (OpenSpec.upto bitsWritesSpec)

end Rows
end Go.Proofs.Ytjcddbcokiaehaa
