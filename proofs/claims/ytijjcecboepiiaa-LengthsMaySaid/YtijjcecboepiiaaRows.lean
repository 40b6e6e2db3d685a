/-
  No cell of these rows narrows 'for every input' (looked for: loops, veiled, ifaces, maps, wideKeys, modest, calm, conditions, laid).
  DERIVED. THE GIVEN ROWS OF THIS SEAT. 7 by the template 'for every input the law returns true; each argument reads behind the call as it read before'; 0 by the template 'total and deterministic' (their statements: YtijjcecboepiiaaTotals.lean).
  GIVEN WITH THE SEED: the statements are not yours to turn. If you find one false, say at which input.
  Laid BY PROGRAM, IN A SANDBOX (cutbox-rows.mjs): the forced cells as the released guide's own fill.sh prints them over the translation 740b316851668b9b… (all of the seat's roots in one cut). By AI agents, Wed Nov 11 2026. No macro, syntax, notation, axiom, sorry.
-/
import Derived.Test.YtijjcecboepiiaaChecked
import GoSem.Claim
import GoSem.ClaimJoined
import GoSem.ClaimMapViews
import Derived.JoinedTies
import Derived.KernelRfl
namespace Go.Proofs.Ytijjcecboepiiaa
/- THE CELL 'sum', in the pinned program and in every row, IS THE sha256 OF THE DUMP (.gsa) THAT YtijjcecboepiiaaProg.lean LOADS. Nothing in Lean hashes anything: it is a label: what it is worth is what the hold of that sum in a sandbox is worth. -/
noncomputable def Try.pinned : Pinned := { name := "ytijjcecboepiiaa", sum := "740b316851668b9b32e6008c2992b5959248b238d6f91d2c431a7e8724139e7d", checked := Try.checked }
namespace Rows
def none {H : Type} : Left H := { results := [], args := [] }

/-- 'packsaddlelaw04.LengthsKind': WHATEVER THE INPUT: true; the input reads as it did. -/
def lengthsKindSpec : ChangeSpec := { name := "lengthsKind", fn := fun _ => fun
  | [d] => { results := [.lit (.bool true)], args := [d] }
  | _ => none }
def lengthsKindRow : OpenClaim := { program := "ytijjcecboepiiaa", sum := "740b316851668b9b32e6008c2992b5959248b238d6f91d2c431a7e8724139e7d", func := "packsaddle/packsaddlelaw04.LengthsKind", spec := "lengthsKind", unfollowed := true, recurses := true, apart := false }
def LengthsKindSaid : Prop := lengthsKindRow.holds Try.pinned (OpenSpec.ofChange lengthsKindSpec)

/-- ITS FALSE NEIGHBOUR: 'it returns false'. Refute it at one input. -/
def lengthsKindWrong : ChangeSpec := { name := "lengthsKind", fn := fun _ => fun
  | [d] => { results := [.lit (.bool false)], args := [d] }
  | _ => none }
def LengthsKindWrongFalsely : Prop := lengthsKindRow.holds Try.pinned (OpenSpec.ofChange lengthsKindWrong)

/-- 'packsaddlelaw04.LengthsMay': WHATEVER THE INPUT: true; the input reads as it did. -/
def lengthsMaySpec : ChangeSpec := { name := "lengthsMay", fn := fun _ => fun
  | [d1, d2] => { results := [.lit (.bool true)], args := [d1, d2] }
  | _ => none }
def lengthsMayRow : OpenClaim := { program := "ytijjcecboepiiaa", sum := "740b316851668b9b32e6008c2992b5959248b238d6f91d2c431a7e8724139e7d", func := "packsaddle/packsaddlelaw04.LengthsMay", spec := "lengthsMay", unfollowed := true, recurses := true, apart := false }
def LengthsMaySaid : Prop := lengthsMayRow.holds Try.pinned (OpenSpec.ofChange lengthsMaySpec)

/-- ITS FALSE NEIGHBOUR: 'it returns false'. Refute it at one input. -/
def lengthsMayWrong : ChangeSpec := { name := "lengthsMay", fn := fun _ => fun
  | [d1, d2] => { results := [.lit (.bool false)], args := [d1, d2] }
  | _ => none }
def LengthsMayWrongFalsely : Prop := lengthsMayRow.holds Try.pinned (OpenSpec.ofChange lengthsMayWrong)

/-- 'packsaddlelaw04.LengthsLeast': WHATEVER THE INPUT: true; the input reads as it did. -/
def lengthsLeastSpec : ChangeSpec := { name := "lengthsLeast", fn := fun _ => fun
  | [d1, d2] => { results := [.lit (.bool true)], args := [d1, d2] }
  | _ => none }
def lengthsLeastRow : OpenClaim := { program := "ytijjcecboepiiaa", sum := "740b316851668b9b32e6008c2992b5959248b238d6f91d2c431a7e8724139e7d", func := "packsaddle/packsaddlelaw04.LengthsLeast", spec := "lengthsLeast", unfollowed := true, recurses := true, apart := false }
def LengthsLeastSaid : Prop := lengthsLeastRow.holds Try.pinned (OpenSpec.ofChange lengthsLeastSpec)

/-- ITS FALSE NEIGHBOUR: 'it returns false'. Refute it at one input. -/
def lengthsLeastWrong : ChangeSpec := { name := "lengthsLeast", fn := fun _ => fun
  | [d1, d2] => { results := [.lit (.bool false)], args := [d1, d2] }
  | _ => none }
def LengthsLeastWrongFalsely : Prop := lengthsLeastRow.holds Try.pinned (OpenSpec.ofChange lengthsLeastWrong)

/-- 'packsaddlelaw04.LengthsLooser': WHATEVER THE INPUT: true; the input reads as it did. -/
def lengthsLooserSpec : ChangeSpec := { name := "lengthsLooser", fn := fun _ => fun
  | [d1, d2] => { results := [.lit (.bool true)], args := [d1, d2] }
  | _ => none }
def lengthsLooserRow : OpenClaim := { program := "ytijjcecboepiiaa", sum := "740b316851668b9b32e6008c2992b5959248b238d6f91d2c431a7e8724139e7d", func := "packsaddle/packsaddlelaw04.LengthsLooser", spec := "lengthsLooser", unfollowed := true, recurses := true, apart := false }
def LengthsLooserSaid : Prop := lengthsLooserRow.holds Try.pinned (OpenSpec.ofChange lengthsLooserSpec)

/-- ITS FALSE NEIGHBOUR: 'it returns false'. Refute it at one input. -/
def lengthsLooserWrong : ChangeSpec := { name := "lengthsLooser", fn := fun _ => fun
  | [d1, d2] => { results := [.lit (.bool false)], args := [d1, d2] }
  | _ => none }
def LengthsLooserWrongFalsely : Prop := lengthsLooserRow.holds Try.pinned (OpenSpec.ofChange lengthsLooserWrong)

/-- 'packsaddlelaw05.PrefixWords': WHATEVER THE INPUT: true; the input reads as it did. -/
def prefixWordsSpec : ChangeSpec := { name := "prefixWords", fn := fun _ => fun
  | [d] => { results := [.lit (.bool true)], args := [d] }
  | _ => none }
def prefixWordsRow : OpenClaim := { program := "ytijjcecboepiiaa", sum := "740b316851668b9b32e6008c2992b5959248b238d6f91d2c431a7e8724139e7d", func := "packsaddle/packsaddlelaw05.PrefixWords", spec := "prefixWords", recurses := true, apart := false }
def PrefixWordsSaid : Prop := prefixWordsRow.holds Try.pinned (OpenSpec.ofChange prefixWordsSpec)

/-- ITS FALSE NEIGHBOUR: 'it returns false'. Refute it at one input. -/
def prefixWordsWrong : ChangeSpec := { name := "prefixWords", fn := fun _ => fun
  | [d] => { results := [.lit (.bool false)], args := [d] }
  | _ => none }
def PrefixWordsWrongFalsely : Prop := prefixWordsRow.holds Try.pinned (OpenSpec.ofChange prefixWordsWrong)

/-- 'packsaddlelaw05.PrefixReads': WHATEVER THE INPUT: true; the input reads as it did. -/
def prefixReadsSpec : ChangeSpec := { name := "prefixReads", fn := fun _ => fun
  | [d1, d2] => { results := [.lit (.bool true)], args := [d1, d2] }
  | _ => none }
def prefixReadsRow : OpenClaim := { program := "ytijjcecboepiiaa", sum := "740b316851668b9b32e6008c2992b5959248b238d6f91d2c431a7e8724139e7d", func := "packsaddle/packsaddlelaw05.PrefixReads", spec := "prefixReads", recurses := true, apart := false }
def PrefixReadsSaid : Prop := prefixReadsRow.holds Try.pinned (OpenSpec.ofChange prefixReadsSpec)

/-- ITS FALSE NEIGHBOUR: 'it returns false'. Refute it at one input. -/
def prefixReadsWrong : ChangeSpec := { name := "prefixReads", fn := fun _ => fun
  | [d1, d2] => { results := [.lit (.bool false)], args := [d1, d2] }
  | _ => none }
def PrefixReadsWrongFalsely : Prop := prefixReadsRow.holds Try.pinned (OpenSpec.ofChange prefixReadsWrong)

/-- 'packsaddlelaw05.PrefixBack': WHATEVER THE INPUT: true; the input reads as it did. -/
def prefixBackSpec : ChangeSpec := { name := "prefixBack", fn := fun _ => fun
  | [d1, d2] => { results := [.lit (.bool true)], args := [d1, d2] }
  | _ => none }
def prefixBackRow : OpenClaim := { program := "ytijjcecboepiiaa", sum := "740b316851668b9b32e6008c2992b5959248b238d6f91d2c431a7e8724139e7d", func := "packsaddle/packsaddlelaw05.PrefixBack", spec := "prefixBack", recurses := true, apart := false }
def PrefixBackSaid : Prop := prefixBackRow.holds Try.pinned (OpenSpec.ofChange prefixBackSpec)

/-- ITS FALSE NEIGHBOUR: 'it returns false'. Refute it at one input. -/
def prefixBackWrong : ChangeSpec := { name := "prefixBack", fn := fun _ => fun
  | [d1, d2] => { results := [.lit (.bool false)], args := [d1, d2] }
  | _ => none }
def PrefixBackWrongFalsely : Prop := prefixBackRow.holds Try.pinned (OpenSpec.ofChange prefixBackWrong)

/- THE SECOND FORM. 'bulk': how many values and letters a reading holds, each counted each time it is reached (what is shared counts as often as it is met; a slice's spare places count too). A statement '..UptoSaid' is the law's where the arguments, and the package variables that the reading takes, are together of bulk at most 1048576: NARROWER than '..Said'. Prove '..Said' where nothing that the law and all that it calls make is longer than what came in: it says more and counts as full. Else prove '..UptoSaid'. A law counts once. -/
mutual
def uptoBulk {H : Type} : DataW H → Nat
  | .lit (.string bytes) => bytes.length + 1
  | .lit _ => 1
  | .nil => 1
  | .ptr d => uptoBulk d + 1
  | .slice elems spare => uptoBulkAll elems + uptoBulkAll spare + 1
  | .agg parts => uptoBulkAll parts + 1
  | .iface _ d => uptoBulk d + 1
  | .map entries => uptoBulkEntries entries + 1
  | .held _ => 1
def uptoBulkAll {H : Type} : List (DataW H) → Nat
  | [] => 0
  | d :: r => uptoBulk d + uptoBulkAll r
def uptoBulkEntries {H : Type} : List (Lit × DataW H) → Nat
  | [] => 0
  | x :: r => uptoBulkEntry x + uptoBulkEntries r
def uptoBulkEntry {H : Type} : Lit × DataW H → Nat
  | (.string bytes, d) => bytes.length + uptoBulk d + 1
  | (_, d) => uptoBulk d + 1
 end
def uptoSmall : (H : Type) → List (DataW H) → Bool := fun _ ds => decide (uptoBulkAll ds ≤ 1048576)
def OpenSpec.upto (s : _root_.Go.ChangeSpec) : _root_.Go.OpenSpec := { _root_.Go.OpenSpec.ofChange s with cond := some uptoSmall }

/-- 'packsaddlelaw04.LengthsKind', WHERE WHAT IT READS IS OF BULK AT MOST 1048576: true; the input reads as it did. -/
def lengthsKindUptoRow : OpenClaim := { program := "ytijjcecboepiiaa", sum := "740b316851668b9b32e6008c2992b5959248b238d6f91d2c431a7e8724139e7d", func := "packsaddle/packsaddlelaw04.LengthsKind", spec := "lengthsKind", unfollowed := true, recurses := true, apart := false, narrowed := true }
def LengthsKindUptoSaid : Prop := lengthsKindUptoRow.holds Try.pinned (OpenSpec.upto lengthsKindSpec)

/-- 'packsaddlelaw04.LengthsMay', WHERE WHAT IT READS IS OF BULK AT MOST 1048576: true; the input reads as it did. -/
def lengthsMayUptoRow : OpenClaim := { program := "ytijjcecboepiiaa", sum := "740b316851668b9b32e6008c2992b5959248b238d6f91d2c431a7e8724139e7d", func := "packsaddle/packsaddlelaw04.LengthsMay", spec := "lengthsMay", unfollowed := true, recurses := true, apart := false, narrowed := true }
def LengthsMayUptoSaid : Prop := lengthsMayUptoRow.holds Try.pinned (OpenSpec.upto lengthsMaySpec)

/-- 'packsaddlelaw04.LengthsLeast', WHERE WHAT IT READS IS OF BULK AT MOST 1048576: true; the input reads as it did. -/
def lengthsLeastUptoRow : OpenClaim := { program := "ytijjcecboepiiaa", sum := "740b316851668b9b32e6008c2992b5959248b238d6f91d2c431a7e8724139e7d", func := "packsaddle/packsaddlelaw04.LengthsLeast", spec := "lengthsLeast", unfollowed := true, recurses := true, apart := false, narrowed := true }
def LengthsLeastUptoSaid : Prop := lengthsLeastUptoRow.holds Try.pinned (OpenSpec.upto lengthsLeastSpec)

/-- 'packsaddlelaw04.LengthsLooser', WHERE WHAT IT READS IS OF BULK AT MOST 1048576: true; the input reads as it did. -/
def lengthsLooserUptoRow : OpenClaim := { program := "ytijjcecboepiiaa", sum := "740b316851668b9b32e6008c2992b5959248b238d6f91d2c431a7e8724139e7d", func := "packsaddle/packsaddlelaw04.LengthsLooser", spec := "lengthsLooser", unfollowed := true, recurses := true, apart := false, narrowed := true }
def LengthsLooserUptoSaid : Prop := lengthsLooserUptoRow.holds Try.pinned (OpenSpec.upto lengthsLooserSpec)

/-- 'packsaddlelaw05.PrefixWords', WHERE WHAT IT READS IS OF BULK AT MOST 1048576: true; the input reads as it did. -/
def prefixWordsUptoRow : OpenClaim := { program := "ytijjcecboepiiaa", sum := "740b316851668b9b32e6008c2992b5959248b238d6f91d2c431a7e8724139e7d", func := "packsaddle/packsaddlelaw05.PrefixWords", spec := "prefixWords", recurses := true, apart := false, narrowed := true }
def PrefixWordsUptoSaid : Prop := prefixWordsUptoRow.holds Try.pinned (OpenSpec.upto prefixWordsSpec)

/-- 'packsaddlelaw05.PrefixReads', WHERE WHAT IT READS IS OF BULK AT MOST 1048576: true; the input reads as it did. -/
def prefixReadsUptoRow : OpenClaim := { program := "ytijjcecboepiiaa", sum := "740b316851668b9b32e6008c2992b5959248b238d6f91d2c431a7e8724139e7d", func := "packsaddle/packsaddlelaw05.PrefixReads", spec := "prefixReads", recurses := true, apart := false, narrowed := true }
def PrefixReadsUptoSaid : Prop := prefixReadsUptoRow.holds Try.pinned (OpenSpec.upto prefixReadsSpec)

/-- 'packsaddlelaw05.PrefixBack', WHERE WHAT IT READS IS OF BULK AT MOST 1048576: true; the input reads as it did. -/
def prefixBackUptoRow : OpenClaim := { program := "ytijjcecboepiiaa", sum := "740b316851668b9b32e6008c2992b5959248b238d6f91d2c431a7e8724139e7d", func := "packsaddle/packsaddlelaw05.PrefixBack", spec := "prefixBack", recurses := true, apart := false, narrowed := true }
def PrefixBackUptoSaid : Prop := prefixBackUptoRow.holds Try.pinned (OpenSpec.upto prefixBackSpec)

end Rows
end Go.Proofs.Ytijjcecboepiiaa
