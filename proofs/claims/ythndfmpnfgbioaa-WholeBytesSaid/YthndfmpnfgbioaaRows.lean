/-
  No cell of these rows narrows 'for every input' (looked for: loops, veiled, ifaces, maps, wideKeys, modest, calm, conditions, laid).
  DERIVED. THE GIVEN ROWS OF THIS SEAT. 10 by the template 'for every input the law returns true; each argument reads behind the call as it read before'; 0 by the template 'total and deterministic' (their statements: YthndfmpnfgbioaaTotals.lean).
  GIVEN WITH THE SEED: the statements are not yours to turn. If you find one false, say at which input.
  Laid BY PROGRAM, IN A SANDBOX (cutbox-rows.mjs): the forced cells as the released guide's own fill.sh prints them over the translation 5a1c1d62b7b0d76a… (all of the seat's roots in one cut). By AI agents, Wed Nov 11 2026. No macro, syntax, notation, axiom, sorry.
-/
import Derived.Test.YthndfmpnfgbioaaChecked
import GoSem.Claim
import GoSem.ClaimJoined
import GoSem.ClaimMapViews
import Derived.JoinedTies
import Derived.KernelRfl
namespace Go.Proofs.Ythndfmpnfgbioaa
/- THE CELL 'sum', in the pinned program and in every row, IS THE sha256 OF THE DUMP (.gsa) THAT YthndfmpnfgbioaaProg.lean LOADS. Nothing in Lean hashes anything: it is a label: what it is worth is what the hold of that sum in a sandbox is worth. -/
noncomputable def Try.pinned : Pinned := { name := "ythndfmpnfgbioaa", sum := "5a1c1d62b7b0d76ab4fee3584a5dcf707623acb6c87a40b3901de340ce009bee", checked := Try.checked }
namespace Rows
def none {H : Type} : Left H := { results := [], args := [] }

/-- 'heijunkalaw01.NatDivides': WHATEVER THE INPUT: true; the input reads as it did. -/
def natDividesSpec : ChangeSpec := { name := "natDivides", fn := fun _ => fun
  | [d1, d2] => { results := [.lit (.bool true)], args := [d1, d2] }
  | _ => none }
def natDividesRow : OpenClaim := { program := "ythndfmpnfgbioaa", sum := "5a1c1d62b7b0d76ab4fee3584a5dcf707623acb6c87a40b3901de340ce009bee", func := "heijunka/heijunkalaw01.NatDivides", spec := "natDivides", apart := false }
def NatDividesSaid : Prop := natDividesRow.holds Try.pinned (OpenSpec.ofChange natDividesSpec)

/-- ITS FALSE NEIGHBOUR: 'it returns false'. Refute it at one input. -/
def natDividesWrong : ChangeSpec := { name := "natDivides", fn := fun _ => fun
  | [d1, d2] => { results := [.lit (.bool false)], args := [d1, d2] }
  | _ => none }
def NatDividesWrongFalsely : Prop := natDividesRow.holds Try.pinned (OpenSpec.ofChange natDividesWrong)

/-- 'heijunkalaw01.NatWrites': WHATEVER THE INPUT: true; the input reads as it did. -/
def natWritesSpec : ChangeSpec := { name := "natWrites", fn := fun _ => fun
  | [d1, d2, d3] => { results := [.lit (.bool true)], args := [d1, d2, d3] }
  | _ => none }
def natWritesRow : OpenClaim := { program := "ythndfmpnfgbioaa", sum := "5a1c1d62b7b0d76ab4fee3584a5dcf707623acb6c87a40b3901de340ce009bee", func := "heijunka/heijunkalaw01.NatWrites", spec := "natWrites", apart := false }
def NatWritesSaid : Prop := natWritesRow.holds Try.pinned (OpenSpec.ofChange natWritesSpec)

/-- ITS FALSE NEIGHBOUR: 'it returns false'. Refute it at one input. -/
def natWritesWrong : ChangeSpec := { name := "natWrites", fn := fun _ => fun
  | [d1, d2, d3] => { results := [.lit (.bool false)], args := [d1, d2, d3] }
  | _ => none }
def NatWritesWrongFalsely : Prop := natWritesRow.holds Try.pinned (OpenSpec.ofChange natWritesWrong)

/-- 'heijunkalaw01.NatGcd': WHATEVER THE INPUT: true; the input reads as it did. -/
def natGcdSpec : ChangeSpec := { name := "natGcd", fn := fun _ => fun
  | [d1, d2] => { results := [.lit (.bool true)], args := [d1, d2] }
  | _ => none }
def natGcdRow : OpenClaim := { program := "ythndfmpnfgbioaa", sum := "5a1c1d62b7b0d76ab4fee3584a5dcf707623acb6c87a40b3901de340ce009bee", func := "heijunka/heijunkalaw01.NatGcd", spec := "natGcd", apart := false }
def NatGcdSaid : Prop := natGcdRow.holds Try.pinned (OpenSpec.ofChange natGcdSpec)

/-- ITS FALSE NEIGHBOUR: 'it returns false'. Refute it at one input. -/
def natGcdWrong : ChangeSpec := { name := "natGcd", fn := fun _ => fun
  | [d1, d2] => { results := [.lit (.bool false)], args := [d1, d2] }
  | _ => none }
def NatGcdWrongFalsely : Prop := natGcdRow.holds Try.pinned (OpenSpec.ofChange natGcdWrong)

/-- 'heijunkalaw02.WholeReckons': WHATEVER THE INPUT: true; the input reads as it did. -/
def wholeReckonsSpec : ChangeSpec := { name := "wholeReckons", fn := fun _ => fun
  | [d1, d2] => { results := [.lit (.bool true)], args := [d1, d2] }
  | _ => none }
def wholeReckonsRow : OpenClaim := { program := "ythndfmpnfgbioaa", sum := "5a1c1d62b7b0d76ab4fee3584a5dcf707623acb6c87a40b3901de340ce009bee", func := "heijunka/heijunkalaw02.WholeReckons", spec := "wholeReckons", unfollowed := true, recurses := true, apart := false }
def WholeReckonsSaid : Prop := wholeReckonsRow.holds Try.pinned (OpenSpec.ofChange wholeReckonsSpec)

/-- ITS FALSE NEIGHBOUR: 'it returns false'. Refute it at one input. -/
def wholeReckonsWrong : ChangeSpec := { name := "wholeReckons", fn := fun _ => fun
  | [d1, d2] => { results := [.lit (.bool false)], args := [d1, d2] }
  | _ => none }
def WholeReckonsWrongFalsely : Prop := wholeReckonsRow.holds Try.pinned (OpenSpec.ofChange wholeReckonsWrong)

/-- 'heijunkalaw02.WholeSmall': WHATEVER THE INPUT: true; the input reads as it did. -/
def wholeSmallSpec : ChangeSpec := { name := "wholeSmall", fn := fun _ => fun
  | [d1, d2, d3] => { results := [.lit (.bool true)], args := [d1, d2, d3] }
  | _ => none }
def wholeSmallRow : OpenClaim := { program := "ythndfmpnfgbioaa", sum := "5a1c1d62b7b0d76ab4fee3584a5dcf707623acb6c87a40b3901de340ce009bee", func := "heijunka/heijunkalaw02.WholeSmall", spec := "wholeSmall", unfollowed := true, recurses := true, apart := false }
def WholeSmallSaid : Prop := wholeSmallRow.holds Try.pinned (OpenSpec.ofChange wholeSmallSpec)

/-- ITS FALSE NEIGHBOUR: 'it returns false'. Refute it at one input. -/
def wholeSmallWrong : ChangeSpec := { name := "wholeSmall", fn := fun _ => fun
  | [d1, d2, d3] => { results := [.lit (.bool false)], args := [d1, d2, d3] }
  | _ => none }
def WholeSmallWrongFalsely : Prop := wholeSmallRow.holds Try.pinned (OpenSpec.ofChange wholeSmallWrong)

/-- 'heijunkalaw02.WholeWrites': WHATEVER THE INPUT: true; the input reads as it did. -/
def wholeWritesSpec : ChangeSpec := { name := "wholeWrites", fn := fun _ => fun
  | [d1, d2, d3] => { results := [.lit (.bool true)], args := [d1, d2, d3] }
  | _ => none }
def wholeWritesRow : OpenClaim := { program := "ythndfmpnfgbioaa", sum := "5a1c1d62b7b0d76ab4fee3584a5dcf707623acb6c87a40b3901de340ce009bee", func := "heijunka/heijunkalaw02.WholeWrites", spec := "wholeWrites", unfollowed := true, recurses := true, apart := false }
def WholeWritesSaid : Prop := wholeWritesRow.holds Try.pinned (OpenSpec.ofChange wholeWritesSpec)

/-- ITS FALSE NEIGHBOUR: 'it returns false'. Refute it at one input. -/
def wholeWritesWrong : ChangeSpec := { name := "wholeWrites", fn := fun _ => fun
  | [d1, d2, d3] => { results := [.lit (.bool false)], args := [d1, d2, d3] }
  | _ => none }
def WholeWritesWrongFalsely : Prop := wholeWritesRow.holds Try.pinned (OpenSpec.ofChange wholeWritesWrong)

/-- 'heijunkalaw02.WholeSigns': WHATEVER THE INPUT: true; the input reads as it did. -/
def wholeSignsSpec : ChangeSpec := { name := "wholeSigns", fn := fun _ => fun
  | [d1, d2] => { results := [.lit (.bool true)], args := [d1, d2] }
  | _ => none }
def wholeSignsRow : OpenClaim := { program := "ythndfmpnfgbioaa", sum := "5a1c1d62b7b0d76ab4fee3584a5dcf707623acb6c87a40b3901de340ce009bee", func := "heijunka/heijunkalaw02.WholeSigns", spec := "wholeSigns", unfollowed := true, recurses := true, apart := false }
def WholeSignsSaid : Prop := wholeSignsRow.holds Try.pinned (OpenSpec.ofChange wholeSignsSpec)

/-- ITS FALSE NEIGHBOUR: 'it returns false'. Refute it at one input. -/
def wholeSignsWrong : ChangeSpec := { name := "wholeSigns", fn := fun _ => fun
  | [d1, d2] => { results := [.lit (.bool false)], args := [d1, d2] }
  | _ => none }
def WholeSignsWrongFalsely : Prop := wholeSignsRow.holds Try.pinned (OpenSpec.ofChange wholeSignsWrong)

/-- 'heijunkalaw02.WholeOrder': WHATEVER THE INPUT: true; the input reads as it did. -/
def wholeOrderSpec : ChangeSpec := { name := "wholeOrder", fn := fun _ => fun
  | [d1, d2, d3] => { results := [.lit (.bool true)], args := [d1, d2, d3] }
  | _ => none }
def wholeOrderRow : OpenClaim := { program := "ythndfmpnfgbioaa", sum := "5a1c1d62b7b0d76ab4fee3584a5dcf707623acb6c87a40b3901de340ce009bee", func := "heijunka/heijunkalaw02.WholeOrder", spec := "wholeOrder", unfollowed := true, recurses := true, apart := false }
def WholeOrderSaid : Prop := wholeOrderRow.holds Try.pinned (OpenSpec.ofChange wholeOrderSpec)

/-- ITS FALSE NEIGHBOUR: 'it returns false'. Refute it at one input. -/
def wholeOrderWrong : ChangeSpec := { name := "wholeOrder", fn := fun _ => fun
  | [d1, d2, d3] => { results := [.lit (.bool false)], args := [d1, d2, d3] }
  | _ => none }
def WholeOrderWrongFalsely : Prop := wholeOrderRow.holds Try.pinned (OpenSpec.ofChange wholeOrderWrong)

/-- 'heijunkalaw02.WholeNumbers': WHATEVER THE INPUT: true; the input reads as it did. -/
def wholeNumbersSpec : ChangeSpec := { name := "wholeNumbers", fn := fun _ => fun
  | [d1, d2] => { results := [.lit (.bool true)], args := [d1, d2] }
  | _ => none }
def wholeNumbersRow : OpenClaim := { program := "ythndfmpnfgbioaa", sum := "5a1c1d62b7b0d76ab4fee3584a5dcf707623acb6c87a40b3901de340ce009bee", func := "heijunka/heijunkalaw02.WholeNumbers", spec := "wholeNumbers", unfollowed := true, recurses := true, apart := false }
def WholeNumbersSaid : Prop := wholeNumbersRow.holds Try.pinned (OpenSpec.ofChange wholeNumbersSpec)

/-- ITS FALSE NEIGHBOUR: 'it returns false'. Refute it at one input. -/
def wholeNumbersWrong : ChangeSpec := { name := "wholeNumbers", fn := fun _ => fun
  | [d1, d2] => { results := [.lit (.bool false)], args := [d1, d2] }
  | _ => none }
def WholeNumbersWrongFalsely : Prop := wholeNumbersRow.holds Try.pinned (OpenSpec.ofChange wholeNumbersWrong)

/-- 'heijunkalaw02.WholeBytes': WHATEVER THE INPUT: true; the input reads as it did. -/
def wholeBytesSpec : ChangeSpec := { name := "wholeBytes", fn := fun _ => fun
  | [d1, d2] => { results := [.lit (.bool true)], args := [d1, d2] }
  | _ => none }
def wholeBytesRow : OpenClaim := { program := "ythndfmpnfgbioaa", sum := "5a1c1d62b7b0d76ab4fee3584a5dcf707623acb6c87a40b3901de340ce009bee", func := "heijunka/heijunkalaw02.WholeBytes", spec := "wholeBytes", unfollowed := true, recurses := true, apart := false }
def WholeBytesSaid : Prop := wholeBytesRow.holds Try.pinned (OpenSpec.ofChange wholeBytesSpec)

/-- ITS FALSE NEIGHBOUR: 'it returns false'. Refute it at one input. -/
def wholeBytesWrong : ChangeSpec := { name := "wholeBytes", fn := fun _ => fun
  | [d1, d2] => { results := [.lit (.bool false)], args := [d1, d2] }
  | _ => none }
def WholeBytesWrongFalsely : Prop := wholeBytesRow.holds Try.pinned (OpenSpec.ofChange wholeBytesWrong)

/- THE SECOND FORM. 'bulk': how many values and letters a reading holds, each counted each time it is reached (what is shared counts as often as it is met; a slice's spare places count too). A statement '..UptoSaid' is the law's where the arguments, and the package variables that the reading takes, are together of bulk at most 1048576: NARROWER than '..Said'. Prove '..Said' where nothing that the law and all that it calls make is longer than what came in: it says more and counts as full. Else prove '..UptoSaid'. A law counts once. -/
mutual
def uptoBulk {H : Type} : DataW H → Nat
  | .lit (.string bytes) => bytes.length + 1
  | .lit _ => 1
  | .nil => 1
  | .ptr d => uptoBulk d + 1
  | .slice elems spare => uptoBulkAll elems + uptoBulkAll spare + 1
  | .agg parts => uptoBulkAll parts + 1
  | .iface _ d => uptoBulk d + 1
  | .map entries => uptoBulkEntries entries + 1
  | .held _ => 1
def uptoBulkAll {H : Type} : List (DataW H) → Nat
  | [] => 0
  | d :: r => uptoBulk d + uptoBulkAll r
def uptoBulkEntries {H : Type} : List (Lit × DataW H) → Nat
  | [] => 0
  | x :: r => uptoBulkEntry x + uptoBulkEntries r
def uptoBulkEntry {H : Type} : Lit × DataW H → Nat
  | (.string bytes, d) => bytes.length + uptoBulk d + 1
  | (_, d) => uptoBulk d + 1
 end
def uptoSmall : (H : Type) → List (DataW H) → Bool := fun _ ds => decide (uptoBulkAll ds ≤ 1048576)
def OpenSpec.upto (s : _root_.Go.ChangeSpec) : _root_.Go.OpenSpec := { _root_.Go.OpenSpec.ofChange s with cond := some uptoSmall }

/-- 'heijunkalaw01.NatDivides', WHERE WHAT IT READS IS OF BULK AT MOST 1048576: true; the input reads as it did. -/
def natDividesUptoRow : OpenClaim := { program := "ythndfmpnfgbioaa", sum := "5a1c1d62b7b0d76ab4fee3584a5dcf707623acb6c87a40b3901de340ce009bee", func := "heijunka/heijunkalaw01.NatDivides", spec := "natDivides", apart := false, narrowed := true }
def NatDividesUptoSaid : Prop := natDividesUptoRow.holds Try.pinned (OpenSpec.upto natDividesSpec)

/-- 'heijunkalaw01.NatWrites', WHERE WHAT IT READS IS OF BULK AT MOST 1048576: true; the input reads as it did. -/
def natWritesUptoRow : OpenClaim := { program := "ythndfmpnfgbioaa", sum := "5a1c1d62b7b0d76ab4fee3584a5dcf707623acb6c87a40b3901de340ce009bee", func := "heijunka/heijunkalaw01.NatWrites", spec := "natWrites", apart := false, narrowed := true }
def NatWritesUptoSaid : Prop := natWritesUptoRow.holds Try.pinned (OpenSpec.upto natWritesSpec)

/-- 'heijunkalaw01.NatGcd', WHERE WHAT IT READS IS OF BULK AT MOST 1048576: true; the input reads as it did. -/
def natGcdUptoRow : OpenClaim := { program := "ythndfmpnfgbioaa", sum := "5a1c1d62b7b0d76ab4fee3584a5dcf707623acb6c87a40b3901de340ce009bee", func := "heijunka/heijunkalaw01.NatGcd", spec := "natGcd", apart := false, narrowed := true }
def NatGcdUptoSaid : Prop := natGcdUptoRow.holds Try.pinned (OpenSpec.upto natGcdSpec)

/-- 'heijunkalaw02.WholeReckons', WHERE WHAT IT READS IS OF BULK AT MOST 1048576: true; the input reads as it did. -/
def wholeReckonsUptoRow : OpenClaim := { program := "ythndfmpnfgbioaa", sum := "5a1c1d62b7b0d76ab4fee3584a5dcf707623acb6c87a40b3901de340ce009bee", func := "heijunka/heijunkalaw02.WholeReckons", spec := "wholeReckons", unfollowed := true, recurses := true, apart := false, narrowed := true }
def WholeReckonsUptoSaid : Prop := wholeReckonsUptoRow.holds Try.pinned (OpenSpec.upto wholeReckonsSpec)

/-- 'heijunkalaw02.WholeSmall', WHERE WHAT IT READS IS OF BULK AT MOST 1048576: true; the input reads as it did. -/
def wholeSmallUptoRow : OpenClaim := { program := "ythndfmpnfgbioaa", sum := "5a1c1d62b7b0d76ab4fee3584a5dcf707623acb6c87a40b3901de340ce009bee", func := "heijunka/heijunkalaw02.WholeSmall", spec := "wholeSmall", unfollowed := true, recurses := true, apart := false, narrowed := true }
def WholeSmallUptoSaid : Prop := wholeSmallUptoRow.holds Try.pinned (OpenSpec.upto wholeSmallSpec)

/-- 'heijunkalaw02.WholeWrites', WHERE WHAT IT READS IS OF BULK AT MOST 1048576: true; the input reads as it did. -/
def wholeWritesUptoRow : OpenClaim := { program := "ythndfmpnfgbioaa", sum := "5a1c1d62b7b0d76ab4fee3584a5dcf707623acb6c87a40b3901de340ce009bee", func := "heijunka/heijunkalaw02.WholeWrites", spec := "wholeWrites", unfollowed := true, recurses := true, apart := false, narrowed := true }
def WholeWritesUptoSaid : Prop := wholeWritesUptoRow.holds Try.pinned (OpenSpec.upto wholeWritesSpec)

/-- 'heijunkalaw02.WholeSigns', WHERE WHAT IT READS IS OF BULK AT MOST 1048576: true; the input reads as it did. -/
def wholeSignsUptoRow : OpenClaim := { program := "ythndfmpnfgbioaa", sum := "5a1c1d62b7b0d76ab4fee3584a5dcf707623acb6c87a40b3901de340ce009bee", func := "heijunka/heijunkalaw02.WholeSigns", spec := "wholeSigns", unfollowed := true, recurses := true, apart := false, narrowed := true }
def WholeSignsUptoSaid : Prop := wholeSignsUptoRow.holds Try.pinned (OpenSpec.upto wholeSignsSpec)

/-- 'heijunkalaw02.WholeOrder', WHERE WHAT IT READS IS OF BULK AT MOST 1048576: true; the input reads as it did. -/
def wholeOrderUptoRow : OpenClaim := { program := "ythndfmpnfgbioaa", sum := "5a1c1d62b7b0d76ab4fee3584a5dcf707623acb6c87a40b3901de340ce009bee", func := "heijunka/heijunkalaw02.WholeOrder", spec := "wholeOrder", unfollowed := true, recurses := true, apart := false, narrowed := true }
def WholeOrderUptoSaid : Prop := wholeOrderUptoRow.holds Try.pinned (OpenSpec.upto wholeOrderSpec)

/-- 'heijunkalaw02.WholeNumbers', WHERE WHAT IT READS IS OF BULK AT MOST 1048576: true; the input reads as it did. -/
def wholeNumbersUptoRow : OpenClaim := { program := "ythndfmpnfgbioaa", sum := "5a1c1d62b7b0d76ab4fee3584a5dcf707623acb6c87a40b3901de340ce009bee", func := "heijunka/heijunkalaw02.WholeNumbers", spec := "wholeNumbers", unfollowed := true, recurses := true, apart := false, narrowed := true }
def WholeNumbersUptoSaid : Prop := wholeNumbersUptoRow.holds Try.pinned (OpenSpec.upto wholeNumbersSpec)

/-- 'heijunkalaw02.WholeBytes', WHERE WHAT IT READS IS OF BULK AT MOST 1048576: true; the input reads as it did. -/
def wholeBytesUptoRow : OpenClaim := { program := "ythndfmpnfgbioaa", sum := "5a1c1d62b7b0d76ab4fee3584a5dcf707623acb6c87a40b3901de340ce009bee", func := "heijunka/heijunkalaw02.WholeBytes", spec := "wholeBytes", unfollowed := true, recurses := true, apart := false, narrowed := true }
def WholeBytesUptoSaid : Prop := wholeBytesUptoRow.holds Try.pinned (OpenSpec.upto wholeBytesSpec)

end Rows
end Go.Proofs.Ythndfmpnfgbioaa
