/-
  No cell of these rows narrows 'for every input' (looked for: loops, veiled, ifaces, maps, wideKeys, modest, calm, conditions, laid).
  DERIVED. THE GIVEN ROWS OF THIS SEAT. 7 by the template 'for every input the law returns true; each argument reads behind the call as it read before'; 0 by the template 'total and deterministic' (their statements: YtahcgihdgpdiiaaTotals.lean).
  GIVEN WITH THE SEED: the statements are not yours to turn. If you find one false, say at which input.
  Laid BY PROGRAM, IN A SANDBOX (cutbox-rows.mjs): the forced cells as the released guide's own fill.sh prints them over the translation 96e041fe0c7dfdb6… (all of the seat's roots in one cut). By AI agents, Wed Nov 11 2026. No macro, syntax, notation, axiom, sorry.
-/
import Derived.Test.YtahcgihdgpdiiaaChecked
import GoSem.Claim
import GoSem.ClaimJoined
import GoSem.ClaimMapViews
import Derived.JoinedTies
import Derived.KernelRfl
namespace Go.Proofs.Ytahcgihdgpdiiaa
/- THE CELL 'sum', in the pinned program and in every row, IS THE sha256 OF THE DUMP (.gsa) THAT YtahcgihdgpdiiaaProg.lean LOADS. Nothing in Lean hashes anything: it is a label: what it is worth is what the hold of that sum in a sandbox is worth. -/
noncomputable def Try.pinned : Pinned := { name := "ytahcgihdgpdiiaa", sum := "96e041fe0c7dfdb6bb4b89d5e29e570d3647abdd181aba1dab5f91c3df4ebd10", checked := Try.checked }
namespace Rows
def none {H : Type} : Left H := { results := [], args := [] }

/-- 'heijunkalaw06.CellCodes': WHATEVER THE INPUT: true; the input reads as it did. -/
def cellCodesSpec : ChangeSpec := { name := "cellCodes", fn := fun _ => fun
  | [d1, d2] => { results := [.lit (.bool true)], args := [d1, d2] }
  | _ => none }
def cellCodesRow : OpenClaim := { program := "ytahcgihdgpdiiaa", sum := "96e041fe0c7dfdb6bb4b89d5e29e570d3647abdd181aba1dab5f91c3df4ebd10", func := "heijunka/heijunkalaw06.CellCodes", spec := "cellCodes", inPlace := ["internal/bytealg.Count", "internal/bytealg.IndexByte", "internal/bytealg.Index"], unfollowed := true, recurses := true, named := ["internal/bytealg.MaxLen"], apart := false }
def CellCodesSaid : Prop := cellCodesRow.holds Try.pinned (OpenSpec.ofChange cellCodesSpec)

/-- ITS FALSE NEIGHBOUR: 'it returns false'. Refute it at one input. -/
def cellCodesWrong : ChangeSpec := { name := "cellCodes", fn := fun _ => fun
  | [d1, d2] => { results := [.lit (.bool false)], args := [d1, d2] }
  | _ => none }
def CellCodesWrongFalsely : Prop := cellCodesRow.holds Try.pinned (OpenSpec.ofChange cellCodesWrong)

/-- 'heijunkalaw06.CellSplits': WHATEVER THE INPUT: true; the input reads as it did. -/
def cellSplitsSpec : ChangeSpec := { name := "cellSplits", fn := fun _ => fun
  | [d1, d2, d3] => { results := [.lit (.bool true)], args := [d1, d2, d3] }
  | _ => none }
def cellSplitsRow : OpenClaim := { program := "ytahcgihdgpdiiaa", sum := "96e041fe0c7dfdb6bb4b89d5e29e570d3647abdd181aba1dab5f91c3df4ebd10", func := "heijunka/heijunkalaw06.CellSplits", spec := "cellSplits", inPlace := ["internal/bytealg.Count", "internal/bytealg.IndexByte", "internal/bytealg.Index"], unfollowed := true, recurses := true, named := ["internal/bytealg.MaxLen"], apart := false }
def CellSplitsSaid : Prop := cellSplitsRow.holds Try.pinned (OpenSpec.ofChange cellSplitsSpec)

/-- ITS FALSE NEIGHBOUR: 'it returns false'. Refute it at one input. -/
def cellSplitsWrong : ChangeSpec := { name := "cellSplits", fn := fun _ => fun
  | [d1, d2, d3] => { results := [.lit (.bool false)], args := [d1, d2, d3] }
  | _ => none }
def CellSplitsWrongFalsely : Prop := cellSplitsRow.holds Try.pinned (OpenSpec.ofChange cellSplitsWrong)

/-- 'heijunkalaw06.CellApart': WHATEVER THE INPUT: true; the input reads as it did. -/
def cellApartSpec : ChangeSpec := { name := "cellApart", fn := fun _ => fun
  | [d1, d2, d3] => { results := [.lit (.bool true)], args := [d1, d2, d3] }
  | _ => none }
def cellApartRow : OpenClaim := { program := "ytahcgihdgpdiiaa", sum := "96e041fe0c7dfdb6bb4b89d5e29e570d3647abdd181aba1dab5f91c3df4ebd10", func := "heijunka/heijunkalaw06.CellApart", spec := "cellApart", inPlace := ["internal/bytealg.Count", "internal/bytealg.IndexByte", "internal/bytealg.Index"], unfollowed := true, recurses := true, named := ["internal/bytealg.MaxLen"], apart := false }
def CellApartSaid : Prop := cellApartRow.holds Try.pinned (OpenSpec.ofChange cellApartSpec)

/-- ITS FALSE NEIGHBOUR: 'it returns false'. Refute it at one input. -/
def cellApartWrong : ChangeSpec := { name := "cellApart", fn := fun _ => fun
  | [d1, d2, d3] => { results := [.lit (.bool false)], args := [d1, d2, d3] }
  | _ => none }
def CellApartWrongFalsely : Prop := cellApartRow.holds Try.pinned (OpenSpec.ofChange cellApartWrong)

/-- 'heijunkalaw06.CellTurned': WHATEVER THE INPUT: true; the input reads as it did. -/
def cellTurnedSpec : ChangeSpec := { name := "cellTurned", fn := fun _ => fun
  | [d1, d2, d3] => { results := [.lit (.bool true)], args := [d1, d2, d3] }
  | _ => none }
def cellTurnedRow : OpenClaim := { program := "ytahcgihdgpdiiaa", sum := "96e041fe0c7dfdb6bb4b89d5e29e570d3647abdd181aba1dab5f91c3df4ebd10", func := "heijunka/heijunkalaw06.CellTurned", spec := "cellTurned", inPlace := ["internal/bytealg.Count", "internal/bytealg.IndexByte", "internal/bytealg.Index"], unfollowed := true, recurses := true, named := ["internal/bytealg.MaxLen"], apart := false }
def CellTurnedSaid : Prop := cellTurnedRow.holds Try.pinned (OpenSpec.ofChange cellTurnedSpec)

/-- ITS FALSE NEIGHBOUR: 'it returns false'. Refute it at one input. -/
def cellTurnedWrong : ChangeSpec := { name := "cellTurned", fn := fun _ => fun
  | [d1, d2, d3] => { results := [.lit (.bool false)], args := [d1, d2, d3] }
  | _ => none }
def CellTurnedWrongFalsely : Prop := cellTurnedRow.holds Try.pinned (OpenSpec.ofChange cellTurnedWrong)

/-- 'heijunkalaw06.CellNeeds': WHATEVER THE INPUT: true; the input reads as it did. -/
def cellNeedsSpec : ChangeSpec := { name := "cellNeeds", fn := fun _ => fun
  | [d1, d2] => { results := [.lit (.bool true)], args := [d1, d2] }
  | _ => none }
def cellNeedsRow : OpenClaim := { program := "ytahcgihdgpdiiaa", sum := "96e041fe0c7dfdb6bb4b89d5e29e570d3647abdd181aba1dab5f91c3df4ebd10", func := "heijunka/heijunkalaw06.CellNeeds", spec := "cellNeeds", inPlace := ["internal/bytealg.Count", "internal/bytealg.IndexByte", "internal/bytealg.Index"], unfollowed := true, recurses := true, named := ["internal/bytealg.MaxLen"], apart := false }
def CellNeedsSaid : Prop := cellNeedsRow.holds Try.pinned (OpenSpec.ofChange cellNeedsSpec)

/-- ITS FALSE NEIGHBOUR: 'it returns false'. Refute it at one input. -/
def cellNeedsWrong : ChangeSpec := { name := "cellNeeds", fn := fun _ => fun
  | [d1, d2] => { results := [.lit (.bool false)], args := [d1, d2] }
  | _ => none }
def CellNeedsWrongFalsely : Prop := cellNeedsRow.holds Try.pinned (OpenSpec.ofChange cellNeedsWrong)

/-- 'heijunkalaw06.CellOrder': WHATEVER THE INPUT: true; the input reads as it did. -/
def cellOrderSpec : ChangeSpec := { name := "cellOrder", fn := fun _ => fun
  | [d1, d2, d3] => { results := [.lit (.bool true)], args := [d1, d2, d3] }
  | _ => none }
def cellOrderRow : OpenClaim := { program := "ytahcgihdgpdiiaa", sum := "96e041fe0c7dfdb6bb4b89d5e29e570d3647abdd181aba1dab5f91c3df4ebd10", func := "heijunka/heijunkalaw06.CellOrder", spec := "cellOrder", inPlace := ["internal/bytealg.Count", "internal/bytealg.IndexByte", "internal/bytealg.Index"], unfollowed := true, recurses := true, named := ["internal/bytealg.MaxLen"], apart := false }
def CellOrderSaid : Prop := cellOrderRow.holds Try.pinned (OpenSpec.ofChange cellOrderSpec)

/-- ITS FALSE NEIGHBOUR: 'it returns false'. Refute it at one input. -/
def cellOrderWrong : ChangeSpec := { name := "cellOrder", fn := fun _ => fun
  | [d1, d2, d3] => { results := [.lit (.bool false)], args := [d1, d2, d3] }
  | _ => none }
def CellOrderWrongFalsely : Prop := cellOrderRow.holds Try.pinned (OpenSpec.ofChange cellOrderWrong)

/-- 'heijunkalaw06.CellLast': WHATEVER THE INPUT: true; the input reads as it did. -/
def cellLastSpec : ChangeSpec := { name := "cellLast", fn := fun _ => fun
  | [d1, d2, d3] => { results := [.lit (.bool true)], args := [d1, d2, d3] }
  | _ => none }
def cellLastRow : OpenClaim := { program := "ytahcgihdgpdiiaa", sum := "96e041fe0c7dfdb6bb4b89d5e29e570d3647abdd181aba1dab5f91c3df4ebd10", func := "heijunka/heijunkalaw06.CellLast", spec := "cellLast", inPlace := ["internal/bytealg.Count", "internal/bytealg.IndexByte", "internal/bytealg.Index"], unfollowed := true, recurses := true, named := ["internal/bytealg.MaxLen"], apart := false }
def CellLastSaid : Prop := cellLastRow.holds Try.pinned (OpenSpec.ofChange cellLastSpec)

/-- ITS FALSE NEIGHBOUR: 'it returns false'. Refute it at one input. -/
def cellLastWrong : ChangeSpec := { name := "cellLast", fn := fun _ => fun
  | [d1, d2, d3] => { results := [.lit (.bool false)], args := [d1, d2, d3] }
  | _ => none }
def CellLastWrongFalsely : Prop := cellLastRow.holds Try.pinned (OpenSpec.ofChange cellLastWrong)

/- THE SECOND FORM. 'bulk': how many values and letters a reading holds, each counted each time it is reached (what is shared counts as often as it is met; a slice's spare places count too). A statement '..UptoSaid' is the law's where the arguments, and the package variables that the reading takes, are together of bulk at most 1048576: NARROWER than '..Said'. Prove '..Said' where nothing that the law and all that it calls make is longer than what came in: it says more and counts as full. Else prove '..UptoSaid'. A law counts once. -/
mutual
def uptoBulk {H : Type} : DataW H → Nat
  | .lit (.string bytes) => bytes.length + 1
  | .lit _ => 1
  | .nil => 1
  | .ptr d => uptoBulk d + 1
  | .slice elems spare => uptoBulkAll elems + uptoBulkAll spare + 1
  | .agg parts => uptoBulkAll parts + 1
  | .iface _ d => uptoBulk d + 1
  | .map entries => uptoBulkEntries entries + 1
  | .held _ => 1
def uptoBulkAll {H : Type} : List (DataW H) → Nat
  | [] => 0
  | d :: r => uptoBulk d + uptoBulkAll r
def uptoBulkEntries {H : Type} : List (Lit × DataW H) → Nat
  | [] => 0
  | x :: r => uptoBulkEntry x + uptoBulkEntries r
def uptoBulkEntry {H : Type} : Lit × DataW H → Nat
  | (.string bytes, d) => bytes.length + uptoBulk d + 1
  | (_, d) => uptoBulk d + 1
 end
def uptoSmall : (H : Type) → List (DataW H) → Bool := fun _ ds => decide (uptoBulkAll ds ≤ 1048576)
def OpenSpec.upto (s : _root_.Go.ChangeSpec) : _root_.Go.OpenSpec := { _root_.Go.OpenSpec.ofChange s with cond := some uptoSmall }

/-- 'heijunkalaw06.CellCodes', WHERE WHAT IT READS IS OF BULK AT MOST 1048576: true; the input reads as it did. -/
def cellCodesUptoRow : OpenClaim := { program := "ytahcgihdgpdiiaa", sum := "96e041fe0c7dfdb6bb4b89d5e29e570d3647abdd181aba1dab5f91c3df4ebd10", func := "heijunka/heijunkalaw06.CellCodes", spec := "cellCodes", inPlace := ["internal/bytealg.Count", "internal/bytealg.IndexByte", "internal/bytealg.Index"], unfollowed := true, recurses := true, named := ["internal/bytealg.MaxLen"], apart := false, narrowed := true }
def CellCodesUptoSaid : Prop := cellCodesUptoRow.holds Try.pinned (OpenSpec.upto cellCodesSpec)

/-- 'heijunkalaw06.CellSplits', WHERE WHAT IT READS IS OF BULK AT MOST 1048576: true; the input reads as it did. -/
def cellSplitsUptoRow : OpenClaim := { program := "ytahcgihdgpdiiaa", sum := "96e041fe0c7dfdb6bb4b89d5e29e570d3647abdd181aba1dab5f91c3df4ebd10", func := "heijunka/heijunkalaw06.CellSplits", spec := "cellSplits", inPlace := ["internal/bytealg.Count", "internal/bytealg.IndexByte", "internal/bytealg.Index"], unfollowed := true, recurses := true, named := ["internal/bytealg.MaxLen"], apart := false, narrowed := true }
def CellSplitsUptoSaid : Prop := cellSplitsUptoRow.holds Try.pinned (OpenSpec.upto cellSplitsSpec)

/-- 'heijunkalaw06.CellApart', WHERE WHAT IT READS IS OF BULK AT MOST 1048576: true; the input reads as it did. -/
def cellApartUptoRow : OpenClaim := { program := "ytahcgihdgpdiiaa", sum := "96e041fe0c7dfdb6bb4b89d5e29e570d3647abdd181aba1dab5f91c3df4ebd10", func := "heijunka/heijunkalaw06.CellApart", spec := "cellApart", inPlace := ["internal/bytealg.Count", "internal/bytealg.IndexByte", "internal/bytealg.Index"], unfollowed := true, recurses := true, named := ["internal/bytealg.MaxLen"], apart := false, narrowed := true }
def CellApartUptoSaid : Prop := cellApartUptoRow.holds Try.pinned (OpenSpec.upto cellApartSpec)

/-- 'heijunkalaw06.CellTurned', WHERE WHAT IT READS IS OF BULK AT MOST 1048576: true; the input reads as it did. -/
def cellTurnedUptoRow : OpenClaim := { program := "ytahcgihdgpdiiaa", sum := "96e041fe0c7dfdb6bb4b89d5e29e570d3647abdd181aba1dab5f91c3df4ebd10", func := "heijunka/heijunkalaw06.CellTurned", spec := "cellTurned", inPlace := ["internal/bytealg.Count", "internal/bytealg.IndexByte", "internal/bytealg.Index"], unfollowed := true, recurses := true, named := ["internal/bytealg.MaxLen"], apart := false, narrowed := true }
def CellTurnedUptoSaid : Prop := cellTurnedUptoRow.holds Try.pinned (OpenSpec.upto cellTurnedSpec)

/-- 'heijunkalaw06.CellNeeds', WHERE WHAT IT READS IS OF BULK AT MOST 1048576: true; the input reads as it did. -/
def cellNeedsUptoRow : OpenClaim := { program := "ytahcgihdgpdiiaa", sum := "96e041fe0c7dfdb6bb4b89d5e29e570d3647abdd181aba1dab5f91c3df4ebd10", func := "heijunka/heijunkalaw06.CellNeeds", spec := "cellNeeds", inPlace := ["internal/bytealg.Count", "internal/bytealg.IndexByte", "internal/bytealg.Index"], unfollowed := true, recurses := true, named := ["internal/bytealg.MaxLen"], apart := false, narrowed := true }
def CellNeedsUptoSaid : Prop := cellNeedsUptoRow.holds Try.pinned (OpenSpec.upto cellNeedsSpec)

/-- 'heijunkalaw06.CellOrder', WHERE WHAT IT READS IS OF BULK AT MOST 1048576: true; the input reads as it did. -/
def cellOrderUptoRow : OpenClaim := { program := "ytahcgihdgpdiiaa", sum := "96e041fe0c7dfdb6bb4b89d5e29e570d3647abdd181aba1dab5f91c3df4ebd10", func := "heijunka/heijunkalaw06.CellOrder", spec := "cellOrder", inPlace := ["internal/bytealg.Count", "internal/bytealg.IndexByte", "internal/bytealg.Index"], unfollowed := true, recurses := true, named := ["internal/bytealg.MaxLen"], apart := false, narrowed := true }
def CellOrderUptoSaid : Prop := cellOrderUptoRow.holds Try.pinned (OpenSpec.upto cellOrderSpec)

/-- 'heijunkalaw06.CellLast', WHERE WHAT IT READS IS OF BULK AT MOST 1048576: true; the input reads as it did. -/
def cellLastUptoRow : OpenClaim := { program := "ytahcgihdgpdiiaa", sum := "96e041fe0c7dfdb6bb4b89d5e29e570d3647abdd181aba1dab5f91c3df4ebd10", func := "heijunka/heijunkalaw06.CellLast", spec := "cellLast", inPlace := ["internal/bytealg.Count", "internal/bytealg.IndexByte", "internal/bytealg.Index"], unfollowed := true, recurses := true, named := ["internal/bytealg.MaxLen"], apart := false, narrowed := true }
def CellLastUptoSaid : Prop := cellLastUptoRow.holds Try.pinned (OpenSpec.upto cellLastSpec)

end Rows
end Go.Proofs.Ytahcgihdgpdiiaa
