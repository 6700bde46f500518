/-
  No cell of these rows narrows 'for every input' (looked for: loops, veiled, ifaces, maps, wideKeys, modest, calm, conditions, laid).
  DERIVED. THE GIVEN ROWS OF THIS SEAT. 7 by the template 'for every input the law returns true; each argument reads behind the call as it read before'; 0 by the template 'total and deterministic' (their statements: YtebdmidghidaeaaGreatTotals.lean).
  GIVEN WITH THE SEED: the statements are not yours to turn. If you find one false, say at which input.
  Laid BY PROGRAM, IN A SANDBOX (cutbox-rows.mjs): the forced cells as the released guide's own fill.sh prints them over the translation c6cb87224346a086… (all of the seat's roots in one cut). By AI agents, Wed Nov 11 2026. No macro, syntax, notation, axiom, sorry.
-/
import Derived.Test.YtebdmidghidaeaaGreatChecked
import GoSem.Claim
import GoSem.ClaimJoined
import GoSem.ClaimMapViews
import Derived.JoinedTies
import Derived.KernelRfl
namespace Go.Proofs.YtebdmidghidaeaaGreat
/- THE CELL 'sum', in the pinned program and in every row, IS THE sha256 OF THE DUMP (.gsa) THAT YtebdmidghidaeaaGreatProg.lean LOADS. Nothing in Lean hashes anything: it is a label: what it is worth is what the hold of that sum in a sandbox is worth. -/
noncomputable def Tryz.pinned : Pinned := { name := "ytebdmidghidaeaagreat", sum := "c6cb87224346a086b4159d781ab2136bb388746ee4d7d717a185b46d4f485ed8", checked := Tryz.checked }
namespace Rows
def none {H : Type} : Left H := { results := [], args := [] }

/-- 'heijunkalaw10.LinRows': WHATEVER THE INPUT: true; the input reads as it did. -/
def linRowsSpec : ChangeSpec := { name := "linRows", fn := fun _ => fun
  | [d1, d2, d3] => { results := [.lit (.bool true)], args := [d1, d2, d3] }
  | _ => none }
def linRowsRow : OpenClaim := { program := "ytebdmidghidaeaagreat", sum := "c6cb87224346a086b4159d781ab2136bb388746ee4d7d717a185b46d4f485ed8", func := "heijunka/heijunkalaw10.LinRows", spec := "linRows", unfollowed := true, recurses := true, apart := false }
def LinRowsSaid : Prop := linRowsRow.holds Tryz.pinned (OpenSpec.ofChange linRowsSpec)

/-- ITS FALSE NEIGHBOUR: 'it returns false'. Refute it at one input. -/
def linRowsWrong : ChangeSpec := { name := "linRows", fn := fun _ => fun
  | [d1, d2, d3] => { results := [.lit (.bool false)], args := [d1, d2, d3] }
  | _ => none }
def LinRowsWrongFalsely : Prop := linRowsRow.holds Tryz.pinned (OpenSpec.ofChange linRowsWrong)

/-- 'heijunkalaw10.LinPivots': WHATEVER THE INPUT: true; the input reads as it did. -/
def linPivotsSpec : ChangeSpec := { name := "linPivots", fn := fun _ => fun
  | [d1, d2, d3] => { results := [.lit (.bool true)], args := [d1, d2, d3] }
  | _ => none }
def linPivotsRow : OpenClaim := { program := "ytebdmidghidaeaagreat", sum := "c6cb87224346a086b4159d781ab2136bb388746ee4d7d717a185b46d4f485ed8", func := "heijunka/heijunkalaw10.LinPivots", spec := "linPivots", unfollowed := true, recurses := true, apart := false }
def LinPivotsSaid : Prop := linPivotsRow.holds Tryz.pinned (OpenSpec.ofChange linPivotsSpec)

/-- ITS FALSE NEIGHBOUR: 'it returns false'. Refute it at one input. -/
def linPivotsWrong : ChangeSpec := { name := "linPivots", fn := fun _ => fun
  | [d1, d2, d3] => { results := [.lit (.bool false)], args := [d1, d2, d3] }
  | _ => none }
def LinPivotsWrongFalsely : Prop := linPivotsRow.holds Tryz.pinned (OpenSpec.ofChange linPivotsWrong)

/-- 'heijunkalaw10.LinSolves': WHATEVER THE INPUT: true; the input reads as it did. -/
def linSolvesSpec : ChangeSpec := { name := "linSolves", fn := fun _ => fun
  | [d1, d2] => { results := [.lit (.bool true)], args := [d1, d2] }
  | _ => none }
def linSolvesRow : OpenClaim := { program := "ytebdmidghidaeaagreat", sum := "c6cb87224346a086b4159d781ab2136bb388746ee4d7d717a185b46d4f485ed8", func := "heijunka/heijunkalaw10.LinSolves", spec := "linSolves", unfollowed := true, recurses := true, apart := false }
def LinSolvesSaid : Prop := linSolvesRow.holds Tryz.pinned (OpenSpec.ofChange linSolvesSpec)

/-- ITS FALSE NEIGHBOUR: 'it returns false'. Refute it at one input. -/
def linSolvesWrong : ChangeSpec := { name := "linSolves", fn := fun _ => fun
  | [d1, d2] => { results := [.lit (.bool false)], args := [d1, d2] }
  | _ => none }
def LinSolvesWrongFalsely : Prop := linSolvesRow.holds Tryz.pinned (OpenSpec.ofChange linSolvesWrong)

/-- 'heijunkalaw10.LinUnit': WHATEVER THE INPUT: true; the input reads as it did. -/
def linUnitSpec : ChangeSpec := { name := "linUnit", fn := fun _ => fun
  | [d] => { results := [.lit (.bool true)], args := [d] }
  | _ => none }
def linUnitRow : OpenClaim := { program := "ytebdmidghidaeaagreat", sum := "c6cb87224346a086b4159d781ab2136bb388746ee4d7d717a185b46d4f485ed8", func := "heijunka/heijunkalaw10.LinUnit", spec := "linUnit", unfollowed := true, recurses := true, apart := false }
def LinUnitSaid : Prop := linUnitRow.holds Tryz.pinned (OpenSpec.ofChange linUnitSpec)

/-- ITS FALSE NEIGHBOUR: 'it returns false'. Refute it at one input. -/
def linUnitWrong : ChangeSpec := { name := "linUnit", fn := fun _ => fun
  | [d] => { results := [.lit (.bool false)], args := [d] }
  | _ => none }
def LinUnitWrongFalsely : Prop := linUnitRow.holds Tryz.pinned (OpenSpec.ofChange linUnitWrong)

/-- 'heijunkalaw10.LinDots': WHATEVER THE INPUT: true; the input reads as it did. -/
def linDotsSpec : ChangeSpec := { name := "linDots", fn := fun _ => fun
  | [d1, d2, d3] => { results := [.lit (.bool true)], args := [d1, d2, d3] }
  | _ => none }
def linDotsRow : OpenClaim := { program := "ytebdmidghidaeaagreat", sum := "c6cb87224346a086b4159d781ab2136bb388746ee4d7d717a185b46d4f485ed8", func := "heijunka/heijunkalaw10.LinDots", spec := "linDots", unfollowed := true, recurses := true, apart := false }
def LinDotsSaid : Prop := linDotsRow.holds Tryz.pinned (OpenSpec.ofChange linDotsSpec)

/-- ITS FALSE NEIGHBOUR: 'it returns false'. Refute it at one input. -/
def linDotsWrong : ChangeSpec := { name := "linDots", fn := fun _ => fun
  | [d1, d2, d3] => { results := [.lit (.bool false)], args := [d1, d2, d3] }
  | _ => none }
def LinDotsWrongFalsely : Prop := linDotsRow.holds Tryz.pinned (OpenSpec.ofChange linDotsWrong)

/-- 'heijunkalaw10.LinTurned': WHATEVER THE INPUT: true; the input reads as it did. -/
def linTurnedSpec : ChangeSpec := { name := "linTurned", fn := fun _ => fun
  | [d1, d2] => { results := [.lit (.bool true)], args := [d1, d2] }
  | _ => none }
def linTurnedRow : OpenClaim := { program := "ytebdmidghidaeaagreat", sum := "c6cb87224346a086b4159d781ab2136bb388746ee4d7d717a185b46d4f485ed8", func := "heijunka/heijunkalaw10.LinTurned", spec := "linTurned", unfollowed := true, recurses := true, apart := false }
def LinTurnedSaid : Prop := linTurnedRow.holds Tryz.pinned (OpenSpec.ofChange linTurnedSpec)

/-- ITS FALSE NEIGHBOUR: 'it returns false'. Refute it at one input. -/
def linTurnedWrong : ChangeSpec := { name := "linTurned", fn := fun _ => fun
  | [d1, d2] => { results := [.lit (.bool false)], args := [d1, d2] }
  | _ => none }
def LinTurnedWrongFalsely : Prop := linTurnedRow.holds Tryz.pinned (OpenSpec.ofChange linTurnedWrong)

/-- 'heijunkalaw10.LinScaled': WHATEVER THE INPUT: true; the input reads as it did. -/
def linScaledSpec : ChangeSpec := { name := "linScaled", fn := fun _ => fun
  | [d1, d2, d3] => { results := [.lit (.bool true)], args := [d1, d2, d3] }
  | _ => none }
def linScaledRow : OpenClaim := { program := "ytebdmidghidaeaagreat", sum := "c6cb87224346a086b4159d781ab2136bb388746ee4d7d717a185b46d4f485ed8", func := "heijunka/heijunkalaw10.LinScaled", spec := "linScaled", unfollowed := true, recurses := true, apart := false }
def LinScaledSaid : Prop := linScaledRow.holds Tryz.pinned (OpenSpec.ofChange linScaledSpec)

/-- ITS FALSE NEIGHBOUR: 'it returns false'. Refute it at one input. -/
def linScaledWrong : ChangeSpec := { name := "linScaled", fn := fun _ => fun
  | [d1, d2, d3] => { results := [.lit (.bool false)], args := [d1, d2, d3] }
  | _ => none }
def LinScaledWrongFalsely : Prop := linScaledRow.holds Tryz.pinned (OpenSpec.ofChange linScaledWrong)

/- THE SECOND FORM. 'bulk': how many values and letters a reading holds, each counted each time it is reached (what is shared counts as often as it is met; a slice's spare places count too). A statement '..UptoSaid' is the law's where the arguments, and the package variables that the reading takes, are together of bulk at most 1048576: NARROWER than '..Said'. Prove '..Said' where nothing that the law and all that it calls make is longer than what came in: it says more and counts as full. Else prove '..UptoSaid'. A law counts once. -/
mutual
def uptoBulk {H : Type} : DataW H → Nat
  | .lit (.string bytes) => bytes.length + 1
  | .lit _ => 1
  | .nil => 1
  | .ptr d => uptoBulk d + 1
  | .slice elems spare => uptoBulkAll elems + uptoBulkAll spare + 1
  | .agg parts => uptoBulkAll parts + 1
  | .iface _ d => uptoBulk d + 1
  | .map entries => uptoBulkEntries entries + 1
  | .held _ => 1
def uptoBulkAll {H : Type} : List (DataW H) → Nat
  | [] => 0
  | d :: r => uptoBulk d + uptoBulkAll r
def uptoBulkEntries {H : Type} : List (Lit × DataW H) → Nat
  | [] => 0
  | x :: r => uptoBulkEntry x + uptoBulkEntries r
def uptoBulkEntry {H : Type} : Lit × DataW H → Nat
  | (.string bytes, d) => bytes.length + uptoBulk d + 1
  | (_, d) => uptoBulk d + 1
 end
def uptoSmall : (H : Type) → List (DataW H) → Bool := fun _ ds => decide (uptoBulkAll ds ≤ 1048576)
def OpenSpec.upto (s : _root_.Go.ChangeSpec) : _root_.Go.OpenSpec := { _root_.Go.OpenSpec.ofChange s with cond := some uptoSmall }

/-- 'heijunkalaw10.LinRows', WHERE WHAT IT READS IS OF BULK AT MOST 1048576: true; the input reads as it did. -/
def linRowsUptoRow : OpenClaim := { program := "ytebdmidghidaeaagreat", sum := "c6cb87224346a086b4159d781ab2136bb388746ee4d7d717a185b46d4f485ed8", func := "heijunka/heijunkalaw10.LinRows", spec := "linRows", unfollowed := true, recurses := true, apart := false, narrowed := true }
def LinRowsUptoSaid : Prop := linRowsUptoRow.holds Tryz.pinned (OpenSpec.upto linRowsSpec)

/-- 'heijunkalaw10.LinPivots', WHERE WHAT IT READS IS OF BULK AT MOST 1048576: true; the input reads as it did. -/
def linPivotsUptoRow : OpenClaim := { program := "ytebdmidghidaeaagreat", sum := "c6cb87224346a086b4159d781ab2136bb388746ee4d7d717a185b46d4f485ed8", func := "heijunka/heijunkalaw10.LinPivots", spec := "linPivots", unfollowed := true, recurses := true, apart := false, narrowed := true }
def LinPivotsUptoSaid : Prop := linPivotsUptoRow.holds Tryz.pinned (OpenSpec.upto linPivotsSpec)

/-- 'heijunkalaw10.LinSolves', WHERE WHAT IT READS IS OF BULK AT MOST 1048576: true; the input reads as it did. -/
def linSolvesUptoRow : OpenClaim := { program := "ytebdmidghidaeaagreat", sum := "c6cb87224346a086b4159d781ab2136bb388746ee4d7d717a185b46d4f485ed8", func := "heijunka/heijunkalaw10.LinSolves", spec := "linSolves", unfollowed := true, recurses := true, apart := false, narrowed := true }
def LinSolvesUptoSaid : Prop := linSolvesUptoRow.holds Tryz.pinned (OpenSpec.upto linSolvesSpec)

/-- 'heijunkalaw10.LinUnit', WHERE WHAT IT READS IS OF BULK AT MOST 1048576: true; the input reads as it did. -/
def linUnitUptoRow : OpenClaim := { program := "ytebdmidghidaeaagreat", sum := "c6cb87224346a086b4159d781ab2136bb388746ee4d7d717a185b46d4f485ed8", func := "heijunka/heijunkalaw10.LinUnit", spec := "linUnit", unfollowed := true, recurses := true, apart := false, narrowed := true }
def LinUnitUptoSaid : Prop := linUnitUptoRow.holds Tryz.pinned (OpenSpec.upto linUnitSpec)

/-- 'heijunkalaw10.LinDots', WHERE WHAT IT READS IS OF BULK AT MOST 1048576: true; the input reads as it did. -/
def linDotsUptoRow : OpenClaim := { program := "ytebdmidghidaeaagreat", sum := "c6cb87224346a086b4159d781ab2136bb388746ee4d7d717a185b46d4f485ed8", func := "heijunka/heijunkalaw10.LinDots", spec := "linDots", unfollowed := true, recurses := true, apart := false, narrowed := true }
def LinDotsUptoSaid : Prop := linDotsUptoRow.holds Tryz.pinned (OpenSpec.upto linDotsSpec)

/-- 'heijunkalaw10.LinTurned', WHERE WHAT IT READS IS OF BULK AT MOST 1048576: true; the input reads as it did. -/
def linTurnedUptoRow : OpenClaim := { program := "ytebdmidghidaeaagreat", sum := "c6cb87224346a086b4159d781ab2136bb388746ee4d7d717a185b46d4f485ed8", func := "heijunka/heijunkalaw10.LinTurned", spec := "linTurned", unfollowed := true, recurses := true, apart := false, narrowed := true }
def LinTurnedUptoSaid : Prop := linTurnedUptoRow.holds Tryz.pinned (OpenSpec.upto linTurnedSpec)

/-- 'heijunkalaw10.LinScaled', WHERE WHAT IT READS IS OF BULK AT MOST 1048576: true; the input reads as it did. -/
def linScaledUptoRow : OpenClaim := { program := "ytebdmidghidaeaagreat", sum := "c6cb87224346a086b4159d781ab2136bb388746ee4d7d717a185b46d4f485ed8", func := "heijunka/heijunkalaw10.LinScaled", spec := "linScaled", unfollowed := true, recurses := true, apart := false, narrowed := true }
def LinScaledUptoSaid : Prop := linScaledUptoRow.holds Tryz.pinned (OpenSpec.upto linScaledSpec)

end Rows
end Go.Proofs.YtebdmidghidaeaaGreat
