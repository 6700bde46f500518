/-
  No cell of these rows narrows 'for every input' (looked for: loops, veiled, ifaces, maps, wideKeys, modest, calm, conditions, laid).
  DERIVED. THE GIVEN ROWS OF THIS SEAT. 4 by the template 'for every input the law returns true; each argument reads behind the call as it read before'; 0 by the template 'total and deterministic' (their statements: YtmcbmbcfgefocaaTotals.lean).
  GIVEN WITH THE SEED: the statements are not yours to turn. If you find one false, say at which input.
  Laid BY PROGRAM, IN A SANDBOX (cutbox-rows.mjs): the forced cells as the released guide's own fill.sh prints them over the translation 8bc698dd9365a672… (all of the seat's roots in one cut). By AI agents, Wed Nov 11 2026. No macro, syntax, notation, axiom, sorry.
-/
import Derived.Test.YtmcbmbcfgefocaaChecked
import GoSem.Claim
import GoSem.ClaimJoined
import GoSem.ClaimMapViews
import Derived.JoinedTies
import Derived.KernelRfl
namespace Go.Proofs.Ytmcbmbcfgefocaa
/- THE CELL 'sum', in the pinned program and in every row, IS THE sha256 OF THE DUMP (.gsa) THAT YtmcbmbcfgefocaaProg.lean LOADS. Nothing in Lean hashes anything: it is a label: what it is worth is what the hold of that sum in a sandbox is worth. -/
noncomputable def Try.pinned : Pinned := { name := "ytmcbmbcfgefocaa", sum := "8bc698dd9365a6721f98f5ee6642b2c673f4944021450e5778e842d8e4fe16d4", checked := Try.checked }
namespace Rows
def none {H : Type} : Left H := { results := [], args := [] }

/-- 'heijunkalaw09.LedgerGens': WHATEVER THE INPUT: true; the input reads as it did. -/
def ledgerGensSpec : ChangeSpec := { name := "ledgerGens", fn := fun _ => fun
  | [d] => { results := [.lit (.bool true)], args := [d] }
  | _ => none }
def ledgerGensRow : OpenClaim := { program := "ytmcbmbcfgefocaa", sum := "8bc698dd9365a6721f98f5ee6642b2c673f4944021450e5778e842d8e4fe16d4", func := "heijunka/heijunkalaw09.LedgerGens", spec := "ledgerGens", inPlace := ["internal/bytealg.Count", "internal/bytealg.IndexByte", "internal/bytealg.Index"], unfollowed := true, recurses := true, named := ["internal/bytealg.MaxLen"], apart := false }
def LedgerGensSaid : Prop := ledgerGensRow.holds Try.pinned (OpenSpec.ofChange ledgerGensSpec)

/-- ITS FALSE NEIGHBOUR: 'it returns false'. Refute it at one input. -/
def ledgerGensWrong : ChangeSpec := { name := "ledgerGens", fn := fun _ => fun
  | [d] => { results := [.lit (.bool false)], args := [d] }
  | _ => none }
def LedgerGensWrongFalsely : Prop := ledgerGensRow.holds Try.pinned (OpenSpec.ofChange ledgerGensWrong)

/-- 'heijunkalaw09.LedgerMost': WHATEVER THE INPUT: true; the input reads as it did. -/
def ledgerMostSpec : ChangeSpec := { name := "ledgerMost", fn := fun _ => fun
  | [d] => { results := [.lit (.bool true)], args := [d] }
  | _ => none }
def ledgerMostRow : OpenClaim := { program := "ytmcbmbcfgefocaa", sum := "8bc698dd9365a6721f98f5ee6642b2c673f4944021450e5778e842d8e4fe16d4", func := "heijunka/heijunkalaw09.LedgerMost", spec := "ledgerMost", inPlace := ["internal/bytealg.Count", "internal/bytealg.IndexByte", "internal/bytealg.Index"], unfollowed := true, recurses := true, named := ["internal/bytealg.MaxLen"], apart := false }
def LedgerMostSaid : Prop := ledgerMostRow.holds Try.pinned (OpenSpec.ofChange ledgerMostSpec)

/-- ITS FALSE NEIGHBOUR: 'it returns false'. Refute it at one input. -/
def ledgerMostWrong : ChangeSpec := { name := "ledgerMost", fn := fun _ => fun
  | [d] => { results := [.lit (.bool false)], args := [d] }
  | _ => none }
def LedgerMostWrongFalsely : Prop := ledgerMostRow.holds Try.pinned (OpenSpec.ofChange ledgerMostWrong)

/-- 'heijunkalaw09.LedgerLost': WHATEVER THE INPUT: true; the input reads as it did. -/
def ledgerLostSpec : ChangeSpec := { name := "ledgerLost", fn := fun _ => fun
  | [d1, d2] => { results := [.lit (.bool true)], args := [d1, d2] }
  | _ => none }
def ledgerLostRow : OpenClaim := { program := "ytmcbmbcfgefocaa", sum := "8bc698dd9365a6721f98f5ee6642b2c673f4944021450e5778e842d8e4fe16d4", func := "heijunka/heijunkalaw09.LedgerLost", spec := "ledgerLost", inPlace := ["internal/bytealg.Count", "internal/bytealg.IndexByte", "internal/bytealg.Index"], unfollowed := true, recurses := true, named := ["internal/bytealg.MaxLen"], apart := false }
def LedgerLostSaid : Prop := ledgerLostRow.holds Try.pinned (OpenSpec.ofChange ledgerLostSpec)

/-- ITS FALSE NEIGHBOUR: 'it returns false'. Refute it at one input. -/
def ledgerLostWrong : ChangeSpec := { name := "ledgerLost", fn := fun _ => fun
  | [d1, d2] => { results := [.lit (.bool false)], args := [d1, d2] }
  | _ => none }
def LedgerLostWrongFalsely : Prop := ledgerLostRow.holds Try.pinned (OpenSpec.ofChange ledgerLostWrong)

/-- 'heijunkalaw09.LedgerHalves': WHATEVER THE INPUT: true; the input reads as it did. -/
def ledgerHalvesSpec : ChangeSpec := { name := "ledgerHalves", fn := fun _ => fun
  | [d] => { results := [.lit (.bool true)], args := [d] }
  | _ => none }
def ledgerHalvesRow : OpenClaim := { program := "ytmcbmbcfgefocaa", sum := "8bc698dd9365a6721f98f5ee6642b2c673f4944021450e5778e842d8e4fe16d4", func := "heijunka/heijunkalaw09.LedgerHalves", spec := "ledgerHalves", inPlace := ["internal/bytealg.Count", "internal/bytealg.IndexByte", "internal/bytealg.Index"], unfollowed := true, recurses := true, named := ["internal/bytealg.MaxLen"], apart := false }
def LedgerHalvesSaid : Prop := ledgerHalvesRow.holds Try.pinned (OpenSpec.ofChange ledgerHalvesSpec)

/-- ITS FALSE NEIGHBOUR: 'it returns false'. Refute it at one input. -/
def ledgerHalvesWrong : ChangeSpec := { name := "ledgerHalves", fn := fun _ => fun
  | [d] => { results := [.lit (.bool false)], args := [d] }
  | _ => none }
def LedgerHalvesWrongFalsely : Prop := ledgerHalvesRow.holds Try.pinned (OpenSpec.ofChange ledgerHalvesWrong)

/- THE SECOND FORM. 'bulk': how many values and letters a reading holds, each counted each time it is reached (what is shared counts as often as it is met; a slice's spare places count too). A statement '..UptoSaid' is the law's where the arguments, and the package variables that the reading takes, are together of bulk at most 1048576: NARROWER than '..Said'. Prove '..Said' where nothing that the law and all that it calls make is longer than what came in: it says more and counts as full. Else prove '..UptoSaid'. A law counts once. -/
mutual
def uptoBulk {H : Type} : DataW H → Nat
  | .lit (.string bytes) => bytes.length + 1
  | .lit _ => 1
  | .nil => 1
  | .ptr d => uptoBulk d + 1
  | .slice elems spare => uptoBulkAll elems + uptoBulkAll spare + 1
  | .agg parts => uptoBulkAll parts + 1
  | .iface _ d => uptoBulk d + 1
  | .map entries => uptoBulkEntries entries + 1
  | .held _ => 1
def uptoBulkAll {H : Type} : List (DataW H) → Nat
  | [] => 0
  | d :: r => uptoBulk d + uptoBulkAll r
def uptoBulkEntries {H : Type} : List (Lit × DataW H) → Nat
  | [] => 0
  | x :: r => uptoBulkEntry x + uptoBulkEntries r
def uptoBulkEntry {H : Type} : Lit × DataW H → Nat
  | (.string bytes, d) => bytes.length + uptoBulk d + 1
  | (_, d) => uptoBulk d + 1
 end
def uptoSmall : (H : Type) → List (DataW H) → Bool := fun _ ds => decide (uptoBulkAll ds ≤ 1048576)
def OpenSpec.upto (s : _root_.Go.ChangeSpec) : _root_.Go.OpenSpec := { _root_.Go.OpenSpec.ofChange s with cond := some uptoSmall }

/-- 'heijunkalaw09.LedgerGens', WHERE WHAT IT READS IS OF BULK AT MOST 1048576: true; the input reads as it did. -/
def ledgerGensUptoRow : OpenClaim := { program := "ytmcbmbcfgefocaa", sum := "8bc698dd9365a6721f98f5ee6642b2c673f4944021450e5778e842d8e4fe16d4", func := "heijunka/heijunkalaw09.LedgerGens", spec := "ledgerGens", inPlace := ["internal/bytealg.Count", "internal/bytealg.IndexByte", "internal/bytealg.Index"], unfollowed := true, recurses := true, named := ["internal/bytealg.MaxLen"], apart := false, narrowed := true }
def LedgerGensUptoSaid : Prop := ledgerGensUptoRow.holds Try.pinned (OpenSpec.upto ledgerGensSpec)

/-- 'heijunkalaw09.LedgerMost', WHERE WHAT IT READS IS OF BULK AT MOST 1048576: true; the input reads as it did. -/
def ledgerMostUptoRow : OpenClaim := { program := "ytmcbmbcfgefocaa", sum := "8bc698dd9365a6721f98f5ee6642b2c673f4944021450e5778e842d8e4fe16d4", func := "heijunka/heijunkalaw09.LedgerMost", spec := "ledgerMost", inPlace := ["internal/bytealg.Count", "internal/bytealg.IndexByte", "internal/bytealg.Index"], unfollowed := true, recurses := true, named := ["internal/bytealg.MaxLen"], apart := false, narrowed := true }
def LedgerMostUptoSaid : Prop := ledgerMostUptoRow.holds Try.pinned (OpenSpec.upto ledgerMostSpec)

/-- 'heijunkalaw09.LedgerLost', WHERE WHAT IT READS IS OF BULK AT MOST 1048576: true; the input reads as it did. -/
def ledgerLostUptoRow : OpenClaim := { program := "ytmcbmbcfgefocaa", sum := "8bc698dd9365a6721f98f5ee6642b2c673f4944021450e5778e842d8e4fe16d4", func := "heijunka/heijunkalaw09.LedgerLost", spec := "ledgerLost", inPlace := ["internal/bytealg.Count", "internal/bytealg.IndexByte", "internal/bytealg.Index"], unfollowed := true, recurses := true, named := ["internal/bytealg.MaxLen"], apart := false, narrowed := true }
def LedgerLostUptoSaid : Prop := ledgerLostUptoRow.holds Try.pinned (OpenSpec.upto ledgerLostSpec)

/-- 'heijunkalaw09.LedgerHalves', WHERE WHAT IT READS IS OF BULK AT MOST 1048576: true; the input reads as it did. -/
def ledgerHalvesUptoRow : OpenClaim := { program := "ytmcbmbcfgefocaa", sum := "8bc698dd9365a6721f98f5ee6642b2c673f4944021450e5778e842d8e4fe16d4", func := "heijunka/heijunkalaw09.LedgerHalves", spec := "ledgerHalves", inPlace := ["internal/bytealg.Count", "internal/bytealg.IndexByte", "internal/bytealg.Index"], unfollowed := true, recurses := true, named := ["internal/bytealg.MaxLen"], apart := false, narrowed := true }
def LedgerHalvesUptoSaid : Prop := ledgerHalvesUptoRow.holds Try.pinned (OpenSpec.upto ledgerHalvesSpec)

end Rows
end Go.Proofs.Ytmcbmbcfgefocaa
