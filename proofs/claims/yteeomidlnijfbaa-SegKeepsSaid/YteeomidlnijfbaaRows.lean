/-
  No cell of these rows narrows 'for every input' (looked for: loops, veiled, ifaces, maps, wideKeys, modest, calm, conditions, laid).
  DERIVED. THE GIVEN ROWS OF THIS SEAT. 8 by the template 'for every input the law returns true; each argument reads behind the call as it read before'; 0 by the template 'total and deterministic' (their statements: YteeomidlnijfbaaTotals.lean).
  GIVEN WITH THE SEED: the statements are not yours to turn. If you find one false, say at which input.
  Laid BY PROGRAM, IN A SANDBOX (cutbox-rows.mjs): the forced cells as the released guide's own fill.sh prints them over the translation 51bdc24c26359d53… (all of the seat's roots in one cut). By AI agents, Wed Nov 11 2026. No macro, syntax, notation, axiom, sorry.
-/
import Derived.Test.YteeomidlnijfbaaChecked
import GoSem.Claim
import GoSem.ClaimJoined
import GoSem.ClaimMapViews
import Derived.JoinedTies
import Derived.KernelRfl
namespace Go.Proofs.Yteeomidlnijfbaa
/- THE CELL 'sum', in the pinned program and in every row, IS THE sha256 OF THE DUMP (.gsa) THAT YteeomidlnijfbaaProg.lean LOADS. Nothing in Lean hashes anything: it is a label: what it is worth is what the hold of that sum in a sandbox is worth. -/
noncomputable def Try.pinned : Pinned := { name := "yteeomidlnijfbaa", sum := "51bdc24c26359d5396166cce55fe2e4c3d7f80813579c8cf5388c76966e45976", checked := Try.checked }
namespace Rows
def none {H : Type} : Left H := { results := [], args := [] }

/-- 'heijunkalaw07.SegKeeps': WHATEVER THE INPUT: true; the input reads as it did. -/
def segKeepsSpec : ChangeSpec := { name := "segKeeps", fn := fun _ => fun
  | [d] => { results := [.lit (.bool true)], args := [d] }
  | _ => none }
def segKeepsRow : OpenClaim := { program := "yteeomidlnijfbaa", sum := "51bdc24c26359d5396166cce55fe2e4c3d7f80813579c8cf5388c76966e45976", func := "heijunka/heijunkalaw07.SegKeeps", spec := "segKeeps", inPlace := ["internal/bytealg.Count", "internal/bytealg.IndexByte", "internal/bytealg.Index"], unfollowed := true, recurses := true, named := ["internal/bytealg.MaxLen"], apart := false }
def SegKeepsSaid : Prop := segKeepsRow.holds Try.pinned (OpenSpec.ofChange segKeepsSpec)

/-- ITS FALSE NEIGHBOUR: 'it returns false'. Refute it at one input. -/
def segKeepsWrong : ChangeSpec := { name := "segKeeps", fn := fun _ => fun
  | [d] => { results := [.lit (.bool false)], args := [d] }
  | _ => none }
def SegKeepsWrongFalsely : Prop := segKeepsRow.holds Try.pinned (OpenSpec.ofChange segKeepsWrong)

/-- 'heijunkalaw07.SegFills': WHATEVER THE INPUT: true; the input reads as it did. -/
def segFillsSpec : ChangeSpec := { name := "segFills", fn := fun _ => fun
  | [d1, d2] => { results := [.lit (.bool true)], args := [d1, d2] }
  | _ => none }
def segFillsRow : OpenClaim := { program := "yteeomidlnijfbaa", sum := "51bdc24c26359d5396166cce55fe2e4c3d7f80813579c8cf5388c76966e45976", func := "heijunka/heijunkalaw07.SegFills", spec := "segFills", inPlace := ["internal/bytealg.Count", "internal/bytealg.IndexByte", "internal/bytealg.Index"], unfollowed := true, recurses := true, named := ["internal/bytealg.MaxLen"], apart := false }
def SegFillsSaid : Prop := segFillsRow.holds Try.pinned (OpenSpec.ofChange segFillsSpec)

/-- ITS FALSE NEIGHBOUR: 'it returns false'. Refute it at one input. -/
def segFillsWrong : ChangeSpec := { name := "segFills", fn := fun _ => fun
  | [d1, d2] => { results := [.lit (.bool false)], args := [d1, d2] }
  | _ => none }
def SegFillsWrongFalsely : Prop := segFillsRow.holds Try.pinned (OpenSpec.ofChange segFillsWrong)

/-- 'heijunkalaw07.SegTorn': WHATEVER THE INPUT: true; the input reads as it did. -/
def segTornSpec : ChangeSpec := { name := "segTorn", fn := fun _ => fun
  | [d1, d2] => { results := [.lit (.bool true)], args := [d1, d2] }
  | _ => none }
def segTornRow : OpenClaim := { program := "yteeomidlnijfbaa", sum := "51bdc24c26359d5396166cce55fe2e4c3d7f80813579c8cf5388c76966e45976", func := "heijunka/heijunkalaw07.SegTorn", spec := "segTorn", inPlace := ["internal/bytealg.Count", "internal/bytealg.IndexByte", "internal/bytealg.Index"], unfollowed := true, recurses := true, named := ["internal/bytealg.MaxLen"], apart := false }
def SegTornSaid : Prop := segTornRow.holds Try.pinned (OpenSpec.ofChange segTornSpec)

/-- ITS FALSE NEIGHBOUR: 'it returns false'. Refute it at one input. -/
def segTornWrong : ChangeSpec := { name := "segTorn", fn := fun _ => fun
  | [d1, d2] => { results := [.lit (.bool false)], args := [d1, d2] }
  | _ => none }
def SegTornWrongFalsely : Prop := segTornRow.holds Try.pinned (OpenSpec.ofChange segTornWrong)

/-- 'heijunkalaw08.RootPlays': WHATEVER THE INPUT: true; the input reads as it did. -/
def rootPlaysSpec : ChangeSpec := { name := "rootPlays", fn := fun _ => fun
  | [d1, d2] => { results := [.lit (.bool true)], args := [d1, d2] }
  | _ => none }
def rootPlaysRow : OpenClaim := { program := "yteeomidlnijfbaa", sum := "51bdc24c26359d5396166cce55fe2e4c3d7f80813579c8cf5388c76966e45976", func := "heijunka/heijunkalaw08.RootPlays", spec := "rootPlays", inPlace := ["internal/bytealg.Count", "internal/bytealg.IndexByte", "internal/bytealg.Index"], named := ["internal/bytealg.MaxLen"], apart := false }
def RootPlaysSaid : Prop := rootPlaysRow.holds Try.pinned (OpenSpec.ofChange rootPlaysSpec)

/-- ITS FALSE NEIGHBOUR: 'it returns false'. Refute it at one input. -/
def rootPlaysWrong : ChangeSpec := { name := "rootPlays", fn := fun _ => fun
  | [d1, d2] => { results := [.lit (.bool false)], args := [d1, d2] }
  | _ => none }
def RootPlaysWrongFalsely : Prop := rootPlaysRow.holds Try.pinned (OpenSpec.ofChange rootPlaysWrong)

/-- 'heijunkalaw08.RootFlips': WHATEVER THE INPUT: true; the input reads as it did. -/
def rootFlipsSpec : ChangeSpec := { name := "rootFlips", fn := fun _ => fun
  | [d1, d2, d3] => { results := [.lit (.bool true)], args := [d1, d2, d3] }
  | _ => none }
def rootFlipsRow : OpenClaim := { program := "yteeomidlnijfbaa", sum := "51bdc24c26359d5396166cce55fe2e4c3d7f80813579c8cf5388c76966e45976", func := "heijunka/heijunkalaw08.RootFlips", spec := "rootFlips", inPlace := ["internal/bytealg.Count", "internal/bytealg.IndexByte", "internal/bytealg.Index"], named := ["internal/bytealg.MaxLen"], apart := false }
def RootFlipsSaid : Prop := rootFlipsRow.holds Try.pinned (OpenSpec.ofChange rootFlipsSpec)

/-- ITS FALSE NEIGHBOUR: 'it returns false'. Refute it at one input. -/
def rootFlipsWrong : ChangeSpec := { name := "rootFlips", fn := fun _ => fun
  | [d1, d2, d3] => { results := [.lit (.bool false)], args := [d1, d2, d3] }
  | _ => none }
def RootFlipsWrongFalsely : Prop := rootFlipsRow.holds Try.pinned (OpenSpec.ofChange rootFlipsWrong)

/-- 'heijunkalaw08.RootSlots': WHATEVER THE INPUT: true; the input reads as it did. -/
def rootSlotsSpec : ChangeSpec := { name := "rootSlots", fn := fun _ => fun
  | [d1, d2, d3] => { results := [.lit (.bool true)], args := [d1, d2, d3] }
  | _ => none }
def rootSlotsRow : OpenClaim := { program := "yteeomidlnijfbaa", sum := "51bdc24c26359d5396166cce55fe2e4c3d7f80813579c8cf5388c76966e45976", func := "heijunka/heijunkalaw08.RootSlots", spec := "rootSlots", inPlace := ["internal/bytealg.Count", "internal/bytealg.IndexByte", "internal/bytealg.Index"], named := ["internal/bytealg.MaxLen"], apart := false }
def RootSlotsSaid : Prop := rootSlotsRow.holds Try.pinned (OpenSpec.ofChange rootSlotsSpec)

/-- ITS FALSE NEIGHBOUR: 'it returns false'. Refute it at one input. -/
def rootSlotsWrong : ChangeSpec := { name := "rootSlots", fn := fun _ => fun
  | [d1, d2, d3] => { results := [.lit (.bool false)], args := [d1, d2, d3] }
  | _ => none }
def RootSlotsWrongFalsely : Prop := rootSlotsRow.holds Try.pinned (OpenSpec.ofChange rootSlotsWrong)

/-- 'heijunkalaw08.RootQuiet': WHATEVER THE INPUT: true; the input reads as it did. -/
def rootQuietSpec : ChangeSpec := { name := "rootQuiet", fn := fun _ => fun
  | [d1, d2] => { results := [.lit (.bool true)], args := [d1, d2] }
  | _ => none }
def rootQuietRow : OpenClaim := { program := "yteeomidlnijfbaa", sum := "51bdc24c26359d5396166cce55fe2e4c3d7f80813579c8cf5388c76966e45976", func := "heijunka/heijunkalaw08.RootQuiet", spec := "rootQuiet", inPlace := ["internal/bytealg.Count", "internal/bytealg.IndexByte", "internal/bytealg.Index"], named := ["internal/bytealg.MaxLen"], apart := false }
def RootQuietSaid : Prop := rootQuietRow.holds Try.pinned (OpenSpec.ofChange rootQuietSpec)

/-- ITS FALSE NEIGHBOUR: 'it returns false'. Refute it at one input. -/
def rootQuietWrong : ChangeSpec := { name := "rootQuiet", fn := fun _ => fun
  | [d1, d2] => { results := [.lit (.bool false)], args := [d1, d2] }
  | _ => none }
def RootQuietWrongFalsely : Prop := rootQuietRow.holds Try.pinned (OpenSpec.ofChange rootQuietWrong)

/-- 'heijunkalaw08.RootOnly': WHATEVER THE INPUT: true; the input reads as it did. -/
def rootOnlySpec : ChangeSpec := { name := "rootOnly", fn := fun _ => fun
  | [d] => { results := [.lit (.bool true)], args := [d] }
  | _ => none }
def rootOnlyRow : OpenClaim := { program := "yteeomidlnijfbaa", sum := "51bdc24c26359d5396166cce55fe2e4c3d7f80813579c8cf5388c76966e45976", func := "heijunka/heijunkalaw08.RootOnly", spec := "rootOnly", inPlace := ["internal/bytealg.Count", "internal/bytealg.IndexByte", "internal/bytealg.Index"], named := ["internal/bytealg.MaxLen"], apart := false }
def RootOnlySaid : Prop := rootOnlyRow.holds Try.pinned (OpenSpec.ofChange rootOnlySpec)

/-- ITS FALSE NEIGHBOUR: 'it returns false'. Refute it at one input. -/
def rootOnlyWrong : ChangeSpec := { name := "rootOnly", fn := fun _ => fun
  | [d] => { results := [.lit (.bool false)], args := [d] }
  | _ => none }
def RootOnlyWrongFalsely : Prop := rootOnlyRow.holds Try.pinned (OpenSpec.ofChange rootOnlyWrong)

/- THE SECOND FORM. 'bulk': how many values and letters a reading holds, each counted each time it is reached (what is shared counts as often as it is met; a slice's spare places count too). A statement '..UptoSaid' is the law's where the arguments, and the package variables that the reading takes, are together of bulk at most 1048576: NARROWER than '..Said'. Prove '..Said' where nothing that the law and all that it calls make is longer than what came in: it says more and counts as full. Else prove '..UptoSaid'. A law counts once. -/
mutual
def uptoBulk {H : Type} : DataW H → Nat
  | .lit (.string bytes) => bytes.length + 1
  | .lit _ => 1
  | .nil => 1
  | .ptr d => uptoBulk d + 1
  | .slice elems spare => uptoBulkAll elems + uptoBulkAll spare + 1
  | .agg parts => uptoBulkAll parts + 1
  | .iface _ d => uptoBulk d + 1
  | .map entries => uptoBulkEntries entries + 1
  | .held _ => 1
def uptoBulkAll {H : Type} : List (DataW H) → Nat
  | [] => 0
  | d :: r => uptoBulk d + uptoBulkAll r
def uptoBulkEntries {H : Type} : List (Lit × DataW H) → Nat
  | [] => 0
  | x :: r => uptoBulkEntry x + uptoBulkEntries r
def uptoBulkEntry {H : Type} : Lit × DataW H → Nat
  | (.string bytes, d) => bytes.length + uptoBulk d + 1
  | (_, d) => uptoBulk d + 1
 end
def uptoSmall : (H : Type) → List (DataW H) → Bool := fun _ ds => decide (uptoBulkAll ds ≤ 1048576)
def OpenSpec.upto (s : _root_.Go.ChangeSpec) : _root_.Go.OpenSpec := { _root_.Go.OpenSpec.ofChange s with cond := some uptoSmall }

/-- 'heijunkalaw07.SegKeeps', WHERE WHAT IT READS IS OF BULK AT MOST 1048576: true; the input reads as it did. -/
def segKeepsUptoRow : OpenClaim := { program := "yteeomidlnijfbaa", sum := "51bdc24c26359d5396166cce55fe2e4c3d7f80813579c8cf5388c76966e45976", func := "heijunka/heijunkalaw07.SegKeeps", spec := "segKeeps", inPlace := ["internal/bytealg.Count", "internal/bytealg.IndexByte", "internal/bytealg.Index"], unfollowed := true, recurses := true, named := ["internal/bytealg.MaxLen"], apart := false, narrowed := true }
def SegKeepsUptoSaid : Prop := segKeepsUptoRow.holds Try.pinned (OpenSpec.upto segKeepsSpec)

/-- 'heijunkalaw07.SegFills', WHERE WHAT IT READS IS OF BULK AT MOST 1048576: true; the input reads as it did. -/
def segFillsUptoRow : OpenClaim := { program := "yteeomidlnijfbaa", sum := "51bdc24c26359d5396166cce55fe2e4c3d7f80813579c8cf5388c76966e45976", func := "heijunka/heijunkalaw07.SegFills", spec := "segFills", inPlace := ["internal/bytealg.Count", "internal/bytealg.IndexByte", "internal/bytealg.Index"], unfollowed := true, recurses := true, named := ["internal/bytealg.MaxLen"], apart := false, narrowed := true }
def SegFillsUptoSaid : Prop := segFillsUptoRow.holds Try.pinned (OpenSpec.upto segFillsSpec)

/-- 'heijunkalaw07.SegTorn', WHERE WHAT IT READS IS OF BULK AT MOST 1048576: true; the input reads as it did. -/
def segTornUptoRow : OpenClaim := { program := "yteeomidlnijfbaa", sum := "51bdc24c26359d5396166cce55fe2e4c3d7f80813579c8cf5388c76966e45976", func := "heijunka/heijunkalaw07.SegTorn", spec := "segTorn", inPlace := ["internal/bytealg.Count", "internal/bytealg.IndexByte", "internal/bytealg.Index"], unfollowed := true, recurses := true, named := ["internal/bytealg.MaxLen"], apart := false, narrowed := true }
def SegTornUptoSaid : Prop := segTornUptoRow.holds Try.pinned (OpenSpec.upto segTornSpec)

/-- 'heijunkalaw08.RootPlays', WHERE WHAT IT READS IS OF BULK AT MOST 1048576: true; the input reads as it did. -/
def rootPlaysUptoRow : OpenClaim := { program := "yteeomidlnijfbaa", sum := "51bdc24c26359d5396166cce55fe2e4c3d7f80813579c8cf5388c76966e45976", func := "heijunka/heijunkalaw08.RootPlays", spec := "rootPlays", inPlace := ["internal/bytealg.Count", "internal/bytealg.IndexByte", "internal/bytealg.Index"], named := ["internal/bytealg.MaxLen"], apart := false, narrowed := true }
def RootPlaysUptoSaid : Prop := rootPlaysUptoRow.holds Try.pinned (OpenSpec.upto rootPlaysSpec)

/-- 'heijunkalaw08.RootFlips', WHERE WHAT IT READS IS OF BULK AT MOST 1048576: true; the input reads as it did. -/
def rootFlipsUptoRow : OpenClaim := { program := "yteeomidlnijfbaa", sum := "51bdc24c26359d5396166cce55fe2e4c3d7f80813579c8cf5388c76966e45976", func := "heijunka/heijunkalaw08.RootFlips", spec := "rootFlips", inPlace := ["internal/bytealg.Count", "internal/bytealg.IndexByte", "internal/bytealg.Index"], named := ["internal/bytealg.MaxLen"], apart := false, narrowed := true }
def RootFlipsUptoSaid : Prop := rootFlipsUptoRow.holds Try.pinned (OpenSpec.upto rootFlipsSpec)

/-- 'heijunkalaw08.RootSlots', WHERE WHAT IT READS IS OF BULK AT MOST 1048576: true; the input reads as it did. -/
def rootSlotsUptoRow : OpenClaim := { program := "yteeomidlnijfbaa", sum := "51bdc24c26359d5396166cce55fe2e4c3d7f80813579c8cf5388c76966e45976", func := "heijunka/heijunkalaw08.RootSlots", spec := "rootSlots", inPlace := ["internal/bytealg.Count", "internal/bytealg.IndexByte", "internal/bytealg.Index"], named := ["internal/bytealg.MaxLen"], apart := false, narrowed := true }
def RootSlotsUptoSaid : Prop := rootSlotsUptoRow.holds Try.pinned (OpenSpec.upto rootSlotsSpec)

/-- 'heijunkalaw08.RootQuiet', WHERE WHAT IT READS IS OF BULK AT MOST 1048576: true; the input reads as it did. -/
def rootQuietUptoRow : OpenClaim := { program := "yteeomidlnijfbaa", sum := "51bdc24c26359d5396166cce55fe2e4c3d7f80813579c8cf5388c76966e45976", func := "heijunka/heijunkalaw08.RootQuiet", spec := "rootQuiet", inPlace := ["internal/bytealg.Count", "internal/bytealg.IndexByte", "internal/bytealg.Index"], named := ["internal/bytealg.MaxLen"], apart := false, narrowed := true }
def RootQuietUptoSaid : Prop := rootQuietUptoRow.holds Try.pinned (OpenSpec.upto rootQuietSpec)

/-- 'heijunkalaw08.RootOnly', WHERE WHAT IT READS IS OF BULK AT MOST 1048576: true; the input reads as it did. -/
def rootOnlyUptoRow : OpenClaim := { program := "yteeomidlnijfbaa", sum := "51bdc24c26359d5396166cce55fe2e4c3d7f80813579c8cf5388c76966e45976", func := "heijunka/heijunkalaw08.RootOnly", spec := "rootOnly", inPlace := ["internal/bytealg.Count", "internal/bytealg.IndexByte", "internal/bytealg.Index"], named := ["internal/bytealg.MaxLen"], apart := false, narrowed := true }
def RootOnlyUptoSaid : Prop := rootOnlyUptoRow.holds Try.pinned (OpenSpec.upto rootOnlySpec)

end Rows
end Go.Proofs.Yteeomidlnijfbaa
