/-
  No cell of these rows narrows 'for every input' (looked for: loops, veiled, ifaces, maps, wideKeys, modest, calm, conditions, laid).
  DERIVED. THE GIVEN ROWS OF THIS SEAT. 8 by the template 'for every input the law returns true; each argument reads behind the call as it read before'; 0 by the template 'total and deterministic' (their statements: YtgfafbanahiigaaTotals.lean).
  GIVEN WITH THE SEED: the statements are not yours to turn. If you find one false, say at which input.
  Laid BY PROGRAM, IN A SANDBOX (cutbox-rows.mjs): the forced cells as the released guide's own fill.sh prints them over the translation 8711f99df69a73e3… (all of the seat's roots in one cut). By AI agents, Wed Nov 11 2026. No macro, syntax, notation, axiom, sorry.
-/
import Derived.Test.YtgfafbanahiigaaChecked
import GoSem.Claim
import GoSem.ClaimJoined
import GoSem.ClaimMapViews
import Derived.JoinedTies
import Derived.KernelRfl
namespace Go.Proofs.Ytgfafbanahiigaa
/- THE CELL 'sum', in the pinned program and in every row, IS THE sha256 OF THE DUMP (.gsa) THAT YtgfafbanahiigaaProg.lean LOADS. Nothing in Lean hashes anything: it is a label: what it is worth is what the hold of that sum in a sandbox is worth. -/
noncomputable def Try.pinned : Pinned := { name := "ytgfafbanahiigaa", sum := "8711f99df69a73e3ec53f108edcdfd1c7be222a852047b1ea976d418d684bced", checked := Try.checked }
namespace Rows
def none {H : Type} : Left H := { results := [], args := [] }

/-- 'choruskeep.Placed': WHATEVER THE INPUT: true; the input reads as it did. -/
def placedSpec : ChangeSpec := { name := "placed", fn := fun _ => fun
  | [d] => { results := [.lit (.bool true)], args := [d] }
  | _ => none }
def placedRow : OpenClaim := { program := "ytgfafbanahiigaa", sum := "8711f99df69a73e3ec53f108edcdfd1c7be222a852047b1ea976d418d684bced", func := "chorus/choruskeep.Placed", spec := "placed", inPlace := ["slices.overlaps[chorus/row.element]", "internal/abi.NoEscape"], unfollowed := true, recurses := true, apart := false }
def PlacedSaid : Prop := placedRow.holds Try.pinned (OpenSpec.ofChange placedSpec)

/-- ITS FALSE NEIGHBOUR: 'it returns false'. Refute it at one input. -/
def placedWrong : ChangeSpec := { name := "placed", fn := fun _ => fun
  | [d] => { results := [.lit (.bool false)], args := [d] }
  | _ => none }
def PlacedWrongFalsely : Prop := placedRow.holds Try.pinned (OpenSpec.ofChange placedWrong)

/-- 'choruskeep.Alike': WHATEVER THE INPUT: true; the input reads as it did. -/
def alikeSpec : ChangeSpec := { name := "alike", fn := fun _ => fun
  | [d] => { results := [.lit (.bool true)], args := [d] }
  | _ => none }
def alikeRow : OpenClaim := { program := "ytgfafbanahiigaa", sum := "8711f99df69a73e3ec53f108edcdfd1c7be222a852047b1ea976d418d684bced", func := "chorus/choruskeep.Alike", spec := "alike", inPlace := ["slices.overlaps[chorus/row.element]", "internal/abi.NoEscape", "slices.overlaps[chorus/operation.Operation]"], unfollowed := true, recurses := true, apart := false }
def AlikeSaid : Prop := alikeRow.holds Try.pinned (OpenSpec.ofChange alikeSpec)

/-- ITS FALSE NEIGHBOUR: 'it returns false'. Refute it at one input. -/
def alikeWrong : ChangeSpec := { name := "alike", fn := fun _ => fun
  | [d] => { results := [.lit (.bool false)], args := [d] }
  | _ => none }
def AlikeWrongFalsely : Prop := alikeRow.holds Try.pinned (OpenSpec.ofChange alikeWrong)

/-- 'choruskeep.Ordered': WHATEVER THE INPUT: true; the input reads as it did. -/
def orderedSpec : ChangeSpec := { name := "ordered", fn := fun _ => fun
  | [d] => { results := [.lit (.bool true)], args := [d] }
  | _ => none }
def orderedRow : OpenClaim := { program := "ytgfafbanahiigaa", sum := "8711f99df69a73e3ec53f108edcdfd1c7be222a852047b1ea976d418d684bced", func := "chorus/choruskeep.Ordered", spec := "ordered", inPlace := ["slices.overlaps[chorus/row.element]", "internal/abi.NoEscape", "slices.overlaps[chorus/operation.Operation]"], unfollowed := true, recurses := true, apart := false }
def OrderedSaid : Prop := orderedRow.holds Try.pinned (OpenSpec.ofChange orderedSpec)

/-- ITS FALSE NEIGHBOUR: 'it returns false'. Refute it at one input. -/
def orderedWrong : ChangeSpec := { name := "ordered", fn := fun _ => fun
  | [d] => { results := [.lit (.bool false)], args := [d] }
  | _ => none }
def OrderedWrongFalsely : Prop := orderedRow.holds Try.pinned (OpenSpec.ofChange orderedWrong)

/-- 'choruskeep.Once': WHATEVER THE INPUT: true; the input reads as it did. -/
def onceSpec : ChangeSpec := { name := "once", fn := fun _ => fun
  | [d] => { results := [.lit (.bool true)], args := [d] }
  | _ => none }
def onceRow : OpenClaim := { program := "ytgfafbanahiigaa", sum := "8711f99df69a73e3ec53f108edcdfd1c7be222a852047b1ea976d418d684bced", func := "chorus/choruskeep.Once", spec := "once", inPlace := ["slices.overlaps[chorus/row.element]", "internal/abi.NoEscape", "slices.overlaps[chorus/operation.Operation]"], unfollowed := true, recurses := true, apart := false }
def OnceSaid : Prop := onceRow.holds Try.pinned (OpenSpec.ofChange onceSpec)

/-- ITS FALSE NEIGHBOUR: 'it returns false'. Refute it at one input. -/
def onceWrong : ChangeSpec := { name := "once", fn := fun _ => fun
  | [d] => { results := [.lit (.bool false)], args := [d] }
  | _ => none }
def OnceWrongFalsely : Prop := onceRow.holds Try.pinned (OpenSpec.ofChange onceWrong)

/-- 'choruskeep.Causal': WHATEVER THE INPUT: true; the input reads as it did. -/
def causalSpec : ChangeSpec := { name := "causal", fn := fun _ => fun
  | [d] => { results := [.lit (.bool true)], args := [d] }
  | _ => none }
def causalRow : OpenClaim := { program := "ytgfafbanahiigaa", sum := "8711f99df69a73e3ec53f108edcdfd1c7be222a852047b1ea976d418d684bced", func := "chorus/choruskeep.Causal", spec := "causal", inPlace := ["slices.overlaps[chorus/row.element]", "internal/abi.NoEscape", "slices.overlaps[chorus/operation.Operation]"], unfollowed := true, recurses := true, apart := false }
def CausalSaid : Prop := causalRow.holds Try.pinned (OpenSpec.ofChange causalSpec)

/-- ITS FALSE NEIGHBOUR: 'it returns false'. Refute it at one input. -/
def causalWrong : ChangeSpec := { name := "causal", fn := fun _ => fun
  | [d] => { results := [.lit (.bool false)], args := [d] }
  | _ => none }
def CausalWrongFalsely : Prop := causalRow.holds Try.pinned (OpenSpec.ofChange causalWrong)

/-- 'choruskeep.Spoilt': WHATEVER THE INPUT: true; the input reads as it did. -/
def spoiltSpec : ChangeSpec := { name := "spoilt", fn := fun _ => fun
  | [d1, d2, d3, d4, d5] => { results := [.lit (.bool true)], args := [d1, d2, d3, d4, d5] }
  | _ => none }
def spoiltRow : OpenClaim := { program := "ytgfafbanahiigaa", sum := "8711f99df69a73e3ec53f108edcdfd1c7be222a852047b1ea976d418d684bced", func := "chorus/choruskeep.Spoilt", spec := "spoilt", inPlace := ["slices.overlaps[chorus/row.element]", "internal/abi.NoEscape", "slices.overlaps[chorus/operation.Operation]"], unfollowed := true, recurses := true, apart := false }
def SpoiltSaid : Prop := spoiltRow.holds Try.pinned (OpenSpec.ofChange spoiltSpec)

/-- ITS FALSE NEIGHBOUR: 'it returns false'. Refute it at one input. -/
def spoiltWrong : ChangeSpec := { name := "spoilt", fn := fun _ => fun
  | [d1, d2, d3, d4, d5] => { results := [.lit (.bool false)], args := [d1, d2, d3, d4, d5] }
  | _ => none }
def SpoiltWrongFalsely : Prop := spoiltRow.holds Try.pinned (OpenSpec.ofChange spoiltWrong)

/-- 'choruskeep.Typed': WHATEVER THE INPUT: true; the input reads as it did. -/
def typedSpec : ChangeSpec := { name := "typed", fn := fun _ => fun
  | [d1, d2, d3] => { results := [.lit (.bool true)], args := [d1, d2, d3] }
  | _ => none }
def typedRow : OpenClaim := { program := "ytgfafbanahiigaa", sum := "8711f99df69a73e3ec53f108edcdfd1c7be222a852047b1ea976d418d684bced", func := "chorus/choruskeep.Typed", spec := "typed", inPlace := ["slices.overlaps[chorus/row.element]", "internal/abi.NoEscape", "slices.overlaps[chorus/operation.Operation]"], unfollowed := true, recurses := true, apart := false }
def TypedSaid : Prop := typedRow.holds Try.pinned (OpenSpec.ofChange typedSpec)

/-- ITS FALSE NEIGHBOUR: 'it returns false'. Refute it at one input. -/
def typedWrong : ChangeSpec := { name := "typed", fn := fun _ => fun
  | [d1, d2, d3] => { results := [.lit (.bool false)], args := [d1, d2, d3] }
  | _ => none }
def TypedWrongFalsely : Prop := typedRow.holds Try.pinned (OpenSpec.ofChange typedWrong)

/-- 'choruskeep.Converged': WHATEVER THE INPUT: true; the input reads as it did. -/
def convergedSpec : ChangeSpec := { name := "converged", fn := fun _ => fun
  | [d] => { results := [.lit (.bool true)], args := [d] }
  | _ => none }
def convergedRow : OpenClaim := { program := "ytgfafbanahiigaa", sum := "8711f99df69a73e3ec53f108edcdfd1c7be222a852047b1ea976d418d684bced", func := "chorus/choruskeep.Converged", spec := "converged", inPlace := ["slices.overlaps[chorus/row.element]", "internal/abi.NoEscape", "slices.overlaps[chorus/operation.Operation]"], unfollowed := true, recurses := true, apart := false }
def ConvergedSaid : Prop := convergedRow.holds Try.pinned (OpenSpec.ofChange convergedSpec)

/-- ITS FALSE NEIGHBOUR: 'it returns false'. Refute it at one input. -/
def convergedWrong : ChangeSpec := { name := "converged", fn := fun _ => fun
  | [d] => { results := [.lit (.bool false)], args := [d] }
  | _ => none }
def ConvergedWrongFalsely : Prop := convergedRow.holds Try.pinned (OpenSpec.ofChange convergedWrong)

/- THE SECOND FORM. 'bulk': how many values and letters a reading holds, each counted each time it is reached (what is shared counts as often as it is met; a slice's spare places count too). A statement '..UptoSaid' is the law's where the arguments, and the package variables that the reading takes, are together of bulk at most 1048576: NARROWER than '..Said'. Prove '..Said' where nothing that the law and all that it calls make is longer than what came in: it says more and counts as full. Else prove '..UptoSaid'. A law counts once. -/
mutual
def uptoBulk {H : Type} : DataW H → Nat
  | .lit (.string bytes) => bytes.length + 1
  | .lit _ => 1
  | .nil => 1
  | .ptr d => uptoBulk d + 1
  | .slice elems spare => uptoBulkAll elems + uptoBulkAll spare + 1
  | .agg parts => uptoBulkAll parts + 1
  | .iface _ d => uptoBulk d + 1
  | .map entries => uptoBulkEntries entries + 1
  | .held _ => 1
def uptoBulkAll {H : Type} : List (DataW H) → Nat
  | [] => 0
  | d :: r => uptoBulk d + uptoBulkAll r
def uptoBulkEntries {H : Type} : List (Lit × DataW H) → Nat
  | [] => 0
  | x :: r => uptoBulkEntry x + uptoBulkEntries r
def uptoBulkEntry {H : Type} : Lit × DataW H → Nat
  | (.string bytes, d) => bytes.length + uptoBulk d + 1
  | (_, d) => uptoBulk d + 1
 end
def uptoSmall : (H : Type) → List (DataW H) → Bool := fun _ ds => decide (uptoBulkAll ds ≤ 1048576)
def OpenSpec.upto (s : _root_.Go.ChangeSpec) : _root_.Go.OpenSpec := { _root_.Go.OpenSpec.ofChange s with cond := some uptoSmall }

/-- 'choruskeep.Placed', WHERE WHAT IT READS IS OF BULK AT MOST 1048576: true; the input reads as it did. -/
def placedUptoRow : OpenClaim := { program := "ytgfafbanahiigaa", sum := "8711f99df69a73e3ec53f108edcdfd1c7be222a852047b1ea976d418d684bced", func := "chorus/choruskeep.Placed", spec := "placed", inPlace := ["slices.overlaps[chorus/row.element]", "internal/abi.NoEscape"], unfollowed := true, recurses := true, apart := false, narrowed := true }
def PlacedUptoSaid : Prop := placedUptoRow.holds Try.pinned (OpenSpec.upto placedSpec)

/-- 'choruskeep.Alike', WHERE WHAT IT READS IS OF BULK AT MOST 1048576: true; the input reads as it did. -/
def alikeUptoRow : OpenClaim := { program := "ytgfafbanahiigaa", sum := "8711f99df69a73e3ec53f108edcdfd1c7be222a852047b1ea976d418d684bced", func := "chorus/choruskeep.Alike", spec := "alike", inPlace := ["slices.overlaps[chorus/row.element]", "internal/abi.NoEscape", "slices.overlaps[chorus/operation.Operation]"], unfollowed := true, recurses := true, apart := false, narrowed := true }
def AlikeUptoSaid : Prop := alikeUptoRow.holds Try.pinned (OpenSpec.upto alikeSpec)

/-- 'choruskeep.Ordered', WHERE WHAT IT READS IS OF BULK AT MOST 1048576: true; the input reads as it did. -/
def orderedUptoRow : OpenClaim := { program := "ytgfafbanahiigaa", sum := "8711f99df69a73e3ec53f108edcdfd1c7be222a852047b1ea976d418d684bced", func := "chorus/choruskeep.Ordered", spec := "ordered", inPlace := ["slices.overlaps[chorus/row.element]", "internal/abi.NoEscape", "slices.overlaps[chorus/operation.Operation]"], unfollowed := true, recurses := true, apart := false, narrowed := true }
def OrderedUptoSaid : Prop := orderedUptoRow.holds Try.pinned (OpenSpec.upto orderedSpec)

/-- 'choruskeep.Once', WHERE WHAT IT READS IS OF BULK AT MOST 1048576: true; the input reads as it did. -/
def onceUptoRow : OpenClaim := { program := "ytgfafbanahiigaa", sum := "8711f99df69a73e3ec53f108edcdfd1c7be222a852047b1ea976d418d684bced", func := "chorus/choruskeep.Once", spec := "once", inPlace := ["slices.overlaps[chorus/row.element]", "internal/abi.NoEscape", "slices.overlaps[chorus/operation.Operation]"], unfollowed := true, recurses := true, apart := false, narrowed := true }
def OnceUptoSaid : Prop := onceUptoRow.holds Try.pinned (OpenSpec.upto onceSpec)

/-- 'choruskeep.Causal', WHERE WHAT IT READS IS OF BULK AT MOST 1048576: true; the input reads as it did. -/
def causalUptoRow : OpenClaim := { program := "ytgfafbanahiigaa", sum := "8711f99df69a73e3ec53f108edcdfd1c7be222a852047b1ea976d418d684bced", func := "chorus/choruskeep.Causal", spec := "causal", inPlace := ["slices.overlaps[chorus/row.element]", "internal/abi.NoEscape", "slices.overlaps[chorus/operation.Operation]"], unfollowed := true, recurses := true, apart := false, narrowed := true }
def CausalUptoSaid : Prop := causalUptoRow.holds Try.pinned (OpenSpec.upto causalSpec)

/-- 'choruskeep.Spoilt', WHERE WHAT IT READS IS OF BULK AT MOST 1048576: true; the input reads as it did. -/
def spoiltUptoRow : OpenClaim := { program := "ytgfafbanahiigaa", sum := "8711f99df69a73e3ec53f108edcdfd1c7be222a852047b1ea976d418d684bced", func := "chorus/choruskeep.Spoilt", spec := "spoilt", inPlace := ["slices.overlaps[chorus/row.element]", "internal/abi.NoEscape", "slices.overlaps[chorus/operation.Operation]"], unfollowed := true, recurses := true, apart := false, narrowed := true }
def SpoiltUptoSaid : Prop := spoiltUptoRow.holds Try.pinned (OpenSpec.upto spoiltSpec)

/-- 'choruskeep.Typed', WHERE WHAT IT READS IS OF BULK AT MOST 1048576: true; the input reads as it did. -/
def typedUptoRow : OpenClaim := { program := "ytgfafbanahiigaa", sum := "8711f99df69a73e3ec53f108edcdfd1c7be222a852047b1ea976d418d684bced", func := "chorus/choruskeep.Typed", spec := "typed", inPlace := ["slices.overlaps[chorus/row.element]", "internal/abi.NoEscape", "slices.overlaps[chorus/operation.Operation]"], unfollowed := true, recurses := true, apart := false, narrowed := true }
def TypedUptoSaid : Prop := typedUptoRow.holds Try.pinned (OpenSpec.upto typedSpec)

/-- 'choruskeep.Converged', WHERE WHAT IT READS IS OF BULK AT MOST 1048576: true; the input reads as it did. -/
def convergedUptoRow : OpenClaim := { program := "ytgfafbanahiigaa", sum := "8711f99df69a73e3ec53f108edcdfd1c7be222a852047b1ea976d418d684bced", func := "chorus/choruskeep.Converged", spec := "converged", inPlace := ["slices.overlaps[chorus/row.element]", "internal/abi.NoEscape", "slices.overlaps[chorus/operation.Operation]"], unfollowed := true, recurses := true, apart := false, narrowed := true }
def ConvergedUptoSaid : Prop := convergedUptoRow.holds Try.pinned (OpenSpec.upto convergedSpec)

end Rows
end Go.Proofs.Ytgfafbanahiigaa
