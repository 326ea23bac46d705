/-
  No cell of these rows narrows 'for every input' (looked for: loops, veiled, ifaces, maps, wideKeys, modest, calm, conditions, laid).
  DERIVED. THE GIVEN ROWS OF THIS SEAT. 7 by the template 'for every input the law returns true; each argument reads behind the call as it read before'; 0 by the template 'total and deterministic' (their statements: YtalpippeelomjaaTotals.lean).
  GIVEN WITH THE SEED: the statements are not yours to turn. If you find one false, say at which input.
  Laid BY PROGRAM, IN A SANDBOX (cutbox-rows.mjs): the forced cells as the released guide's own fill.sh prints them over the translation 0b9175bc80522b9d… (all of the seat's roots in one cut). By AI agents, Wed Nov 11 2026. No macro, syntax, notation, axiom, sorry.
-/
import Derived.Test.YtalpippeelomjaaChecked
import GoSem.Claim
import GoSem.ClaimJoined
import GoSem.ClaimMapViews
import Derived.JoinedTies
import Derived.KernelRfl
namespace Go.Proofs.Ytalpippeelomjaa
/- THE CELL 'sum', in the pinned program and in every row, IS THE sha256 OF THE DUMP (.gsa) THAT YtalpippeelomjaaProg.lean LOADS. Nothing in Lean hashes anything: it is a label: what it is worth is what the hold of that sum in a sandbox is worth. -/
noncomputable def Try.pinned : Pinned := { name := "ytalpippeelomjaa", sum := "0b9175bc80522b9de348c3d58e548c3c5000cd91c7c80da5b70c27545acbf7c3", checked := Try.checked }
namespace Rows
def none {H : Type} : Left H := { results := [], args := [] }

/-- 'hourglasslaw06.ReelHolds': WHATEVER THE INPUT: true; the input reads as it did. -/
def reelHoldsSpec : ChangeSpec := { name := "reelHolds", fn := fun _ => fun
  | [d1, d2, d3] => { results := [.lit (.bool true)], args := [d1, d2, d3] }
  | _ => none }
def reelHoldsRow : OpenClaim := { program := "ytalpippeelomjaa", sum := "0b9175bc80522b9de348c3d58e548c3c5000cd91c7c80da5b70c27545acbf7c3", func := "hourglass/hourglasslaw06.ReelHolds", spec := "reelHolds", unfollowed := true, recurses := true, apart := false }
def ReelHoldsSaid : Prop := reelHoldsRow.holds Try.pinned (OpenSpec.ofChange reelHoldsSpec)

/-- ITS FALSE NEIGHBOUR: 'it returns false'. Refute it at one input. -/
def reelHoldsWrong : ChangeSpec := { name := "reelHolds", fn := fun _ => fun
  | [d1, d2, d3] => { results := [.lit (.bool false)], args := [d1, d2, d3] }
  | _ => none }
def ReelHoldsWrongFalsely : Prop := reelHoldsRow.holds Try.pinned (OpenSpec.ofChange reelHoldsWrong)

/-- 'hourglasslaw06.ReelReads': WHATEVER THE INPUT: true; the input reads as it did. -/
def reelReadsSpec : ChangeSpec := { name := "reelReads", fn := fun _ => fun
  | [d1, d2, d3, d4] => { results := [.lit (.bool true)], args := [d1, d2, d3, d4] }
  | _ => none }
def reelReadsRow : OpenClaim := { program := "ytalpippeelomjaa", sum := "0b9175bc80522b9de348c3d58e548c3c5000cd91c7c80da5b70c27545acbf7c3", func := "hourglass/hourglasslaw06.ReelReads", spec := "reelReads", unfollowed := true, recurses := true, apart := false }
def ReelReadsSaid : Prop := reelReadsRow.holds Try.pinned (OpenSpec.ofChange reelReadsSpec)

/-- ITS FALSE NEIGHBOUR: 'it returns false'. Refute it at one input. -/
def reelReadsWrong : ChangeSpec := { name := "reelReads", fn := fun _ => fun
  | [d1, d2, d3, d4] => { results := [.lit (.bool false)], args := [d1, d2, d3, d4] }
  | _ => none }
def ReelReadsWrongFalsely : Prop := reelReadsRow.holds Try.pinned (OpenSpec.ofChange reelReadsWrong)

/-- 'hourglasslaw06.ReelRots': WHATEVER THE INPUT: true; the input reads as it did. -/
def reelRotsSpec : ChangeSpec := { name := "reelRots", fn := fun _ => fun
  | [d1, d2, d3, d4, d5] => { results := [.lit (.bool true)], args := [d1, d2, d3, d4, d5] }
  | _ => none }
def reelRotsRow : OpenClaim := { program := "ytalpippeelomjaa", sum := "0b9175bc80522b9de348c3d58e548c3c5000cd91c7c80da5b70c27545acbf7c3", func := "hourglass/hourglasslaw06.ReelRots", spec := "reelRots", unfollowed := true, recurses := true, apart := false }
def ReelRotsSaid : Prop := reelRotsRow.holds Try.pinned (OpenSpec.ofChange reelRotsSpec)

/-- ITS FALSE NEIGHBOUR: 'it returns false'. Refute it at one input. -/
def reelRotsWrong : ChangeSpec := { name := "reelRots", fn := fun _ => fun
  | [d1, d2, d3, d4, d5] => { results := [.lit (.bool false)], args := [d1, d2, d3, d4, d5] }
  | _ => none }
def ReelRotsWrongFalsely : Prop := reelRotsRow.holds Try.pinned (OpenSpec.ofChange reelRotsWrong)

/-- 'hourglasslaw06.ReelRows': WHATEVER THE INPUT: true; the input reads as it did. -/
def reelRowsSpec : ChangeSpec := { name := "reelRows", fn := fun _ => fun
  | [d1, d2, d3] => { results := [.lit (.bool true)], args := [d1, d2, d3] }
  | _ => none }
def reelRowsRow : OpenClaim := { program := "ytalpippeelomjaa", sum := "0b9175bc80522b9de348c3d58e548c3c5000cd91c7c80da5b70c27545acbf7c3", func := "hourglass/hourglasslaw06.ReelRows", spec := "reelRows", unfollowed := true, recurses := true, apart := false }
def ReelRowsSaid : Prop := reelRowsRow.holds Try.pinned (OpenSpec.ofChange reelRowsSpec)

/-- ITS FALSE NEIGHBOUR: 'it returns false'. Refute it at one input. -/
def reelRowsWrong : ChangeSpec := { name := "reelRows", fn := fun _ => fun
  | [d1, d2, d3] => { results := [.lit (.bool false)], args := [d1, d2, d3] }
  | _ => none }
def ReelRowsWrongFalsely : Prop := reelRowsRow.holds Try.pinned (OpenSpec.ofChange reelRowsWrong)

/-- 'hourglasslaw06.ReelArgs': WHATEVER THE INPUT: true; the input reads as it did. -/
def reelArgsSpec : ChangeSpec := { name := "reelArgs", fn := fun _ => fun
  | [d1, d2, d3] => { results := [.lit (.bool true)], args := [d1, d2, d3] }
  | _ => none }
def reelArgsRow : OpenClaim := { program := "ytalpippeelomjaa", sum := "0b9175bc80522b9de348c3d58e548c3c5000cd91c7c80da5b70c27545acbf7c3", func := "hourglass/hourglasslaw06.ReelArgs", spec := "reelArgs", unfollowed := true, recurses := true, apart := false }
def ReelArgsSaid : Prop := reelArgsRow.holds Try.pinned (OpenSpec.ofChange reelArgsSpec)

/-- ITS FALSE NEIGHBOUR: 'it returns false'. Refute it at one input. -/
def reelArgsWrong : ChangeSpec := { name := "reelArgs", fn := fun _ => fun
  | [d1, d2, d3] => { results := [.lit (.bool false)], args := [d1, d2, d3] }
  | _ => none }
def ReelArgsWrongFalsely : Prop := reelArgsRow.holds Try.pinned (OpenSpec.ofChange reelArgsWrong)

/-- 'hourglasslaw06.ReelGoes': WHATEVER THE INPUT: true; the input reads as it did. -/
def reelGoesSpec : ChangeSpec := { name := "reelGoes", fn := fun _ => fun
  | [d1, d2, d3] => { results := [.lit (.bool true)], args := [d1, d2, d3] }
  | _ => none }
def reelGoesRow : OpenClaim := { program := "ytalpippeelomjaa", sum := "0b9175bc80522b9de348c3d58e548c3c5000cd91c7c80da5b70c27545acbf7c3", func := "hourglass/hourglasslaw06.ReelGoes", spec := "reelGoes", unfollowed := true, recurses := true, apart := false }
def ReelGoesSaid : Prop := reelGoesRow.holds Try.pinned (OpenSpec.ofChange reelGoesSpec)

/-- ITS FALSE NEIGHBOUR: 'it returns false'. Refute it at one input. -/
def reelGoesWrong : ChangeSpec := { name := "reelGoes", fn := fun _ => fun
  | [d1, d2, d3] => { results := [.lit (.bool false)], args := [d1, d2, d3] }
  | _ => none }
def ReelGoesWrongFalsely : Prop := reelGoesRow.holds Try.pinned (OpenSpec.ofChange reelGoesWrong)

/-- 'hourglasslaw06.ReelFull': WHATEVER THE INPUT: true; the input reads as it did. -/
def reelFullSpec : ChangeSpec := { name := "reelFull", fn := fun _ => fun
  | [d1, d2, d3] => { results := [.lit (.bool true)], args := [d1, d2, d3] }
  | _ => none }
def reelFullRow : OpenClaim := { program := "ytalpippeelomjaa", sum := "0b9175bc80522b9de348c3d58e548c3c5000cd91c7c80da5b70c27545acbf7c3", func := "hourglass/hourglasslaw06.ReelFull", spec := "reelFull", unfollowed := true, recurses := true, apart := false }
def ReelFullSaid : Prop := reelFullRow.holds Try.pinned (OpenSpec.ofChange reelFullSpec)

/-- ITS FALSE NEIGHBOUR: 'it returns false'. Refute it at one input. -/
def reelFullWrong : ChangeSpec := { name := "reelFull", fn := fun _ => fun
  | [d1, d2, d3] => { results := [.lit (.bool false)], args := [d1, d2, d3] }
  | _ => none }
def ReelFullWrongFalsely : Prop := reelFullRow.holds Try.pinned (OpenSpec.ofChange reelFullWrong)

/- THE SECOND FORM. 'bulk': how many values and letters a reading holds, each counted each time it is reached (what is shared counts as often as it is met; a slice's spare places count too). A statement '..UptoSaid' is the law's where the arguments, and the package variables that the reading takes, are together of bulk at most 1048576: NARROWER than '..Said'. Prove '..Said' where nothing that the law and all that it calls make is longer than what came in: it says more and counts as full. Else prove '..UptoSaid'. A law counts once. -/
mutual
def uptoBulk {H : Type} : DataW H → Nat
  | .lit (.string bytes) => bytes.length + 1
  | .lit _ => 1
  | .nil => 1
  | .ptr d => uptoBulk d + 1
  | .slice elems spare => uptoBulkAll elems + uptoBulkAll spare + 1
  | .agg parts => uptoBulkAll parts + 1
  | .iface _ d => uptoBulk d + 1
  | .map entries => uptoBulkEntries entries + 1
  | .held _ => 1
def uptoBulkAll {H : Type} : List (DataW H) → Nat
  | [] => 0
  | d :: r => uptoBulk d + uptoBulkAll r
def uptoBulkEntries {H : Type} : List (Lit × DataW H) → Nat
  | [] => 0
  | x :: r => uptoBulkEntry x + uptoBulkEntries r
def uptoBulkEntry {H : Type} : Lit × DataW H → Nat
  | (.string bytes, d) => bytes.length + uptoBulk d + 1
  | (_, d) => uptoBulk d + 1
 end
def uptoSmall : (H : Type) → List (DataW H) → Bool := fun _ ds => decide (uptoBulkAll ds ≤ 1048576)
def OpenSpec.upto (s : _root_.Go.ChangeSpec) : _root_.Go.OpenSpec := { _root_.Go.OpenSpec.ofChange s with cond := some uptoSmall }

/-- 'hourglasslaw06.ReelHolds', WHERE WHAT IT READS IS OF BULK AT MOST 1048576: true; the input reads as it did. -/
def reelHoldsUptoRow : OpenClaim := { program := "ytalpippeelomjaa", sum := "0b9175bc80522b9de348c3d58e548c3c5000cd91c7c80da5b70c27545acbf7c3", func := "hourglass/hourglasslaw06.ReelHolds", spec := "reelHolds", unfollowed := true, recurses := true, apart := false, narrowed := true }
def ReelHoldsUptoSaid : Prop := reelHoldsUptoRow.holds Try.pinned (OpenSpec.upto reelHoldsSpec)

/-- 'hourglasslaw06.ReelReads', WHERE WHAT IT READS IS OF BULK AT MOST 1048576: true; the input reads as it did. -/
def reelReadsUptoRow : OpenClaim := { program := "ytalpippeelomjaa", sum := "0b9175bc80522b9de348c3d58e548c3c5000cd91c7c80da5b70c27545acbf7c3", func := "hourglass/hourglasslaw06.ReelReads", spec := "reelReads", unfollowed := true, recurses := true, apart := false, narrowed := true }
def ReelReadsUptoSaid : Prop := reelReadsUptoRow.holds Try.pinned (OpenSpec.upto reelReadsSpec)

/-- 'hourglasslaw06.ReelRots', WHERE WHAT IT READS IS OF BULK AT MOST 1048576: true; the input reads as it did. -/
def reelRotsUptoRow : OpenClaim := { program := "ytalpippeelomjaa", sum := "0b9175bc80522b9de348c3d58e548c3c5000cd91c7c80da5b70c27545acbf7c3", func := "hourglass/hourglasslaw06.ReelRots", spec := "reelRots", unfollowed := true, recurses := true, apart := false, narrowed := true }
def ReelRotsUptoSaid : Prop := reelRotsUptoRow.holds Try.pinned (OpenSpec.upto reelRotsSpec)

/-- 'hourglasslaw06.ReelRows', WHERE WHAT IT READS IS OF BULK AT MOST 1048576: true; the input reads as it did. -/
def reelRowsUptoRow : OpenClaim := { program := "ytalpippeelomjaa", sum := "0b9175bc80522b9de348c3d58e548c3c5000cd91c7c80da5b70c27545acbf7c3", func := "hourglass/hourglasslaw06.ReelRows", spec := "reelRows", unfollowed := true, recurses := true, apart := false, narrowed := true }
def ReelRowsUptoSaid : Prop := reelRowsUptoRow.holds Try.pinned (OpenSpec.upto reelRowsSpec)

/-- 'hourglasslaw06.ReelArgs', WHERE WHAT IT READS IS OF BULK AT MOST 1048576: true; the input reads as it did. -/
def reelArgsUptoRow : OpenClaim := { program := "ytalpippeelomjaa", sum := "0b9175bc80522b9de348c3d58e548c3c5000cd91c7c80da5b70c27545acbf7c3", func := "hourglass/hourglasslaw06.ReelArgs", spec := "reelArgs", unfollowed := true, recurses := true, apart := false, narrowed := true }
def ReelArgsUptoSaid : Prop := reelArgsUptoRow.holds Try.pinned (OpenSpec.upto reelArgsSpec)

/-- 'hourglasslaw06.ReelGoes', WHERE WHAT IT READS IS OF BULK AT MOST 1048576: true; the input reads as it did. -/
def reelGoesUptoRow : OpenClaim := { program := "ytalpippeelomjaa", sum := "0b9175bc80522b9de348c3d58e548c3c5000cd91c7c80da5b70c27545acbf7c3", func := "hourglass/hourglasslaw06.ReelGoes", spec := "reelGoes", unfollowed := true, recurses := true, apart := false, narrowed := true }
def ReelGoesUptoSaid : Prop := reelGoesUptoRow.holds Try.pinned (OpenSpec.upto reelGoesSpec)

/-- 'hourglasslaw06.ReelFull', WHERE WHAT IT READS IS OF BULK AT MOST 1048576: true; the input reads as it did. -/
def reelFullUptoRow : OpenClaim := { program := "ytalpippeelomjaa", sum := "0b9175bc80522b9de348c3d58e548c3c5000cd91c7c80da5b70c27545acbf7c3", func := "hourglass/hourglasslaw06.ReelFull", spec := "reelFull", unfollowed := true, recurses := true, apart := false, narrowed := true }
def ReelFullUptoSaid : Prop := reelFullUptoRow.holds Try.pinned (OpenSpec.upto reelFullSpec)

end Rows
end Go.Proofs.Ytalpippeelomjaa
