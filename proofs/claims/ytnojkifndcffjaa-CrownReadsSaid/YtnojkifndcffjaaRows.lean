/-
  No cell of these rows narrows 'for every input' (looked for: loops, veiled, ifaces, maps, wideKeys, modest, calm, conditions, laid).
  DERIVED. THE GIVEN ROWS OF THIS SEAT. 4 by the template 'for every input the law returns true; each argument reads behind the call as it read before'; 0 by the template 'total and deterministic' (their statements: YtnojkifndcffjaaTotals.lean).
  GIVEN WITH THE SEED: the statements are not yours to turn. If you find one false, say at which input.
  Laid BY PROGRAM, IN A SANDBOX (cutbox-rows.mjs): the forced cells as the released guide's own fill.sh prints them over the translation 63b4f85528e390bf… (all of the seat's roots in one cut). By AI agents, Wed Nov 11 2026. No macro, syntax, notation, axiom, sorry.
-/
import Derived.Test.YtnojkifndcffjaaChecked
import GoSem.Claim
import GoSem.ClaimJoined
import GoSem.ClaimMapViews
import Derived.JoinedTies
import Derived.KernelRfl
namespace Go.Proofs.Ytnojkifndcffjaa
/- THE CELL 'sum', in the pinned program and in every row, IS THE sha256 OF THE DUMP (.gsa) THAT YtnojkifndcffjaaProg.lean LOADS. Nothing in Lean hashes anything: it is a label: what it is worth is what the hold of that sum in a sandbox is worth. -/
noncomputable def Try.pinned : Pinned := { name := "ytnojkifndcffjaa", sum := "63b4f85528e390bf38a9fad584f6aada3f7ab29c4efcabf7879101c976e48ab9", checked := Try.checked }
namespace Rows
def none {H : Type} : Left H := { results := [], args := [] }

/-- 'hourglasslaw04.CrownReads': WHATEVER THE INPUT: true; the input reads as it did. -/
def crownReadsSpec : ChangeSpec := { name := "crownReads", fn := fun _ => fun
  | [d1, d2, d3, d4, d5, d6] => { results := [.lit (.bool true)], args := [d1, d2, d3, d4, d5, d6] }
  | _ => none }
def crownReadsRow : OpenClaim := { program := "ytnojkifndcffjaa", sum := "63b4f85528e390bf38a9fad584f6aada3f7ab29c4efcabf7879101c976e48ab9", func := "hourglass/hourglasslaw04.CrownReads", spec := "crownReads", apart := false }
def CrownReadsSaid : Prop := crownReadsRow.holds Try.pinned (OpenSpec.ofChange crownReadsSpec)

/-- ITS FALSE NEIGHBOUR: 'it returns false'. Refute it at one input. -/
def crownReadsWrong : ChangeSpec := { name := "crownReads", fn := fun _ => fun
  | [d1, d2, d3, d4, d5, d6] => { results := [.lit (.bool false)], args := [d1, d2, d3, d4, d5, d6] }
  | _ => none }
def CrownReadsWrongFalsely : Prop := crownReadsRow.holds Try.pinned (OpenSpec.ofChange crownReadsWrong)

/-- 'hourglasslaw04.CrownHolds': WHATEVER THE INPUT: true; the input reads as it did. -/
def crownHoldsSpec : ChangeSpec := { name := "crownHolds", fn := fun _ => fun
  | [d1, d2, d3] => { results := [.lit (.bool true)], args := [d1, d2, d3] }
  | _ => none }
def crownHoldsRow : OpenClaim := { program := "ytnojkifndcffjaa", sum := "63b4f85528e390bf38a9fad584f6aada3f7ab29c4efcabf7879101c976e48ab9", func := "hourglass/hourglasslaw04.CrownHolds", spec := "crownHolds", apart := false }
def CrownHoldsSaid : Prop := crownHoldsRow.holds Try.pinned (OpenSpec.ofChange crownHoldsSpec)

/-- ITS FALSE NEIGHBOUR: 'it returns false'. Refute it at one input. -/
def crownHoldsWrong : ChangeSpec := { name := "crownHolds", fn := fun _ => fun
  | [d1, d2, d3] => { results := [.lit (.bool false)], args := [d1, d2, d3] }
  | _ => none }
def CrownHoldsWrongFalsely : Prop := crownHoldsRow.holds Try.pinned (OpenSpec.ofChange crownHoldsWrong)

/-- 'hourglasslaw04.CrownFormats': WHATEVER THE INPUT: true; the input reads as it did. -/
def crownFormatsSpec : ChangeSpec := { name := "crownFormats", fn := fun _ => fun
  | [d1, d2, d3] => { results := [.lit (.bool true)], args := [d1, d2, d3] }
  | _ => none }
def crownFormatsRow : OpenClaim := { program := "ytnojkifndcffjaa", sum := "63b4f85528e390bf38a9fad584f6aada3f7ab29c4efcabf7879101c976e48ab9", func := "hourglass/hourglasslaw04.CrownFormats", spec := "crownFormats", apart := false }
def CrownFormatsSaid : Prop := crownFormatsRow.holds Try.pinned (OpenSpec.ofChange crownFormatsSpec)

/-- ITS FALSE NEIGHBOUR: 'it returns false'. Refute it at one input. -/
def crownFormatsWrong : ChangeSpec := { name := "crownFormats", fn := fun _ => fun
  | [d1, d2, d3] => { results := [.lit (.bool false)], args := [d1, d2, d3] }
  | _ => none }
def CrownFormatsWrongFalsely : Prop := crownFormatsRow.holds Try.pinned (OpenSpec.ofChange crownFormatsWrong)

/-- 'hourglasslaw04.CrownRots': WHATEVER THE INPUT: true; the input reads as it did. -/
def crownRotsSpec : ChangeSpec := { name := "crownRots", fn := fun _ => fun
  | [d1, d2, d3, d4] => { results := [.lit (.bool true)], args := [d1, d2, d3, d4] }
  | _ => none }
def crownRotsRow : OpenClaim := { program := "ytnojkifndcffjaa", sum := "63b4f85528e390bf38a9fad584f6aada3f7ab29c4efcabf7879101c976e48ab9", func := "hourglass/hourglasslaw04.CrownRots", spec := "crownRots", apart := false }
def CrownRotsSaid : Prop := crownRotsRow.holds Try.pinned (OpenSpec.ofChange crownRotsSpec)

/-- ITS FALSE NEIGHBOUR: 'it returns false'. Refute it at one input. -/
def crownRotsWrong : ChangeSpec := { name := "crownRots", fn := fun _ => fun
  | [d1, d2, d3, d4] => { results := [.lit (.bool false)], args := [d1, d2, d3, d4] }
  | _ => none }
def CrownRotsWrongFalsely : Prop := crownRotsRow.holds Try.pinned (OpenSpec.ofChange crownRotsWrong)

/- THE SECOND FORM. 'bulk': how many values and letters a reading holds, each counted each time it is reached (what is shared counts as often as it is met; a slice's spare places count too). A statement '..UptoSaid' is the law's where the arguments, and the package variables that the reading takes, are together of bulk at most 1048576: NARROWER than '..Said'. Prove '..Said' where nothing that the law and all that it calls make is longer than what came in: it says more and counts as full. Else prove '..UptoSaid'. A law counts once. -/
mutual
def uptoBulk {H : Type} : DataW H → Nat
  | .lit (.string bytes) => bytes.length + 1
  | .lit _ => 1
  | .nil => 1
  | .ptr d => uptoBulk d + 1
  | .slice elems spare => uptoBulkAll elems + uptoBulkAll spare + 1
  | .agg parts => uptoBulkAll parts + 1
  | .iface _ d => uptoBulk d + 1
  | .map entries => uptoBulkEntries entries + 1
  | .held _ => 1
def uptoBulkAll {H : Type} : List (DataW H) → Nat
  | [] => 0
  | d :: r => uptoBulk d + uptoBulkAll r
def uptoBulkEntries {H : Type} : List (Lit × DataW H) → Nat
  | [] => 0
  | x :: r => uptoBulkEntry x + uptoBulkEntries r
def uptoBulkEntry {H : Type} : Lit × DataW H → Nat
  | (.string bytes, d) => bytes.length + uptoBulk d + 1
  | (_, d) => uptoBulk d + 1
 end
def uptoSmall : (H : Type) → List (DataW H) → Bool := fun _ ds => decide (uptoBulkAll ds ≤ 1048576)
def OpenSpec.upto (s : _root_.Go.ChangeSpec) : _root_.Go.OpenSpec := { _root_.Go.OpenSpec.ofChange s with cond := some uptoSmall }

/-- 'hourglasslaw04.CrownReads', WHERE WHAT IT READS IS OF BULK AT MOST 1048576: true; the input reads as it did. -/
def crownReadsUptoRow : OpenClaim := { program := "ytnojkifndcffjaa", sum := "63b4f85528e390bf38a9fad584f6aada3f7ab29c4efcabf7879101c976e48ab9", func := "hourglass/hourglasslaw04.CrownReads", spec := "crownReads", apart := false, narrowed := true }
def CrownReadsUptoSaid : Prop := crownReadsUptoRow.holds Try.pinned (OpenSpec.upto crownReadsSpec)

/-- 'hourglasslaw04.CrownHolds', WHERE WHAT IT READS IS OF BULK AT MOST 1048576: true; the input reads as it did. -/
def crownHoldsUptoRow : OpenClaim := { program := "ytnojkifndcffjaa", sum := "63b4f85528e390bf38a9fad584f6aada3f7ab29c4efcabf7879101c976e48ab9", func := "hourglass/hourglasslaw04.CrownHolds", spec := "crownHolds", apart := false, narrowed := true }
def CrownHoldsUptoSaid : Prop := crownHoldsUptoRow.holds Try.pinned (OpenSpec.upto crownHoldsSpec)

/-- 'hourglasslaw04.CrownFormats', WHERE WHAT IT READS IS OF BULK AT MOST 1048576: true; the input reads as it did. -/
def crownFormatsUptoRow : OpenClaim := { program := "ytnojkifndcffjaa", sum := "63b4f85528e390bf38a9fad584f6aada3f7ab29c4efcabf7879101c976e48ab9", func := "hourglass/hourglasslaw04.CrownFormats", spec := "crownFormats", apart := false, narrowed := true }
def CrownFormatsUptoSaid : Prop := crownFormatsUptoRow.holds Try.pinned (OpenSpec.upto crownFormatsSpec)

/-- 'hourglasslaw04.CrownRots', WHERE WHAT IT READS IS OF BULK AT MOST 1048576: true; the input reads as it did. -/
def crownRotsUptoRow : OpenClaim := { program := "ytnojkifndcffjaa", sum := "63b4f85528e390bf38a9fad584f6aada3f7ab29c4efcabf7879101c976e48ab9", func := "hourglass/hourglasslaw04.CrownRots", spec := "crownRots", apart := false, narrowed := true }
def CrownRotsUptoSaid : Prop := crownRotsUptoRow.holds Try.pinned (OpenSpec.upto crownRotsSpec)

end Rows
end Go.Proofs.Ytnojkifndcffjaa
