/-
  No cell of these rows narrows 'for every input' (looked for: loops, veiled, ifaces, maps, wideKeys, modest, calm, conditions, laid).
  DERIVED. THE GIVEN ROWS OF THIS SEAT. 3 by the template 'for every input the law returns true; each argument reads behind the call as it read before'; 0 by the template 'total and deterministic' (their statements: YtfiaongnogiegaaTotals.lean).
  GIVEN WITH THE SEED: the statements are not yours to turn. If you find one false, say at which input.
  Laid BY PROGRAM, IN A SANDBOX (cutbox-rows.mjs): the forced cells as the released guide's own fill.sh prints them over the translation b80aa0366675d2a7… (all of the seat's roots in one cut). By AI agents, Wed Nov 11 2026. No macro, syntax, notation, axiom, sorry.
-/
import Derived.Test.YtfiaongnogiegaaChecked
import GoSem.Claim
import GoSem.ClaimJoined
import GoSem.ClaimMapViews
import Derived.JoinedTies
import Derived.KernelRfl
namespace Go.Proofs.Ytfiaongnogiegaa
/- THE CELL 'sum', in the pinned program and in every row, IS THE sha256 OF THE DUMP (.gsa) THAT YtfiaongnogiegaaProg.lean LOADS. Nothing in Lean hashes anything: it is a label: what it is worth is what the hold of that sum in a sandbox is worth. -/
noncomputable def Try.pinned : Pinned := { name := "ytfiaongnogiegaa", sum := "b80aa0366675d2a7add14ecd008ccb983178723739c8a6ab5c00b6049e0bd368", checked := Try.checked }
namespace Rows
def none {H : Type} : Left H := { results := [], args := [] }

/-- 'widgetrylaw07.FontRaw': WHATEVER THE INPUT: true; the input reads as it did. -/
def fontRawSpec : ChangeSpec := { name := "fontRaw", fn := fun _ => fun
  | [d1, d2, d3, d4] => { results := [.lit (.bool true)], args := [d1, d2, d3, d4] }
  | _ => none }
def fontRawRow : OpenClaim := { program := "ytfiaongnogiegaa", sum := "b80aa0366675d2a7add14ecd008ccb983178723739c8a6ab5c00b6049e0bd368", func := "widgetry/widgetrylaw07.FontRaw", spec := "fontRaw", unfollowed := true, recurses := true, apart := false }
def FontRawSaid : Prop := fontRawRow.holds Try.pinned (OpenSpec.ofChange fontRawSpec)

/-- ITS FALSE NEIGHBOUR: 'it returns false'. Refute it at one input. -/
def fontRawWrong : ChangeSpec := { name := "fontRaw", fn := fun _ => fun
  | [d1, d2, d3, d4] => { results := [.lit (.bool false)], args := [d1, d2, d3, d4] }
  | _ => none }
def FontRawWrongFalsely : Prop := fontRawRow.holds Try.pinned (OpenSpec.ofChange fontRawWrong)

/-- 'widgetrylaw07.FontBuilt': WHATEVER THE INPUT: true; the input reads as it did. -/
def fontBuiltSpec : ChangeSpec := { name := "fontBuilt", fn := fun _ => fun
  | [d] => { results := [.lit (.bool true)], args := [d] }
  | _ => none }
def fontBuiltRow : OpenClaim := { program := "ytfiaongnogiegaa", sum := "b80aa0366675d2a7add14ecd008ccb983178723739c8a6ab5c00b6049e0bd368", func := "widgetry/widgetrylaw07.FontBuilt", spec := "fontBuilt", unfollowed := true, recurses := true, apart := false }
def FontBuiltSaid : Prop := fontBuiltRow.holds Try.pinned (OpenSpec.ofChange fontBuiltSpec)

/-- ITS FALSE NEIGHBOUR: 'it returns false'. Refute it at one input. -/
def fontBuiltWrong : ChangeSpec := { name := "fontBuilt", fn := fun _ => fun
  | [d] => { results := [.lit (.bool false)], args := [d] }
  | _ => none }
def FontBuiltWrongFalsely : Prop := fontBuiltRow.holds Try.pinned (OpenSpec.ofChange fontBuiltWrong)

/-- 'widgetrylaw07.FontScales': WHATEVER THE INPUT: true; the input reads as it did. -/
def fontScalesSpec : ChangeSpec := { name := "fontScales", fn := fun _ => fun
  | [d] => { results := [.lit (.bool true)], args := [d] }
  | _ => none }
def fontScalesRow : OpenClaim := { program := "ytfiaongnogiegaa", sum := "b80aa0366675d2a7add14ecd008ccb983178723739c8a6ab5c00b6049e0bd368", func := "widgetry/widgetrylaw07.FontScales", spec := "fontScales", unfollowed := true, recurses := true, apart := false }
def FontScalesSaid : Prop := fontScalesRow.holds Try.pinned (OpenSpec.ofChange fontScalesSpec)

/-- ITS FALSE NEIGHBOUR: 'it returns false'. Refute it at one input. -/
def fontScalesWrong : ChangeSpec := { name := "fontScales", fn := fun _ => fun
  | [d] => { results := [.lit (.bool false)], args := [d] }
  | _ => none }
def FontScalesWrongFalsely : Prop := fontScalesRow.holds Try.pinned (OpenSpec.ofChange fontScalesWrong)

/- THE SECOND FORM. 'bulk': how many values and letters a reading holds, each counted each time it is reached (what is shared counts as often as it is met; a slice's spare places count too). A statement '..UptoSaid' is the law's where the arguments, and the package variables that the reading takes, are together of bulk at most 1048576: NARROWER than '..Said'. Prove '..Said' where nothing that the law and all that it calls make is longer than what came in: it says more and counts as full. Else prove '..UptoSaid'. A law counts once. -/
mutual
def uptoBulk {H : Type} : DataW H → Nat
  | .lit (.string bytes) => bytes.length + 1
  | .lit _ => 1
  | .nil => 1
  | .ptr d => uptoBulk d + 1
  | .slice elems spare => uptoBulkAll elems + uptoBulkAll spare + 1
  | .agg parts => uptoBulkAll parts + 1
  | .iface _ d => uptoBulk d + 1
  | .map entries => uptoBulkEntries entries + 1
  | .held _ => 1
def uptoBulkAll {H : Type} : List (DataW H) → Nat
  | [] => 0
  | d :: r => uptoBulk d + uptoBulkAll r
def uptoBulkEntries {H : Type} : List (Lit × DataW H) → Nat
  | [] => 0
  | x :: r => uptoBulkEntry x + uptoBulkEntries r
def uptoBulkEntry {H : Type} : Lit × DataW H → Nat
  | (.string bytes, d) => bytes.length + uptoBulk d + 1
  | (_, d) => uptoBulk d + 1
 end
def uptoSmall : (H : Type) → List (DataW H) → Bool := fun _ ds => decide (uptoBulkAll ds ≤ 1048576)
def OpenSpec.upto (s : _root_.Go.ChangeSpec) : _root_.Go.OpenSpec := { _root_.Go.OpenSpec.ofChange s with cond := some uptoSmall }

/-- 'widgetrylaw07.FontRaw', WHERE WHAT IT READS IS OF BULK AT MOST 1048576: true; the input reads as it did. -/
def fontRawUptoRow : OpenClaim := { program := "ytfiaongnogiegaa", sum := "b80aa0366675d2a7add14ecd008ccb983178723739c8a6ab5c00b6049e0bd368", func := "widgetry/widgetrylaw07.FontRaw", spec := "fontRaw", unfollowed := true, recurses := true, apart := false, narrowed := true }
def FontRawUptoSaid : Prop := fontRawUptoRow.holds Try.pinned (OpenSpec.upto fontRawSpec)

/-- 'widgetrylaw07.FontBuilt', WHERE WHAT IT READS IS OF BULK AT MOST 1048576: true; the input reads as it did. -/
def fontBuiltUptoRow : OpenClaim := { program := "ytfiaongnogiegaa", sum := "b80aa0366675d2a7add14ecd008ccb983178723739c8a6ab5c00b6049e0bd368", func := "widgetry/widgetrylaw07.FontBuilt", spec := "fontBuilt", unfollowed := true, recurses := true, apart := false, narrowed := true }
def FontBuiltUptoSaid : Prop := fontBuiltUptoRow.holds Try.pinned (OpenSpec.upto fontBuiltSpec)

/-- 'widgetrylaw07.FontScales', WHERE WHAT IT READS IS OF BULK AT MOST 1048576: true; the input reads as it did. -/
def fontScalesUptoRow : OpenClaim := { program := "ytfiaongnogiegaa", sum := "b80aa0366675d2a7add14ecd008ccb983178723739c8a6ab5c00b6049e0bd368", func := "widgetry/widgetrylaw07.FontScales", spec := "fontScales", unfollowed := true, recurses := true, apart := false, narrowed := true }
def FontScalesUptoSaid : Prop := fontScalesUptoRow.holds Try.pinned (OpenSpec.upto fontScalesSpec)

end Rows
end Go.Proofs.Ytfiaongnogiegaa
