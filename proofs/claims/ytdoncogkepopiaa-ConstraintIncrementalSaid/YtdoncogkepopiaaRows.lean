/-
  No cell of these rows narrows 'for every input' (looked for: loops, veiled, ifaces, maps, wideKeys, modest, calm, conditions, laid).
  DERIVED. THE GIVEN ROWS OF THIS SEAT. 7 by the template 'for every input the law returns true; each argument reads behind the call as it read before'; 0 by the template 'total and deterministic' (their statements: YtdoncogkepopiaaTotals.lean).
  GIVEN WITH THE SEED: the statements are not yours to turn. If you find one false, say at which input.
  Laid BY PROGRAM, IN A SANDBOX (cutbox-rows.mjs): the forced cells as the released guide's own fill.sh prints them over the translation 481960cd80c56527… (all of the seat's roots in one cut). By AI agents, Wed Nov 11 2026. No macro, syntax, notation, axiom, sorry.
-/
import Derived.Test.YtdoncogkepopiaaChecked
import GoSem.Claim
import GoSem.ClaimJoined
import GoSem.ClaimMapViews
import Derived.JoinedTies
import Derived.KernelRfl
namespace Go.Proofs.Ytdoncogkepopiaa
/- THE CELL 'sum', in the pinned program and in every row, IS THE sha256 OF THE DUMP (.gsa) THAT YtdoncogkepopiaaProg.lean LOADS. Nothing in Lean hashes anything: it is a label: what it is worth is what the hold of that sum in a sandbox is worth. -/
noncomputable def Try.pinned : Pinned := { name := "ytdoncogkepopiaa", sum := "481960cd80c565272c3b1ce6ac148e9a9b71a3b633f8eabf7531795dc337a844", checked := Try.checked }
namespace Rows
def none {H : Type} : Left H := { results := [], args := [] }

/-- 'widgetrylaw20.ConstraintRaw': WHATEVER THE INPUT: true; the input reads as it did. -/
def constraintRawSpec : ChangeSpec := { name := "constraintRaw", fn := fun _ => fun
  | [d1, d2] => { results := [.lit (.bool true)], args := [d1, d2] }
  | _ => none }
def constraintRawRow : OpenClaim := { program := "ytdoncogkepopiaa", sum := "481960cd80c565272c3b1ce6ac148e9a9b71a3b633f8eabf7531795dc337a844", func := "widgetry/widgetrylaw20.ConstraintRaw", spec := "constraintRaw", apart := false }
def ConstraintRawSaid : Prop := constraintRawRow.holds Try.pinned (OpenSpec.ofChange constraintRawSpec)

/-- ITS FALSE NEIGHBOUR: 'it returns false'. Refute it at one input. -/
def constraintRawWrong : ChangeSpec := { name := "constraintRaw", fn := fun _ => fun
  | [d1, d2] => { results := [.lit (.bool false)], args := [d1, d2] }
  | _ => none }
def ConstraintRawWrongFalsely : Prop := constraintRawRow.holds Try.pinned (OpenSpec.ofChange constraintRawWrong)

/-- 'widgetrylaw20.ConstraintSolves': WHATEVER THE INPUT: true; the input reads as it did. -/
def constraintSolvesSpec : ChangeSpec := { name := "constraintSolves", fn := fun _ => fun
  | [d] => { results := [.lit (.bool true)], args := [d] }
  | _ => none }
def constraintSolvesRow : OpenClaim := { program := "ytdoncogkepopiaa", sum := "481960cd80c565272c3b1ce6ac148e9a9b71a3b633f8eabf7531795dc337a844", func := "widgetry/widgetrylaw20.ConstraintSolves", spec := "constraintSolves", apart := false }
def ConstraintSolvesSaid : Prop := constraintSolvesRow.holds Try.pinned (OpenSpec.ofChange constraintSolvesSpec)

/-- ITS FALSE NEIGHBOUR: 'it returns false'. Refute it at one input. -/
def constraintSolvesWrong : ChangeSpec := { name := "constraintSolves", fn := fun _ => fun
  | [d] => { results := [.lit (.bool false)], args := [d] }
  | _ => none }
def ConstraintSolvesWrongFalsely : Prop := constraintSolvesRow.holds Try.pinned (OpenSpec.ofChange constraintSolvesWrong)

/-- 'widgetrylaw20.ConstraintHolds': WHATEVER THE INPUT: true; the input reads as it did. -/
def constraintHoldsSpec : ChangeSpec := { name := "constraintHolds", fn := fun _ => fun
  | [d] => { results := [.lit (.bool true)], args := [d] }
  | _ => none }
def constraintHoldsRow : OpenClaim := { program := "ytdoncogkepopiaa", sum := "481960cd80c565272c3b1ce6ac148e9a9b71a3b633f8eabf7531795dc337a844", func := "widgetry/widgetrylaw20.ConstraintHolds", spec := "constraintHolds", apart := false }
def ConstraintHoldsSaid : Prop := constraintHoldsRow.holds Try.pinned (OpenSpec.ofChange constraintHoldsSpec)

/-- ITS FALSE NEIGHBOUR: 'it returns false'. Refute it at one input. -/
def constraintHoldsWrong : ChangeSpec := { name := "constraintHolds", fn := fun _ => fun
  | [d] => { results := [.lit (.bool false)], args := [d] }
  | _ => none }
def ConstraintHoldsWrongFalsely : Prop := constraintHoldsRow.holds Try.pinned (OpenSpec.ofChange constraintHoldsWrong)

/-- 'widgetrylaw20.ConstraintLeast': WHATEVER THE INPUT: true; the input reads as it did. -/
def constraintLeastSpec : ChangeSpec := { name := "constraintLeast", fn := fun _ => fun
  | [d] => { results := [.lit (.bool true)], args := [d] }
  | _ => none }
def constraintLeastRow : OpenClaim := { program := "ytdoncogkepopiaa", sum := "481960cd80c565272c3b1ce6ac148e9a9b71a3b633f8eabf7531795dc337a844", func := "widgetry/widgetrylaw20.ConstraintLeast", spec := "constraintLeast", apart := false }
def ConstraintLeastSaid : Prop := constraintLeastRow.holds Try.pinned (OpenSpec.ofChange constraintLeastSpec)

/-- ITS FALSE NEIGHBOUR: 'it returns false'. Refute it at one input. -/
def constraintLeastWrong : ChangeSpec := { name := "constraintLeast", fn := fun _ => fun
  | [d] => { results := [.lit (.bool false)], args := [d] }
  | _ => none }
def ConstraintLeastWrongFalsely : Prop := constraintLeastRow.holds Try.pinned (OpenSpec.ofChange constraintLeastWrong)

/-- 'widgetrylaw20.ConstraintStrengths': WHATEVER THE INPUT: true; the input reads as it did. -/
def constraintStrengthsSpec : ChangeSpec := { name := "constraintStrengths", fn := fun _ => fun
  | [d] => { results := [.lit (.bool true)], args := [d] }
  | _ => none }
def constraintStrengthsRow : OpenClaim := { program := "ytdoncogkepopiaa", sum := "481960cd80c565272c3b1ce6ac148e9a9b71a3b633f8eabf7531795dc337a844", func := "widgetry/widgetrylaw20.ConstraintStrengths", spec := "constraintStrengths", apart := false }
def ConstraintStrengthsSaid : Prop := constraintStrengthsRow.holds Try.pinned (OpenSpec.ofChange constraintStrengthsSpec)

/-- ITS FALSE NEIGHBOUR: 'it returns false'. Refute it at one input. -/
def constraintStrengthsWrong : ChangeSpec := { name := "constraintStrengths", fn := fun _ => fun
  | [d] => { results := [.lit (.bool false)], args := [d] }
  | _ => none }
def ConstraintStrengthsWrongFalsely : Prop := constraintStrengthsRow.holds Try.pinned (OpenSpec.ofChange constraintStrengthsWrong)

/-- 'widgetrylaw20.ConstraintIncremental': WHATEVER THE INPUT: true; the input reads as it did. -/
def constraintIncrementalSpec : ChangeSpec := { name := "constraintIncremental", fn := fun _ => fun
  | [d] => { results := [.lit (.bool true)], args := [d] }
  | _ => none }
def constraintIncrementalRow : OpenClaim := { program := "ytdoncogkepopiaa", sum := "481960cd80c565272c3b1ce6ac148e9a9b71a3b633f8eabf7531795dc337a844", func := "widgetry/widgetrylaw20.ConstraintIncremental", spec := "constraintIncremental", apart := false }
def ConstraintIncrementalSaid : Prop := constraintIncrementalRow.holds Try.pinned (OpenSpec.ofChange constraintIncrementalSpec)

/-- ITS FALSE NEIGHBOUR: 'it returns false'. Refute it at one input. -/
def constraintIncrementalWrong : ChangeSpec := { name := "constraintIncremental", fn := fun _ => fun
  | [d] => { results := [.lit (.bool false)], args := [d] }
  | _ => none }
def ConstraintIncrementalWrongFalsely : Prop := constraintIncrementalRow.holds Try.pinned (OpenSpec.ofChange constraintIncrementalWrong)

/-- 'widgetrylaw20.ConstraintLimits': WHATEVER THE INPUT: true; the input reads as it did. -/
def constraintLimitsSpec : ChangeSpec := { name := "constraintLimits", fn := fun _ => fun
  | [d] => { results := [.lit (.bool true)], args := [d] }
  | _ => none }
def constraintLimitsRow : OpenClaim := { program := "ytdoncogkepopiaa", sum := "481960cd80c565272c3b1ce6ac148e9a9b71a3b633f8eabf7531795dc337a844", func := "widgetry/widgetrylaw20.ConstraintLimits", spec := "constraintLimits", apart := false }
def ConstraintLimitsSaid : Prop := constraintLimitsRow.holds Try.pinned (OpenSpec.ofChange constraintLimitsSpec)

/-- ITS FALSE NEIGHBOUR: 'it returns false'. Refute it at one input. -/
def constraintLimitsWrong : ChangeSpec := { name := "constraintLimits", fn := fun _ => fun
  | [d] => { results := [.lit (.bool false)], args := [d] }
  | _ => none }
def ConstraintLimitsWrongFalsely : Prop := constraintLimitsRow.holds Try.pinned (OpenSpec.ofChange constraintLimitsWrong)

/- THE SECOND FORM. 'bulk': how many values and letters a reading holds, each counted each time it is reached (what is shared counts as often as it is met; a slice's spare places count too). A statement '..UptoSaid' is the law's where the arguments, and the package variables that the reading takes, are together of bulk at most 1048576: NARROWER than '..Said'. Prove '..Said' where nothing that the law and all that it calls make is longer than what came in: it says more and counts as full. Else prove '..UptoSaid'. A law counts once. -/
mutual
def uptoBulk {H : Type} : DataW H → Nat
  | .lit (.string bytes) => bytes.length + 1
  | .lit _ => 1
  | .nil => 1
  | .ptr d => uptoBulk d + 1
  | .slice elems spare => uptoBulkAll elems + uptoBulkAll spare + 1
  | .agg parts => uptoBulkAll parts + 1
  | .iface _ d => uptoBulk d + 1
  | .map entries => uptoBulkEntries entries + 1
  | .held _ => 1
def uptoBulkAll {H : Type} : List (DataW H) → Nat
  | [] => 0
  | d :: r => uptoBulk d + uptoBulkAll r
def uptoBulkEntries {H : Type} : List (Lit × DataW H) → Nat
  | [] => 0
  | x :: r => uptoBulkEntry x + uptoBulkEntries r
def uptoBulkEntry {H : Type} : Lit × DataW H → Nat
  | (.string bytes, d) => bytes.length + uptoBulk d + 1
  | (_, d) => uptoBulk d + 1
 end
def uptoSmall : (H : Type) → List (DataW H) → Bool := fun _ ds => decide (uptoBulkAll ds ≤ 1048576)
def OpenSpec.upto (s : _root_.Go.ChangeSpec) : _root_.Go.OpenSpec := { _root_.Go.OpenSpec.ofChange s with cond := some uptoSmall }

/-- 'widgetrylaw20.ConstraintRaw', WHERE WHAT IT READS IS OF BULK AT MOST 1048576: true; the input reads as it did. -/
def constraintRawUptoRow : OpenClaim := { program := "ytdoncogkepopiaa", sum := "481960cd80c565272c3b1ce6ac148e9a9b71a3b633f8eabf7531795dc337a844", func := "widgetry/widgetrylaw20.ConstraintRaw", spec := "constraintRaw", apart := false, narrowed := true }
def ConstraintRawUptoSaid : Prop := constraintRawUptoRow.holds Try.pinned (OpenSpec.upto constraintRawSpec)

/-- 'widgetrylaw20.ConstraintSolves', WHERE WHAT IT READS IS OF BULK AT MOST 1048576: true; the input reads as it did. -/
def constraintSolvesUptoRow : OpenClaim := { program := "ytdoncogkepopiaa", sum := "481960cd80c565272c3b1ce6ac148e9a9b71a3b633f8eabf7531795dc337a844", func := "widgetry/widgetrylaw20.ConstraintSolves", spec := "constraintSolves", apart := false, narrowed := true }
def ConstraintSolvesUptoSaid : Prop := constraintSolvesUptoRow.holds Try.pinned (OpenSpec.upto constraintSolvesSpec)

/-- 'widgetrylaw20.ConstraintHolds', WHERE WHAT IT READS IS OF BULK AT MOST 1048576: true; the input reads as it did. -/
def constraintHoldsUptoRow : OpenClaim := { program := "ytdoncogkepopiaa", sum := "481960cd80c565272c3b1ce6ac148e9a9b71a3b633f8eabf7531795dc337a844", func := "widgetry/widgetrylaw20.ConstraintHolds", spec := "constraintHolds", apart := false, narrowed := true }
def ConstraintHoldsUptoSaid : Prop := constraintHoldsUptoRow.holds Try.pinned (OpenSpec.upto constraintHoldsSpec)

/-- 'widgetrylaw20.ConstraintLeast', WHERE WHAT IT READS IS OF BULK AT MOST 1048576: true; the input reads as it did. -/
def constraintLeastUptoRow : OpenClaim := { program := "ytdoncogkepopiaa", sum := "481960cd80c565272c3b1ce6ac148e9a9b71a3b633f8eabf7531795dc337a844", func := "widgetry/widgetrylaw20.ConstraintLeast", spec := "constraintLeast", apart := false, narrowed := true }
def ConstraintLeastUptoSaid : Prop := constraintLeastUptoRow.holds Try.pinned (OpenSpec.upto constraintLeastSpec)

/-- 'widgetrylaw20.ConstraintStrengths', WHERE WHAT IT READS IS OF BULK AT MOST 1048576: true; the input reads as it did. -/
def constraintStrengthsUptoRow : OpenClaim := { program := "ytdoncogkepopiaa", sum := "481960cd80c565272c3b1ce6ac148e9a9b71a3b633f8eabf7531795dc337a844", func := "widgetry/widgetrylaw20.ConstraintStrengths", spec := "constraintStrengths", apart := false, narrowed := true }
def ConstraintStrengthsUptoSaid : Prop := constraintStrengthsUptoRow.holds Try.pinned (OpenSpec.upto constraintStrengthsSpec)

/-- 'widgetrylaw20.ConstraintIncremental', WHERE WHAT IT READS IS OF BULK AT MOST 1048576: true; the input reads as it did. -/
def constraintIncrementalUptoRow : OpenClaim := { program := "ytdoncogkepopiaa", sum := "481960cd80c565272c3b1ce6ac148e9a9b71a3b633f8eabf7531795dc337a844", func := "widgetry/widgetrylaw20.ConstraintIncremental", spec := "constraintIncremental", apart := false, narrowed := true }
def ConstraintIncrementalUptoSaid : Prop := constraintIncrementalUptoRow.holds Try.pinned (OpenSpec.upto constraintIncrementalSpec)

/-- 'widgetrylaw20.ConstraintLimits', WHERE WHAT IT READS IS OF BULK AT MOST 1048576: true; the input reads as it did. -/
def constraintLimitsUptoRow : OpenClaim := { program := "ytdoncogkepopiaa", sum := "481960cd80c565272c3b1ce6ac148e9a9b71a3b633f8eabf7531795dc337a844", func := "widgetry/widgetrylaw20.ConstraintLimits", spec := "constraintLimits", apart := false, narrowed := true }
def ConstraintLimitsUptoSaid : Prop := constraintLimitsUptoRow.holds Try.pinned (OpenSpec.upto constraintLimitsSpec)

end Rows
end Go.Proofs.Ytdoncogkepopiaa
