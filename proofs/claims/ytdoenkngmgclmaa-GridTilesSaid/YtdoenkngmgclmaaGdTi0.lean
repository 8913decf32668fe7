/- What the law GridTiles runs, where Place and Tracks answer as the chapter asks; no other condition. -/
import Derived.Test.YtdoenkngmgclmaaGdAw
import Derived.Test.YtdoenkngmgclmaaBitM2
import Derived.BigQuiet
namespace Go.Proofs.Ytdoenkngmgclmaa
open Go.RowKit Go.Sort
set_option linter.unusedVariables false
set_option linter.unusedSimpArgs false

def tiFind (i : Nat) : Code → List Code
  | .region j ops d => if j = i then [.region j ops d] else []
  | .seq a b => tiFind i a ++ tiFind i b
  | .cond _ a b => tiFind i a ++ tiFind i b
  | .block _ b => tiFind i b
  | .loop b => tiFind i b
  | .scope b => tiFind i b
  | _ => []
noncomputable def tiR (i : Nat) : Code := (tiFind i (Try.f4.body.getD .skip)).headD .skip
theorem wp_as {c c' : Code} (e : c' = c) {Q : Exit → Act → World → Prop} {a : Act} {w : World} (h : c.wp Try.prog Q a w) : c'.wp Try.prog Q a w := by rw [e]; exact h
end Go.Proofs.Ytdoenkngmgclmaa
