/- Tracks of the reference of package grid answers as the laws ask, for all arguments; the sanity check's two tracks; no condition. -/
import Derived.Test.YtdoenkngmgclmaaGdR6A
import Derived.Test.YtdoenkngmgclmaaGdR6B
import Derived.Test.YtdoenkngmgclmaaGdR6C
namespace Go.Proofs.Ytdoenkngmgclmaa
open Go.RowKit Go.Sort
set_option linter.unusedVariables false
set_option linter.unusedSimpArgs false

set_option maxHeartbeats 4000000 in
set_option maxRecDepth 100000 in
theorem rTk_err (av gap : Int) (p q : Option Addr) (n m c d : Nat) (t : Nat → Tk) (I : Nat → It) (w : World) (hp : SRow w p n 2 (trC t)) (hq : SRow w q m 4 (itC I)) (hn : n ≤ 100000) (hm : m ≤ 100000) (h : ¬ erG av gap n t m I = 0) :
    Calls Try.prog 24 #[.int .i64 av, .int .i64 gap, .slice p n c, .slice q m d] w fun e w' => e = .returned (.tuple #[.slice none 0 0, .int .i64 (erG av gap n t m I)]) ∧ Below w.heap.size w w' := by
  have C := hide (rchk_any av gap p q n m c d t I w hp hq hn hm)
  generalize erG av gap n t m I = er at *
  have he : (er != 0) = true := by simpa using h
  clear hp hq h
  go_enter Try.func24, Try.ntmps24
  go_wp2_with fail
  refine C.out.mono ?_
  rintro e w1 ⟨rfl, hB⟩
  have B1 := hide hB
  clear hB C
  go_wp2_with fail
  go_ret2
  exact ⟨rfl, B1.out⟩
theorem rTk : KTk 24 := by
  intro av gap p q n m c d t I w hp hq _ hn hm
  by_cases h : erG av gap n t m I = 0
  · obtain ⟨h1, h2, h3⟩ := erG_zero h
    simp only [h, if_true]
    by_cases hF : 0 < av - totG gap (lqF t gap I n m) n
    · by_cases hS : av - totG gap (lqF t gap I n m) n < sumF (pack (zA t) (waG t gap I n m) n) (rk (zA t) n)
      · exact trk_C av gap p q n m c d t I w hp hq h1 h2 h3 hF hS
      · exact trk_B av gap p q n m c d t I w hp hq h1 h2 h3 hF (by omega)
    · exact trk_A av gap p q n m c d t I w hp hq h1 h2 h3 (by omega)
  · simp only [if_neg h]
    refine (rTk_err av gap p q n m c d t I w hp hq hn hm h).mono ?_
    rintro e w' ⟨rfl, hB⟩
    exact ⟨none, 0, rfl, reads_none _ _, hB⟩
end Go.Proofs.Ytdoenkngmgclmaa
