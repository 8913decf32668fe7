/- What the reference's table of classes returns for every rune; no condition but that the argument is a rune's number. -/
import Derived.Test.YtfiaongnogiegaaChChain
namespace Go.Proofs.Ytfiaongnogiegaa
open Go.RowKit Go.Sort
set_option linter.unusedSimpArgs false
set_option linter.unusedVariables false

def refCases : List CaseD :=
  [⟨true, 0, none⟩,
   ⟨false, 8, some ⟨3, 0, 7, 9, 0⟩⟩,
   ⟨false, 9, some ⟨3, 0, 10, 11, 0⟩⟩,
   ⟨false, 10, some ⟨2, 1, 3, 10, 0⟩⟩,
   ⟨false, 11, some ⟨3, 1, 1, 11, 0⟩⟩,
   ⟨false, 12, some ⟨3, 1, 1, 12, 0⟩⟩,
   ⟨false, 13, some ⟨1, 1, 2, 10, 0⟩⟩,
   ⟨false, 31, some ⟨3, 0, 7, 9, 0⟩⟩,
   ⟨false, 32, some ⟨0, 2, 4, 12, 0⟩⟩,
   ⟨false, 33, some ⟨0, 0, 15, 13, 0⟩⟩,
   ⟨false, 34, some ⟨0, 0, 14, 13, 0⟩⟩,
   ⟨false, 37, some ⟨0, 0, 0, 5, 0⟩⟩,
   ⟨false, 38, some ⟨0, 0, 0, 13, 0⟩⟩,
   ⟨false, 39, some ⟨0, 7, 14, 13, 0⟩⟩,
   ⟨false, 40, some ⟨0, 0, 12, 13, 0⟩⟩,
   ⟨false, 41, some ⟨0, 0, 13, 13, 0⟩⟩,
   ⟨false, 42, some ⟨0, 0, 0, 13, 0⟩⟩,
   ⟨false, 43, some ⟨0, 0, 0, 4, 0⟩⟩,
   ⟨false, 44, some ⟨0, 6, 16, 7, 0⟩⟩,
   ⟨false, 45, some ⟨0, 0, 11, 4, 0⟩⟩,
   ⟨false, 46, some ⟨0, 7, 16, 7, 0⟩⟩,
   ⟨false, 47, some ⟨0, 0, 10, 7, 0⟩⟩,
   ⟨false, 57, some ⟨0, 4, 17, 3, 0⟩⟩,
   ⟨false, 58, some ⟨0, 5, 16, 7, 0⟩⟩,
   ⟨false, 59, some ⟨0, 6, 16, 13, 0⟩⟩,
   ⟨false, 62, some ⟨0, 0, 0, 13, 0⟩⟩,
   ⟨false, 63, some ⟨0, 0, 15, 13, 0⟩⟩,
   ⟨false, 64, some ⟨0, 0, 0, 13, 0⟩⟩,
   ⟨false, 90, some ⟨0, 3, 0, 0, 0⟩⟩,
   ⟨false, 91, some ⟨0, 0, 12, 13, 0⟩⟩,
   ⟨false, 92, some ⟨0, 0, 0, 13, 0⟩⟩,
   ⟨false, 93, some ⟨0, 0, 13, 13, 0⟩⟩,
   ⟨false, 94, some ⟨0, 0, 0, 13, 0⟩⟩,
   ⟨false, 95, some ⟨0, 8, 0, 13, 0⟩⟩,
   ⟨false, 96, some ⟨0, 0, 0, 13, 0⟩⟩,
   ⟨false, 122, some ⟨0, 3, 0, 0, 0⟩⟩,
   ⟨false, 123, some ⟨0, 0, 12, 13, 0⟩⟩,
   ⟨false, 124, some ⟨0, 0, 10, 13, 0⟩⟩,
   ⟨false, 125, some ⟨0, 0, 13, 13, 0⟩⟩,
   ⟨false, 126, some ⟨0, 0, 0, 13, 0⟩⟩,
   ⟨false, 132, some ⟨3, 0, 7, 9, 0⟩⟩,
   ⟨false, 133, some ⟨3, 1, 1, 10, 0⟩⟩,
   ⟨false, 159, some ⟨3, 0, 7, 9, 0⟩⟩,
   ⟨false, 160, some ⟨0, 0, 9, 7, 0⟩⟩,
   ⟨false, 161, some ⟨0, 0, 12, 13, 0⟩⟩,
   ⟨false, 165, some ⟨0, 0, 0, 5, 0⟩⟩,
   ⟨false, 169, some ⟨0, 0, 0, 13, 0⟩⟩,
   ⟨false, 170, some ⟨0, 3, 0, 0, 0⟩⟩,
   ⟨false, 171, some ⟨0, 0, 14, 13, 0⟩⟩,
   ⟨false, 172, some ⟨0, 0, 0, 13, 0⟩⟩,
   ⟨false, 173, some ⟨3, 10, 10, 9, 4⟩⟩,
   ⟨false, 180, some ⟨0, 0, 0, 13, 0⟩⟩,
   ⟨false, 181, some ⟨0, 3, 0, 0, 0⟩⟩,
   ⟨false, 182, some ⟨0, 0, 0, 13, 0⟩⟩,
   ⟨false, 183, some ⟨0, 5, 0, 13, 0⟩⟩,
   ⟨false, 185, some ⟨0, 0, 0, 13, 0⟩⟩,
   ⟨false, 186, some ⟨0, 3, 0, 0, 0⟩⟩,
   ⟨false, 187, some ⟨0, 0, 14, 13, 0⟩⟩,
   ⟨false, 191, some ⟨0, 0, 0, 13, 0⟩⟩,
   ⟨false, 767, some ⟨0, 3, 0, 0, 0⟩⟩,
   ⟨false, 879, some ⟨4, 10, 7, 8, 4⟩⟩,
   ⟨false, 1423, some ⟨0, 3, 0, 0, 0⟩⟩,
   ⟨false, 1469, some ⟨4, 10, 7, 8, 4⟩⟩,
   ⟨false, 1470, some ⟨0, 0, 10, 1, 0⟩⟩,
   ⟨false, 1479, some ⟨4, 10, 7, 8, 4⟩⟩,
   ⟨true, 1488, none⟩,
   ⟨false, 1514, some ⟨0, 3, 0, 1, 0⟩⟩,
   ⟨true, 1536, none⟩,
   ⟨false, 1541, some ⟨7, 0, 0, 6, 0⟩⟩,
   ⟨true, 1548, none⟩,
   ⟨false, 1548, some ⟨0, 6, 16, 7, 0⟩⟩,
   ⟨true, 1552, none⟩,
   ⟨false, 1562, some ⟨4, 10, 7, 8, 4⟩⟩,
   ⟨false, 1563, some ⟨0, 0, 15, 2, 0⟩⟩,
   ⟨false, 1564, some ⟨3, 10, 7, 2, 4⟩⟩,
   ⟨true, 1567, none⟩,
   ⟨false, 1567, some ⟨0, 0, 15, 2, 0⟩⟩,
   ⟨false, 1568, some ⟨0, 3, 0, 2, 2⟩⟩,
   ⟨false, 1569, some ⟨0, 3, 0, 2, 0⟩⟩,
   ⟨false, 1573, some ⟨0, 3, 0, 2, 1⟩⟩,
   ⟨false, 1574, some ⟨0, 3, 0, 2, 2⟩⟩,
   ⟨false, 1575, some ⟨0, 3, 0, 2, 1⟩⟩,
   ⟨false, 1576, some ⟨0, 3, 0, 2, 2⟩⟩,
   ⟨false, 1577, some ⟨0, 3, 0, 2, 1⟩⟩,
   ⟨false, 1582, some ⟨0, 3, 0, 2, 2⟩⟩,
   ⟨false, 1586, some ⟨0, 3, 0, 2, 1⟩⟩,
   ⟨false, 1599, some ⟨0, 3, 0, 2, 2⟩⟩,
   ⟨false, 1600, some ⟨0, 3, 0, 2, 3⟩⟩,
   ⟨false, 1607, some ⟨0, 3, 0, 2, 2⟩⟩,
   ⟨false, 1608, some ⟨0, 3, 0, 2, 1⟩⟩,
   ⟨false, 1610, some ⟨0, 3, 0, 2, 2⟩⟩,
   ⟨false, 1631, some ⟨4, 10, 7, 8, 4⟩⟩,
   ⟨false, 1641, some ⟨0, 4, 17, 6, 0⟩⟩,
   ⟨false, 1642, some ⟨0, 0, 0, 5, 0⟩⟩,
   ⟨false, 1644, some ⟨0, 6, 16, 6, 0⟩⟩,
   ⟨true, 1648, none⟩,
   ⟨false, 1648, some ⟨4, 10, 7, 8, 4⟩⟩,
   ⟨false, 1655, some ⟨0, 3, 0, 2, 1⟩⟩,
   ⟨false, 1671, some ⟨0, 3, 0, 2, 2⟩⟩,
   ⟨false, 1689, some ⟨0, 3, 0, 2, 1⟩⟩,
   ⟨false, 1727, some ⟨0, 3, 0, 2, 2⟩⟩,
   ⟨false, 1739, some ⟨0, 3, 0, 2, 1⟩⟩,
   ⟨false, 1747, some ⟨0, 3, 0, 2, 2⟩⟩,
   ⟨true, 1750, none⟩,
   ⟨false, 1756, some ⟨4, 10, 7, 8, 4⟩⟩,
   ⟨true, 1776, none⟩,
   ⟨false, 1785, some ⟨0, 4, 17, 3, 0⟩⟩,
   ⟨true, 2304, none⟩,
   ⟨false, 2306, some ⟨4, 10, 7, 8, 0⟩⟩,
   ⟨false, 2307, some ⟨8, 10, 7, 0, 0⟩⟩,
   ⟨false, 2361, some ⟨0, 3, 0, 0, 0⟩⟩,
   ⟨true, 2364, none⟩,
   ⟨false, 2364, some ⟨4, 10, 7, 8, 0⟩⟩,
   ⟨true, 2366, none⟩,
   ⟨false, 2368, some ⟨8, 10, 7, 0, 0⟩⟩,
   ⟨false, 2376, some ⟨4, 10, 7, 8, 0⟩⟩,
   ⟨false, 2380, some ⟨8, 10, 7, 0, 0⟩⟩,
   ⟨false, 2381, some ⟨4, 10, 7, 8, 0⟩⟩,
   ⟨true, 2406, none⟩,
   ⟨false, 2415, some ⟨0, 4, 17, 0, 0⟩⟩,
   ⟨true, 4352, none⟩,
   ⟨false, 4447, some ⟨9, 3, 18, 0, 0⟩⟩,
   ⟨false, 4519, some ⟨10, 3, 18, 0, 0⟩⟩,
   ⟨false, 4607, some ⟨11, 3, 18, 0, 0⟩⟩,
   ⟨true, 8192, none⟩,
   ⟨false, 8198, some ⟨0, 2, 10, 12, 0⟩⟩,
   ⟨false, 8199, some ⟨0, 0, 9, 12, 0⟩⟩,
   ⟨false, 8202, some ⟨0, 2, 10, 12, 0⟩⟩,
   ⟨false, 8203, some ⟨3, 0, 5, 9, 0⟩⟩,
   ⟨false, 8204, some ⟨4, 10, 7, 9, 0⟩⟩,
   ⟨false, 8205, some ⟨5, 11, 6, 9, 3⟩⟩,
   ⟨false, 8206, some ⟨3, 10, 7, 0, 4⟩⟩,
   ⟨false, 8207, some ⟨3, 10, 7, 1, 4⟩⟩,
   ⟨false, 8208, some ⟨0, 0, 10, 13, 0⟩⟩,
   ⟨false, 8209, some ⟨0, 0, 9, 13, 0⟩⟩,
   ⟨false, 8212, some ⟨0, 0, 10, 13, 0⟩⟩,
   ⟨false, 8215, some ⟨0, 0, 0, 13, 0⟩⟩,
   ⟨false, 8216, some ⟨0, 0, 14, 13, 0⟩⟩,
   ⟨false, 8217, some ⟨0, 7, 14, 13, 0⟩⟩,
   ⟨false, 8218, some ⟨0, 0, 12, 13, 0⟩⟩,
   ⟨true, 8220, none⟩,
   ⟨false, 8221, some ⟨0, 0, 14, 13, 0⟩⟩,
   ⟨true, 8232, none⟩,
   ⟨false, 8232, some ⟨3, 1, 1, 12, 0⟩⟩,
   ⟨false, 8233, some ⟨3, 1, 1, 10, 0⟩⟩,
   ⟨false, 8234, some ⟨3, 10, 7, 14, 4⟩⟩,
   ⟨false, 8235, some ⟨3, 10, 7, 16, 4⟩⟩,
   ⟨false, 8236, some ⟨3, 10, 7, 18, 4⟩⟩,
   ⟨false, 8237, some ⟨3, 10, 7, 15, 4⟩⟩,
   ⟨false, 8238, some ⟨3, 10, 7, 17, 4⟩⟩,
   ⟨true, 8240, none⟩,
   ⟨false, 8244, some ⟨0, 0, 0, 5, 0⟩⟩,
   ⟨true, 8255, none⟩,
   ⟨false, 8256, some ⟨0, 8, 0, 13, 0⟩⟩,
   ⟨true, 8288, none⟩,
   ⟨false, 8288, some ⟨3, 10, 8, 9, 4⟩⟩,
   ⟨true, 8294, none⟩,
   ⟨false, 8294, some ⟨3, 10, 7, 19, 0⟩⟩,
   ⟨false, 8295, some ⟨3, 10, 7, 20, 0⟩⟩,
   ⟨false, 8296, some ⟨3, 10, 7, 21, 0⟩⟩,
   ⟨false, 8297, some ⟨3, 10, 7, 22, 0⟩⟩,
   ⟨true, 8352, none⟩,
   ⟨false, 8399, some ⟨0, 0, 0, 5, 0⟩⟩,
   ⟨false, 8432, some ⟨4, 10, 7, 8, 4⟩⟩,
   ⟨true, 8592, none⟩,
   ⟨false, 8959, some ⟨0, 0, 0, 13, 0⟩⟩,
   ⟨true, 9728, none⟩,
   ⟨false, 10175, some ⟨14, 0, 18, 13, 0⟩⟩,
   ⟨true, 12288, none⟩,
   ⟨false, 12288, some ⟨0, 2, 10, 12, 0⟩⟩,
   ⟨false, 12290, some ⟨0, 0, 13, 13, 0⟩⟩,
   ⟨true, 12293, none⟩,
   ⟨false, 12295, some ⟨0, 0, 18, 0, 0⟩⟩,
   ⟨false, 12296, some ⟨0, 0, 12, 13, 0⟩⟩,
   ⟨false, 12297, some ⟨0, 0, 13, 13, 0⟩⟩,
   ⟨false, 12298, some ⟨0, 0, 12, 13, 0⟩⟩,
   ⟨false, 12299, some ⟨0, 0, 13, 13, 0⟩⟩,
   ⟨false, 12300, some ⟨0, 0, 12, 13, 0⟩⟩,
   ⟨false, 12301, some ⟨0, 0, 13, 13, 0⟩⟩,
   ⟨false, 12302, some ⟨0, 0, 12, 13, 0⟩⟩,
   ⟨false, 12303, some ⟨0, 0, 13, 13, 0⟩⟩,
   ⟨false, 12304, some ⟨0, 0, 12, 13, 0⟩⟩,
   ⟨false, 12305, some ⟨0, 0, 13, 13, 0⟩⟩,
   ⟨true, 12353, none⟩,
   ⟨false, 12438, some ⟨0, 0, 18, 0, 0⟩⟩,
   ⟨true, 12441, none⟩,
   ⟨false, 12442, some ⟨4, 10, 7, 8, 4⟩⟩,
   ⟨true, 12449, none⟩,
   ⟨false, 12538, some ⟨0, 9, 18, 0, 0⟩⟩,
   ⟨true, 12540, none⟩,
   ⟨false, 12540, some ⟨0, 9, 18, 0, 0⟩⟩,
   ⟨true, 13312, none⟩,
   ⟨false, 40959, some ⟨0, 0, 18, 0, 0⟩⟩,
   ⟨true, 64285, none⟩,
   ⟨false, 64335, some ⟨0, 3, 0, 1, 0⟩⟩,
   ⟨false, 65023, some ⟨0, 3, 0, 2, 0⟩⟩,
   ⟨false, 65039, some ⟨4, 10, 7, 8, 4⟩⟩,
   ⟨true, 65136, none⟩,
   ⟨false, 65276, some ⟨0, 3, 0, 2, 0⟩⟩,
   ⟨true, 65279, none⟩,
   ⟨false, 65279, some ⟨3, 10, 8, 9, 4⟩⟩,
   ⟨true, 127462, none⟩,
   ⟨false, 127487, some ⟨6, 12, 19, 0, 0⟩⟩,
   ⟨true, 127744, none⟩,
   ⟨false, 127994, some ⟨14, 0, 18, 13, 0⟩⟩,
   ⟨false, 127999, some ⟨4, 10, 7, 13, 4⟩⟩,
   ⟨false, 129791, some ⟨14, 0, 18, 13, 0⟩⟩,
   ⟨true, 131072, none⟩,
   ⟨false, 262141, some ⟨0, 0, 18, 0, 0⟩⟩,
   ⟨true, 917760, none⟩,
   ⟨false, 917999, some ⟨4, 10, 7, 8, 4⟩⟩]

def isSyl (r : Int) : Bool := decide (44032 ≤ r) && decide (r ≤ 55203)
/-- The classes of a rune. -/
def cls (r : Int) : Cl := if isSyl r then (if (r - 44032) % 28 = 0 then ⟨12, 3, 18, 0, 0⟩ else ⟨13, 3, 18, 0, 0⟩) else (lkC refCases r).getD Cl.zero

def seqL : Code → Code
  | .seq a _ => a
  | c => c
def seqR : Code → Code
  | .seq _ b => b
  | c => c
def thenOf : Code → Code
  | .cond _ a _ => a
  | c => c
noncomputable def refBody : Code := Try.f57.body.getD .skip
noncomputable def refR0 : Code := seqL refBody
noncomputable def refBlock : Code := seqL (seqR (seqR refBody))
noncomputable def refLast : Code := seqR (seqR (seqR refBody))
noncomputable def refR1 : Code := seqL (seqL (seqR refBody))
noncomputable def refSyl : Code := thenOf (seqR (seqL (seqR refBody)))
noncomputable def refR2 : Code := seqL refSyl
noncomputable def refR3 : Code := seqL (seqL (seqR refSyl))
noncomputable def refR4 : Code := thenOf (seqR (seqL (seqR refSyl)))
noncomputable def refR5 : Code := seqL (seqR (seqR refSyl))
theorem refBody_is : Try.f57.body = some (.seq refR0 (.seq (.seq refR1 (.cond (.tmp 9) refSyl .skip)) (.seq (.block 0 (mkC (posL refBlock) refCases 17 6)) (.seq (.region 428 (rowOps 861 ((posL refLast).headD "") none).toArray false) .ret)))) := by kernel_rfl
theorem refSyl_is : refSyl = .seq refR2 (.seq (.seq refR3 (.cond (.tmp 14) refR4 .skip)) (.seq refR5 .ret)) := by kernel_rfl

theorem Fr.put' {n b : Nat} {r : Int} {t : Array Value} {d : List Deferred} (h : Fr n r b ⟨t, d⟩) (s : Nat) (hs : 2 < s) (v : Value) : Fr n r b ⟨t.setIfInBounds s v, d⟩ := h.put s hs v
/-- The frame of the call: the rune in slot 0. -/
def Fr0 (n : Nat) (r : Int) (a : Act) : Prop := a.tmps.size = n ∧ a.tmps[0]? = some (.int .i32 r) ∧ a.defers = []
theorem refR0_wp {Q : Exit → Act → World → Prop} {r : Int} {a : Act} {w : World} (hf : Fr0 862 r a)
    (h : ∀ a', Fr 862 r w.heap.size a' → Q .normal a' (w.alloc (.cells Cl.zero.vs.toArray 74))) : refR0.wp Try.prog Q a w := by
  obtain ⟨n1, n2, n3⟩ := hf
  have N3 := hide n3
  clear n3
  conv => arg 2; whnf
  apply wp_region_lit
  refine wpList_plain rfl (fun K hK => ?_)
  go_simp
  refine hK _ _ ?_
  simp only [wpList]
  refine h _ ⟨by simpa using n1, by simp [n2], by simp [n1], N3.out⟩
theorem refR1_wp {Q : Exit → Act → World → Prop} {r : Int} {b : Nat} {a : Act} {w : World} (hf : Fr 862 r b a) (hr : -2147483648 ≤ r ∧ r ≤ 2147483647)
    (h : ∀ a', Fr 862 r b a' → a'.eval (.tmp 9) = .bool (isSyl r) → Q .normal a' w) : refR1.wp Try.prog Q a w := by
  have n1 := hf.1
  have n2 := hf.2.1
  have n3 : a.tmps[0]'(by omega) = .int .i32 r := by rw [Array.getElem?_eq_getElem (by omega)] at n2; exact Option.some.inj n2
  by_cases h1 : 44032 ≤ r
  · have d1 : decide (44032 ≤ r) = true := by simpa using h1
    conv => arg 2; whnf
    apply wp_region_lit
    refine wpList_plain rfl (fun K hK => ?_)
    go_simp
    refine hK _ _ ?_
    clear hK K
    refine wpList_plain rfl (fun K hK => ?_)
    go_simp
    refine hK _ _ ?_
    clear hK K
    refine wpList_plain rfl (fun K hK => ?_)
    go_simp
    refine hK _ _ ?_
    clear hK K
    refine wpList_step (fun K hK => ?_)
    go_simp
    refine hK _ _ ?_
    clear hK K
    refine wpList_step (fun K hK => ?_)
    go_simp
    refine hK _ _ ?_
    clear hK K
    refine wpList_plain rfl (fun K hK => ?_)
    go_simp
    refine hK _ _ ?_
    clear hK K
    simp only [wpList]
    refine h _ ?_ ?_
    · repeat' (first | (with_reducible exact hf) | (with_reducible refine Fr.put' ?_ _ (by omega) _))
    · simp [Act.eval, n1, isSyl, d1]
  · have d1 : decide (44032 ≤ r) = false := by simpa using h1
    conv => arg 2; whnf
    apply wp_region_lit
    refine wpList_plain rfl (fun K hK => ?_)
    go_simp
    refine hK _ _ ?_
    clear hK K
    refine wpList_plain rfl (fun K hK => ?_)
    go_simp
    refine hK _ _ ?_
    clear hK K
    refine wpList_plain rfl (fun K hK => ?_)
    go_simp
    refine hK _ _ ?_
    clear hK K
    refine wpList_step (fun K hK => ?_)
    go_simp
    refine hK _ _ ?_
    clear hK K
    refine wpList_step (fun K hK => ?_)
    go_simp
    refine hK _ _ ?_
    clear hK K
    refine wpList_plain rfl (fun K hK => ?_)
    go_simp
    refine hK _ _ ?_
    clear hK K
    simp only [wpList]
    refine h _ ?_ ?_
    · repeat' (first | (with_reducible exact hf) | (with_reducible refine Fr.put' ?_ _ (by omega) _))
    · simp [Act.eval, n1, isSyl, d1]

theorem refLen : refCases.length = 211 := by kernel_rfl
theorem ref_result {r : Int} {b : Nat} {a : Act} {W : World} {c : Cl} (hf : Fr 862 r b a) (hW : Blk W b 74 c.vs) : (results Try.f57 a.tmps).run Try.prog W = .ok c.v W := by
  have c0 := hW.cell 0 rfl
  have c1 := hW.cell 1 rfl
  have c2 := hW.cell 2 rfl
  have c3 := hW.cell 3 rfl
  have c4 := hW.cell 4 rfl
  have n1 : 2 < a.tmps.size := by rw [hf.1]; omega
  have n2 : a.tmps[2]'n1 = .pointer (some ⟨b, 0, none⟩) := by have := hf.2.2.1; rw [Array.getElem?_eq_getElem n1] at this; exact Option.some.inj this
  simp [results, Try.results57, go_sem, n1, n2, c0, c1, c2, c3, c4]

theorem rfind_other (r : Int) (w : World) (hr : -2147483648 ≤ r ∧ r ≤ 2147483647) (hs : isSyl r = false) :
    Calls Try.prog 57 #[.int .i32 r] w fun e w' => e = .returned (cls r).v ∧ Grew w w' := by
  have hl := refLen
  refine calls_of_wp Try.func57 refBody_is ?_
  rw [Try.ntmps57]
  have hF : Fr0 862 r ⟨#[.int .i32 r] ++ Array.replicate (862 - (#[Value.int .i32 r] : Array Value).size) undef, []⟩ := ⟨by rw [Array.size_append, Array.size_replicate]; rfl, by rw [Array.getElem?_append_left (Nat.zero_lt_one)]; rfl, rfl⟩
  generalize (⟨#[.int .i32 r] ++ Array.replicate (862 - (#[Value.int .i32 r] : Array Value).size) undef, []⟩ : Act) = a at hF ⊢
  refine wp_seq (refR0_wp hF fun a hF => ?_)
  refine wp_seq (wp_seq (refR1_wp hF hr fun a hF he => ?_))
  refine wp_cond_split he (fun ht => by rw [hs] at ht; cases ht) (fun _ => wp_skip ?_)
  have hc : ∀ c, cls r = c ↔ (lkC refCases r).getD Cl.zero = c := by intro c; unfold cls; rw [hs]; rfl
  refine wp_seq (wp_block (chain_wp hr (Blk.new rfl) ((Grew.refl w).alloc _) (Nat.le_refl _) (posL refBlock) refCases 17 6 a (by omega) (by omega) hF ?_ ?_))
  · intro a' W' c h1 h2 h3 h4
    have : cls r = c := by rw [hc, h1]; rfl
    rw [this]
    exact bodyPost_ret (R := fun e w' => e = .returned c.v ∧ Grew w w') (ref_result h2 h3) h2.2.2.2 ⟨rfl, h4⟩
  · intro a' h1 h2
    have : cls r = Cl.zero := by rw [hc, h1]; rfl
    rw [this]
    refine wp_seq (row_wp _ _ _ none _ w _ (by omega) (by omega) h2 (Blk.new rfl) ((Grew.refl w).alloc _) (Nat.le_refl _) fun a W h2 h3 h4 => ?_)
    exact wp_ret (bodyPost_ret (R := fun e w' => e = .returned Cl.zero.v ∧ Grew w w') (ref_result h2 h3) h2.2.2.2 ⟨rfl, h4⟩)

theorem refR2_wp {Q : Exit → Act → World → Prop} {r : Int} {b : Nat} {a : Act} {W : World} (hf : Fr 862 r b a)
    (h : ∀ a', Fr 862 r b a' → a'.eval (.tmp 3) = .pointer (some ⟨W.heap.size, 0, none⟩) → Q .normal a' ((W.alloc (.cells (Cl.mk 13 3 18 0 0).vs.toArray 74)))) : refR2.wp Try.prog Q a W := by
  have n1 := hf.1
  conv => arg 2; whnf
  apply wp_region_lit
  refine wpList_plain rfl (fun K hK => ?_)
  go_simp
  refine hK _ _ ?_
  clear hK K
  refine wpList_plain rfl (fun K hK => ?_)
  go_simp
  refine hK _ _ ?_
  clear hK K
  refine wpList_plain rfl (fun K hK => ?_)
  go_simp
  refine hK _ _ ?_
  clear hK K
  simp only [wpList]
  refine h _ ?_ ?_
  · repeat' (first | (with_reducible exact hf) | (with_reducible refine Fr.put' ?_ _ (by omega) _))
  · simp [Act.eval, n1]
theorem refR3_wp {Q : Exit → Act → World → Prop} {r : Int} {b : Nat} {p : Value} {a : Act} {W : World} (hf : Fr 862 r b a) (h3 : a.eval (.tmp 3) = p) (g1 : 44032 ≤ r) (g2 : r ≤ 55203)
    (h : ∀ a', Fr 862 r b a' → a'.eval (.tmp 3) = p → a'.eval (.tmp 14) = .bool (decide ((r - 44032) % 28 = 0)) → Q .normal a' W) : refR3.wp Try.prog Q a W := by
  have n1 := hf.1
  have n2 := hf.2.1
  have n3 : a.tmps[0]'(by omega) = .int .i32 r := by rw [Array.getElem?_eq_getElem (by omega)] at n2; exact Option.some.inj n2
  have n4 : a.tmps[3]'(by omega) = p := by rw [← h3]; simp [Act.eval, n1]
  clear h3
  conv => arg 2; whnf
  apply wp_region_lit
  refine wpList_plain rfl (fun K hK => ?_)
  go_simp
  refine hK _ _ ?_
  clear hK K
  refine wpList_plain rfl (fun K hK => ?_)
  go_simp
  refine hK _ _ ?_
  clear hK K
  refine wpList_plain rfl (fun K hK => ?_)
  go_simp
  refine hK _ _ ?_
  clear hK K
  refine wpList_plain rfl (fun K hK => ?_)
  go_simp
  refine hK _ _ ?_
  clear hK K
  simp only [wpList]
  refine h _ ?_ ?_ ?_
  · repeat' (first | (with_reducible exact hf) | (with_reducible refine Fr.put' ?_ _ (by omega) _))
  · simp [Act.eval, n1, n4]
  · have hw : IntKind.i32.wrap (r - 44032) = r - 44032 := by rw [IntKind.wrap_i32]; omega
    have ht : (r - 44032).tmod 28 = (r - 44032) % 28 := Int.tmod_eq_emod_of_nonneg (by omega)
    simp only [Act.eval, Array.getD_eq_getD_getElem?, Array.getElem?_setIfInBounds, Array.size_setIfInBounds, n1, hw, ht]
    simp
    rfl
theorem refR4_wp {Q : Exit → Act → World → Prop} {r : Int} {b p : Nat} {x : Int} {a : Act} {W : World} (hf : Fr 862 r b a) (h3 : a.eval (.tmp 3) = .pointer (some ⟨p, 0, none⟩))
    (hW : Blk W p 74 (Cl.mk x 3 18 0 0).vs)
    (h : ∀ a', Fr 862 r b a' → a'.eval (.tmp 3) = .pointer (some ⟨p, 0, none⟩) → Q .normal a' (W.setCell ⟨p, 0, none⟩ (.int .i64 12))) : refR4.wp Try.prog Q a W := by
  have n1 := hf.1
  have n4 : a.tmps[3]'(by omega) = .pointer (some ⟨p, 0, none⟩) := by rw [← h3]; simp [Act.eval, n1]
  clear h3
  have c0 := hW.cell 0 rfl
  have f0 := hW.free 0
  conv => arg 2; whnf
  apply wp_region_lit
  refine wpList_plain rfl (fun K hK => ?_)
  go_simp
  refine hK _ _ ?_
  clear hK K
  refine wpList_plain rfl (fun K hK => ?_)
  go_simp
  refine hK _ _ ?_
  clear hK K
  simp only [wpList]
  refine h _ ?_ ?_
  · repeat' (first | (with_reducible exact hf) | (with_reducible refine Fr.put' ?_ _ (by omega) _))
  · simp [Act.eval, n1, n4]
theorem refR5_wp {Q : Exit → Act → World → Prop} {r : Int} {b p : Nat} {c : Cl} {a : Act} {w W : World} (hf : Fr 862 r b a) (h3 : a.eval (.tmp 3) = .pointer (some ⟨p, 0, none⟩))
    (hp : Blk W p 74 c.vs) (hW : Blk W b 74 Cl.zero.vs) (hg : Grew w W) (hb : w.heap.size ≤ b)
    (h : ∀ a' W', Fr 862 r b a' → Blk W' b 74 c.vs → Grew w W' → Q .normal a' W') : refR5.wp Try.prog Q a W := by
  have n1 := hf.1
  have n4 : a.tmps[3]'(by omega) = .pointer (some ⟨p, 0, none⟩) := by rw [← h3]; simp [Act.eval, n1]
  have n5 : a.tmps[2]'(by omega) = .pointer (some ⟨b, 0, none⟩) := by have := hf.2.2.1; rw [Array.getElem?_eq_getElem (by omega)] at this; exact Option.some.inj this
  clear h3
  have c0 := hW.cell 0 rfl
  have c1 := hW.cell 1 rfl
  have c2 := hW.cell 2 rfl
  have c3 := hW.cell 3 rfl
  have c4 := hW.cell 4 rfl
  have f0 := hW.free 0
  have f1 := hW.free 1
  have f2 := hW.free 2
  have f3 := hW.free 3
  have f4 := hW.free 4
  have d0 := hp.cell 0 rfl
  have d1 := hp.cell 1 rfl
  have d2 := hp.cell 2 rfl
  have d3 := hp.cell 3 rfl
  have d4 := hp.cell 4 rfl
  have H1 := h ⟨a.tmps.setIfInBounds 16 c.v, a.defers⟩ (((((W.setCell ⟨b, 0, none⟩ (.int .i64 c.b)).setCell ⟨b, 1, none⟩ (.int .i64 c.w)).setCell ⟨b, 2, none⟩ (.int .i64 c.l)).setCell ⟨b, 3, none⟩ (.int .i64 c.d)).setCell ⟨b, 4, none⟩ (.int .i64 c.j)) (hf.put 16 (by omega) _) (((((hW.set 0 _).set 1 _).set 2 _).set 3 _).set 4 _) (((((hg.setCell hb _).setCell hb _).setCell hb _).setCell hb _).setCell hb _)
  clear h hg hp hW hf
  conv => arg 2; whnf
  apply wp_region_lit
  refine wpList_plain rfl (fun K hK => ?_)
  go_simp
  refine hK _ _ ?_
  clear hK K
  refine wpList_plain rfl (fun K hK => ?_)
  go_simp
  refine hK _ _ ?_
  clear hK K
  simp only [wpList]
  exact H1

theorem rfind_syl (r : Int) (w : World) (hr : -2147483648 ≤ r ∧ r ≤ 2147483647) (hs : isSyl r = true) :
    Calls Try.prog 57 #[.int .i32 r] w fun e w' => e = .returned (cls r).v ∧ Grew w w' := by
  have g : 44032 ≤ r ∧ r ≤ 55203 := by simpa [isSyl] using hs
  refine calls_of_wp Try.func57 refBody_is ?_
  rw [Try.ntmps57]
  have hF : Fr0 862 r ⟨#[.int .i32 r] ++ Array.replicate (862 - (#[Value.int .i32 r] : Array Value).size) undef, []⟩ := ⟨by rw [Array.size_append, Array.size_replicate]; rfl, by rw [Array.getElem?_append_left (Nat.zero_lt_one)]; rfl, rfl⟩
  generalize (⟨#[.int .i32 r] ++ Array.replicate (862 - (#[Value.int .i32 r] : Array Value).size) undef, []⟩ : Act) = a at hF ⊢
  refine wp_seq (refR0_wp hF fun a hF => ?_)
  refine wp_seq (wp_seq (refR1_wp hF hr fun a hF he => ?_))
  refine wp_cond_split he (fun _ => ?_) (fun ht => by rw [hs] at ht; cases ht)
  have B0 : Blk (w.alloc (.cells Cl.zero.vs.toArray 74)) w.heap.size 74 Cl.zero.vs := Blk.new rfl
  have G0 : Grew w (w.alloc (.cells Cl.zero.vs.toArray 74)) := (Grew.refl w).alloc _
  have hz : w.heap.size < (w.alloc (.cells Cl.zero.vs.toArray 74)).heap.size := by simp
  generalize w.alloc (.cells Cl.zero.vs.toArray 74) = W at *
  rw [refSyl_is]
  refine wp_seq (refR2_wp hF fun a hF h3 => ?_)
  have B1 := B0.alloc (.cells (Cl.mk 13 3 18 0 0).vs.toArray 74)
  have G1 := G0.alloc (.cells (Cl.mk 13 3 18 0 0).vs.toArray 74)
  have C1 : Blk (W.alloc (.cells (Cl.mk 13 3 18 0 0).vs.toArray 74)) W.heap.size 74 (Cl.mk 13 3 18 0 0).vs := Blk.new rfl
  refine wp_seq (wp_seq (refR3_wp hF h3 g.1 g.2 fun a hF h3 he => ?_))
  refine wp_cond_split he (fun ht => ?_) (fun ht => wp_skip ?_)
  · have hc : cls r = Cl.mk 12 3 18 0 0 := by unfold cls; rw [hs, if_pos rfl, if_pos (of_decide_eq_true ht)]
    refine refR4_wp hF h3 C1 fun a hF h3 => ?_
    refine wp_seq (refR5_wp (c := Cl.mk 12 3 18 0 0) hF h3 (C1.set 0 _) (B1.other (by omega) _) (G1.setCell (G0.size) _) (Nat.le_refl _) fun a W hF hB hG => ?_)
    exact wp_ret (bodyPost_ret (R := fun e w' => e = .returned (cls r).v ∧ Grew w w') (ref_result (c := Cl.mk 12 3 18 0 0) hF hB) hF.2.2.2 ⟨by rw [hc], hG⟩)
  · have hc : cls r = Cl.mk 13 3 18 0 0 := by unfold cls; rw [hs, if_pos rfl, if_neg (of_decide_eq_false ht)]
    refine wp_seq (refR5_wp hF h3 C1 B1 G1 (Nat.le_refl _) fun a W hF hB hG => ?_)
    exact wp_ret (bodyPost_ret (R := fun e w' => e = .returned (cls r).v ∧ Grew w w') (ref_result hF hB) hF.2.2.2 ⟨by rw [hc], hG⟩)

theorem rfind_any (r : Int) (w : World) (hr : -2147483648 ≤ r ∧ r ≤ 2147483647) :
    Calls Try.prog 57 #[.int .i32 r] w fun e w' => e = .returned (cls r).v ∧ Grew w w' := by
  cases hs : isSyl r
  · exact rfind_other r w hr hs
  · exact rfind_syl r w hr hs
end Go.Proofs.Ytfiaongnogiegaa
