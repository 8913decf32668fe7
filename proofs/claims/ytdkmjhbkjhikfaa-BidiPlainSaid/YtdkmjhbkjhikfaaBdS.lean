/- All rules together on a sequence of simple classes without brackets: what becomes of the classes. -/
import Derived.Test.YtdkmjhbkjhikfaaBdR
namespace Go.Proofs.Ytdkmjhbkjhikfaa
open Go.RowKit Go.Sort
set_option linter.unusedVariables false
set_option linter.unusedSimpArgs false

theorem weak_any (sb cb c gb d n : Nat) (vr vt : Value) (lev st en : Int) (g : Nat → Int) (w : World) (H : SeqAt w sb cb c gb d n vr vt lev st en g g) (hs : ∀ k, k < n → Sm (g k)) (hn : n ≤ 100000) (hst : st = 0 ∨ st = 1) :
    Calls Try.prog 48 #[.pointer (some ⟨sb, 0, none⟩)] w fun e w' => e = .returned (.tuple #[]) ∧ ∃ f, St cb c n w w' f ∧ P3 n st g f := by
  have HH := hide H
  have HS := hide hs
  have HST := hide hst
  have K1 := hide (marks_any sb cb c gb d n vr vt lev st en g w H hs hn)
  have K2 := hide (arabic_any sb cb c gb d n vr vt lev st en g w H hs hn hst)
  have K3 := hide (seps_any sb cb c gb d n vr vt lev st en g w H hs hn)
  clear H hs hst
  go_enter Try.func48, Try.ntmps48
  go_wp2_with fail
  refine K1.out.mono ?_
  rintro e w' ⟨rfl, rfl⟩
  go_wp2_with fail
  refine K2.out.mono ?_
  rintro e w' ⟨rfl, rfl⟩
  go_wp2_with fail
  refine K3.out.mono ?_
  rintro e w1 ⟨rfl, f1, s1, p1⟩
  have S1 := hide s1
  have H1 := hide (HH.out.but s1.but s1.row)
  have K4 := hide (terms_any sb cb c gb d n vr vt lev st en g f1 w1 H1.out HS.out p1 hn)
  clear s1 p1
  go_wp2_with fail
  refine K4.out.mono ?_
  rintro e w2 ⟨rfl, f2, s2, p2⟩
  have S2 := hide s2
  have H2 := hide (H1.out.but s2.but s2.row)
  have K5 := hide (w7_any sb cb c gb d n vr vt lev st en g f2 w2 H2.out HS.out p2 hn HST.out)
  clear s2 p2
  go_wp2_with fail
  refine K5.out.mono ?_
  rintro e w3 ⟨rfl, f3, s3, p3⟩
  have S3 := hide (And.intro s3 p3)
  clear s3 p3
  go_wp2
  go_end0
  exact ⟨rfl, f3, ⟨(S1.out.but.trans S2.out.but).trans S3.out.1.but, S3.out.1.row⟩, S3.out.2⟩

theorem resolve_any (sb cb c gb d n tb ct : Nat) (vr : Value) (lev st en : Int) (g tx : Nat → Int) (w : World) (H : SeqAt w sb cb c gb d n vr (.slice (some ⟨tb, 0, none⟩) n ct) lev st en g g) (hs : ∀ k, k < n → Sm (g k)) (hn : n ≤ 100000) (hst : st = 0 ∨ st = 1)
    (ht : TRow w tb n tx) (htc : tb ≠ cb) (hx : ∀ k, k < n → g k = 7 → brS (tx k) = (0, 0)) (hw : ∀ k, k < n → -2147483648 ≤ tx k ∧ tx k ≤ 2147483647) :
    Calls Try.prog 23 #[.pointer (some ⟨sb, 0, none⟩)] w fun e w' => e = .returned (.tuple #[]) ∧ ∃ f, St cb c n w w' f ∧ PN n n lev st g f := by
  have HH := hide H
  have HS := hide hs
  have HST := hide hst
  have HT := hide ht
  have HX := hide hx
  have HW := hide hw
  have K1 := hide (weak_any sb cb c gb d n vr (.slice (some ⟨tb, 0, none⟩) n ct) lev st en g w H hs hn hst)
  clear H hs hst ht hx hw
  go_enter Try.func23, Try.ntmps23
  go_wp2_with fail
  refine K1.out.mono ?_
  rintro e w1 ⟨rfl, f1, s1, p1⟩
  have S1 := hide s1
  have P1 := hide p1
  have H1 := hide (HH.out.but s1.but s1.row)
  have K2 := hide (brackets_none sb cb c gb d n tb ct vr lev st en g f1 tx w1 H1.out hn (HT.out.same (s1.but.block tb HT.out.lt htc)) (fun k hk e => HX.out k hk (by
    have a := p1 k hk; have b := HS.out k hk; unfold Sm at b; omega)) HW.out)
  clear s1 p1
  go_wp2_with fail
  refine K2.out.mono ?_
  rintro e w2 ⟨rfl, G2⟩
  have H2 := hide (H1.out.grew G2)
  have K3 := hide (neutrals_any sb cb c gb d n vr (.slice (some ⟨tb, 0, none⟩) n ct) lev st en g f1 w2 H2.out hn HST.out (PN.start HS.out P1.out))
  have G2' := hide G2
  clear G2
  go_wp2_with fail
  refine K3.out.mono ?_
  rintro e w3 ⟨rfl, f3, s3, p3⟩
  have S3 := hide (And.intro s3 p3)
  clear s3 p3
  go_wp2
  go_end0
  exact ⟨rfl, f3, ⟨(S1.out.but.trans (But.of_grew G2'.out)).trans S3.out.1.but, S3.out.1.row⟩, S3.out.2⟩
end Go.Proofs.Ytdkmjhbkjhikfaa
