/- Order and Runs, the package's and the references', for whatever levels; what they return is alike. -/
import Derived.Test.YtdkmjhbkjhikfaaBdG
import Derived.Test.YtdkmjhbkjhikfaaBdH
import Derived.Test.YtdkmjhbkjhikfaaBdK
namespace Go.Proofs.Ytdkmjhbkjhikfaa
open Go.RowKit Go.Sort
set_option linter.unusedVariables false
set_option linter.unusedSimpArgs false

/-- What Order returns for the levels f. -/
def OrdV (f : Nat → Int) (n : Nat) (v : Value) (w : World) : Prop :=
  (InR f n ∧ ∃ ob, v = .slice (some ⟨ob, 0, none⟩) n n ∧ ∃ o, IRow w ob n o ∧ OrdR f n 1 o) ∨ (¬ InR f n ∧ v = .slice none 0 0)
theorem OrdV.grew {f : Nat → Int} {n : Nat} {v : Value} {w w' : World} (h : OrdV f n v w) (g : Grew w w') : OrdV f n v w' := by
  rcases h with ⟨h1, ob, h2, o, h3, h4⟩ | h
  · exact Or.inl ⟨h1, ob, h2, o, h3.grew g, h4⟩
  · exact Or.inr h
theorem Order_all (n c : Nat) (p : Option Addr) (f : Nat → Int) (w : World) (hl : Reads w p n f) (hn : n ≤ 2000) :
    Calls Try.prog 10 #[.slice p n c] w fun e w' => ∃ v, e = .returned v ∧ Grew w w' ∧ OrdV f n v w' := by
  by_cases h : InR f n
  · exact (Order_any n c p f w hl hn h).mono fun e w' ⟨ob, h1, h2, _, o, h3, h4⟩ => ⟨_, h1, h2, Or.inl ⟨h, ob, rfl, o, h3, h4⟩⟩
  · exact (Order_bad n c p f w hl hn h).mono fun e w' ⟨h1, h2⟩ => ⟨_, h1, h2, Or.inr ⟨h, rfl⟩⟩
theorem refOrder_all (n c : Nat) (p : Option Addr) (f : Nat → Int) (w : World) (hl : Reads w p n f) (hn : n ≤ 2000) :
    Calls Try.prog 16 #[.slice p n c] w fun e w' => ∃ v, e = .returned v ∧ Grew w w' ∧ OrdV f n v w' := by
  by_cases h : InR f n
  · exact (refOrder_any n c p f w hl hn h).mono fun e w' ⟨ob, h1, h2, _, o, h3, h4⟩ => ⟨_, h1, h2, Or.inl ⟨h, ob, rfl, o, h3, h4⟩⟩
  · exact (refOrder_bad n c p f w hl hn h).mono fun e w' ⟨h1, h2⟩ => ⟨_, h1, h2, Or.inr ⟨h, rfl⟩⟩
/-- Two values that read alike. -/
def Alike2 (v1 v2 : Value) (w : World) : Prop := ∃ p q m c1 c2 X, v1 = .slice p m c1 ∧ v2 = .slice q m c2 ∧ m ≤ 1048576 ∧ Reads w p m X ∧ Reads w q m X
theorem ord_pair {f : Nat → Int} {n : Nat} {v1 v2 : Value} {w : World} (hn : n ≤ 2000) (h1 : OrdV f n v1 w) (h2 : OrdV f n v2 w) : Alike2 v1 v2 w := by
  rcases h1 with ⟨a1, ob, a2, o, a3, a4⟩ | ⟨a1, a2⟩
  · rcases h2 with ⟨b1, ob', b2, o', b3, b4⟩ | ⟨b1, b2⟩
    · exact ⟨_, _, n, n, n, o, a2, b2, by omega, a3.reads, (b3.congr fun i hi => b4.uniq a4 i hi).reads⟩
    · exact absurd a1 b1
  · rcases h2 with ⟨b1, ob', b2, o', b3, b4⟩ | ⟨b1, b2⟩
    · exact absurd b1 a1
    · exact ⟨none, none, 0, 0, 0, fun _ => 0, a2, b2, by omega, fun h => by omega, fun h => by omega⟩
def RunV (f : Nat → Int) (n : Nat) (v : Value) (w : World) : Prop := ∃ p c, v = .slice p (runsL f n n).length c ∧ Reads w p (runsL f n n).length (fun k => (runsL f n n).getD k 0)
theorem RunV.grew {f : Nat → Int} {n : Nat} {v : Value} {w w' : World} (h : RunV f n v w) (g : Grew w w') : RunV f n v w' := by
  obtain ⟨p, c, h1, h2⟩ := h; exact ⟨p, c, h1, h2.grew g⟩
theorem Runs_all (n c : Nat) (p : Option Addr) (f : Nat → Int) (w : World) (hl : Reads w p n f) (hn : n ≤ 2000) :
    Calls Try.prog 17 #[.slice p n c] w fun e w' => ∃ v, e = .returned v ∧ Grew w w' ∧ RunV f n v w' :=
  (Runs_any n c p f w hl hn).mono fun e w' ⟨v, h1, h2⟩ => ⟨v, h1, h2.1, own_reads h2.2⟩
theorem refRuns_all (n c : Nat) (p : Option Addr) (f : Nat → Int) (w : World) (hl : Reads w p n f) (hn : n ≤ 2000) :
    Calls Try.prog 18 #[.slice p n c] w fun e w' => ∃ v, e = .returned v ∧ Grew w w' ∧ RunV f n v w' :=
  (refRuns_any n c p f w hl hn).mono fun e w' ⟨v, h1, h2⟩ => ⟨v, h1, h2.1, own_reads h2.2⟩
theorem run_pair {f : Nat → Int} {n : Nat} {v1 v2 : Value} {w : World} (hn : n ≤ 2000) (h1 : RunV f n v1 w) (h2 : RunV f n v2 w) : Alike2 v1 v2 w := by
  obtain ⟨p, c, a1, a2⟩ := h1
  obtain ⟨q, d, b1, b2⟩ := h2
  exact ⟨p, q, _, c, d, _, a1, b1, by have := runsL_len f n n; omega, a2, b2⟩
theorem equal_alike {v1 v2 : Value} {w : World} (h : Alike2 v1 v2 w) : Calls Try.prog 15 #[v1, v2] w fun e w' => e = .returned (.bool true) ∧ Grew w w' := by
  obtain ⟨p, q, m, c1, c2, X, rfl, rfl, hm, a, b⟩ := h
  exact equal_yes p q m c1 c2 X w hm a b
end Go.Proofs.Ytdkmjhbkjhikfaa
