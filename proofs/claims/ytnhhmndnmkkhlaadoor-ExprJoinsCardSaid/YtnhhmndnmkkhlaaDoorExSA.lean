/- A region that draws its order: the first operations read and call, then a store into an old box and an assignment; no condition. -/
import Derived.Test.YtnhhmndnmkkhlaaDoorExA
namespace Go.Proofs.YtnhhmndnmkkhlaaDoor
open Go.RowKit Go.Sort
set_option linter.unusedVariables false

theorem does_to {P : Program} {o : Oper} {ev : Operand → Value} {w : World} {R R' : Value → World → Prop} (h : does P o ev w R) (hr : ∀ v w', R v w' → R' v w') : does P o ev w R' := by
  unfold does at *
  generalize (execOp ev o).run P w = r at *
  cases r with
  | ok n w' =>
    cases n <;> simp only [doesUpon] at h ⊢
    case value u => exact hr _ _ h
    case skip => exact hr _ _ h
    case enter f args => exact h.mono fun e w'' ⟨v, he, hv⟩ => ⟨v, he, hr _ _ hv⟩
  | halt x w' => simp only [doesUpon] at h
def saM (s : Nat) (v : Value) (f : World → World) (w0 : World) (D : Nat → Bool) (vs : Nat → Value) (w : World) : Prop :=
  (D s = false ∧ D (s + 1) = false ∧ Grew w0 w) ∨ (D s = true ∧ (D (s + 1) = true → vs (s + 1) = v) ∧ ∃ w1, Grew w0 w1 ∧ w = f w1)
theorem wp_region_sa {P : Program} {id : Nat} {Q : Exit → Act → World → Prop} {a0 : Act} {w0 : World} {l : List Oper} (s d : Nat) (v : Value) (f : World → World)
    (hm : P.follows .mixedOrders = true) (hB : mixB l.toArray [s, s + 1] [(d, s + 1)] = true) (hfits : d < a0.tmps.size) (hn : l.length = s + 2) (hs : Region.sinkB .any l.toArray s = true)
    (h : wpLex P l.toArray [s, s + 1] [(d, s + 1)] (saM s v f w0) w0 (fun af => ∀ vs w, saM s v f w0 (fun _ => true) vs w → Q .normal (fillS [(d, s + 1)] vs af) w) 0 l a0) :
    (Code.region id l.toArray true).wp P Q a0 w0 := by
  refine wp_region_mixed [s, s + 1] [(d, s + 1)] (saM s v f w0) hm hB (by simpa using hfits) ?_ ?_ ?_ h
  · intro vs
    exact .inl ⟨rfl, rfl, (Grew.refl _).drew⟩
  · rintro D D' vs vs' w hD hM
    have h1 := hD s (by simp)
    have h2 := hD (s + 1) (by simp)
    rcases hM with ⟨a, b, c⟩ | ⟨a, b, c⟩
    · exact .inl ⟨by rw [← h1.1]; exact a, by rw [← h2.1]; exact b, c⟩
    · refine .inr ⟨by rw [← h1.1]; exact a, fun e => ?_, c⟩
      rw [← h2.1] at e
      rw [← h2.2 e]
      exact b e
  · rintro D vs w i hM hi hb hDi hcl
    have his : i < s := by
      rcases Nat.lt_or_ge i s with h5 | h5
      · exact h5
      · exfalso
        have : i = s ∨ i = s + 1 := by omega
        rcases this with rfl | rfl <;> simp at hb
    rcases hM with ⟨a, b, c⟩ | ⟨a, b, c⟩
    · exact ⟨c, fun w' hg => .inl ⟨a, b, c.trans hg⟩⟩
    · have := sink_done hs hcl a _ i rfl his
      rw [hDi] at this; cases this
section
variable {P : Program} {ops : Array Oper} {s d : Nat} {v : Value} {f : World → World} {w0 : World} {Q : Act → Prop} {o : Oper} {rest : List Oper} {a : Act}
theorem lex_sa_store (hg : o.guard = none) (h : ∀ (vs : Nat → Value) (w : World), Grew w0 w → does P o (evS [(d, s + 1)] vs a) w fun _ w' => w' = f w)
    (hr : wpLex P ops [s, s + 1] [(d, s + 1)] (saM s v f w0) w0 Q (s + 1) rest (a.put o.dst undef)) : wpLex P ops [s, s + 1] [(d, s + 1)] (saM s v f w0) w0 Q s (o :: rest) a := by
  refine lex_made (by simp) hg ?_ hr
  rintro D vs w hM hD hcl hdep
  rcases hM with ⟨a1, b1, c1⟩ | ⟨a1, b1, c1⟩
  · refine does_to (h vs w c1) ?_
    rintro u w' rfl
    refine .inr ⟨by simp [upd], fun e => ?_, w, c1, rfl⟩
    simp [upd] at e
    rw [b1] at e; cases e
  · rw [hD] at a1; cases a1
theorem lex_sa_assign (hg : o.guard = none) (hw : Region.waitsFor .any ops (s + 1) s = true) (h : ∀ (vs : Nat → Value) (w : World), does P o (evS [(d, s + 1)] vs a) w fun u w' => u = v ∧ w' = w)
    (hr : wpLex P ops [s, s + 1] [(d, s + 1)] (saM s v f w0) w0 Q (s + 1 + 1) rest (a.put o.dst undef)) : wpLex P ops [s, s + 1] [(d, s + 1)] (saM s v f w0) w0 Q (s + 1) (o :: rest) a := by
  refine lex_made (by simp) hg ?_ hr
  rintro D vs w hM hD hcl hdep
  have hDs := hdep s hw
  rcases hM with ⟨a1, b1, c1⟩ | ⟨a1, b1, c1⟩
  · rw [hDs] at a1; cases a1
  · refine does_to (h vs w) ?_
    rintro u w' ⟨rfl, rfl⟩
    exact .inr ⟨by simp [upd, hDs], fun _ => by simp [upd], c1⟩
end
end Go.Proofs.YtnhhmndnmkkhlaaDoor
