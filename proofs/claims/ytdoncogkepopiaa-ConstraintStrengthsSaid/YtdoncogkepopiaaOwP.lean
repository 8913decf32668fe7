/- Lists of different elements that grow in turns do not meet; what append has made of bools reads as a row of bools; no condition. -/
import Derived.Test.YtdoncogkepopiaaFlat
import Derived.Test.YtdoncogkepopiaaCoS
namespace Go.Proofs.Ytdoncogkepopiaa
open Go.RowKit Go.Sort
set_option linter.unusedVariables false
set_option linter.unusedSimpArgs false

theorem own_moveP {w w' : World} {base : Nat} {e : TypeId} {size : Nat} {v : Value} {n : Nat} {xs : List Value} (h : w.ownsRow base e size v n xs) (hb : ∀ b, v.ownBlock = some b → w'.heap[b]? = w.heap[b]?) : w'.ownsRow base e size v n xs := by
  refine ⟨h.1, ?_⟩
  rcases h.2 with hn | ⟨g, cap, cur, rfl, h1, h2, h3⟩
  · exact Or.inl hn
  · exact Or.inr ⟨g, cap, cur, rfl, h1, (hb g rfl).trans h2, h3⟩
theorem own_belowP {w w' : World} {base : Nat} {e : TypeId} {size : Nat} {v : Value} {n : Nat} {xs : List Value} (h : w.ownsRow base e size v n xs) (hb : Below w.heap.size w w') : w'.ownsRow base e size v n xs :=
  own_moveP h fun b hv => hb.block b (h.lt b hv).2
theorem own_grownP {w w' : World} {base base' : Nat} {e e' : TypeId} {size size' : Nat} {v u : Value} {n n' : Nat} {xs xs' : List Value} (h : w.ownsRow base e size v n xs) (h' : w.ownsRow base' e' size' u n' xs') (he : e ≠ e') (hg : w.grownBy w' u.ownBlock) : w'.ownsRow base e size v n xs :=
  own_moveP h fun b hv => hg.block b (h.lt b hv).2 fun hu => by
    rcases h.2 with ⟨rfl, _⟩ | ⟨g, cap, cur, rfl, _, h2, _⟩
    · exact absurd hv (by simp [Value.ownBlock])
    · rcases h'.2 with ⟨rfl, _⟩ | ⟨g', cap', cur', rfl, _, h2', _⟩
      · exact absurd hu (by simp [Value.ownBlock])
      · simp [Value.ownBlock] at hv hu
        subst hv
        subst hu
        rw [h2] at h2'
        simp at h2'
        exact he h2'.2
theorem blk_grownP {w w' : World} {base' b : Nat} {e e' : TypeId} {size' : Nat} {u : Value} {n' : Nat} {vs xs' : List Value} (h : Blk w b e vs) (h' : w.ownsRow base' e' size' u n' xs') (he : e ≠ e') (hg : w.grownBy w' u.ownBlock) : Blk w' b e vs :=
  (hg.block b h.lt fun hu => by
    rcases h'.2 with ⟨rfl, _⟩ | ⟨g', cap', cur', rfl, _, h2', _⟩
    · exact absurd hu (by simp [Value.ownBlock])
    · simp [Value.ownBlock] at hu
      subst hu
      have h2 : w.heap[b]? = some (.cells vs.toArray e (0, 0)) := h
      rw [h2] at h2'
      simp at h2'
      exact he h2'.2).trans h
def bvC (f : Nat → Bool) (i j : Nat) : Value := .bool (f i)
theorem SRow.breads {w : World} {p : Option Addr} {n : Nat} {f : Nat → Bool} (h : SRow w p n 1 (bvC f)) : BReads w p n f := fun hn => by
  obtain ⟨b, off, e, hb, hc⟩ := h hn
  refine ⟨b, off, e, hb, fun k hk => ?_⟩
  have := hc k hk 0 (by omega)
  rw [Nat.mul_one, Nat.add_zero] at this
  exact this
end Go.Proofs.Ytdoncogkepopiaa
