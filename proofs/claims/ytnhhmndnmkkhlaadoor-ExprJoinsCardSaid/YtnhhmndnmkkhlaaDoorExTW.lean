/- A region that draws its order: operations that make values which stay right when the world grows (all before the store), a store, and operations E that neither read nor write memory (before or behind the store); no condition. -/
import Derived.Test.YtnhhmndnmkkhlaaDoorExSA
namespace Go.Proofs.YtnhhmndnmkkhlaaDoor
open Go.RowKit Go.Sort
set_option linter.unusedVariables false

def twM (s : Nat) (E : List Nat) (Pv : Nat → Value → World → Prop) (A : Nat → Value → Prop) (St : (Nat → Value) → World → Prop) (w0 : World) (D : Nat → Bool) (vs : Nat → Value) (w : World) : Prop :=
  ((D s = false ∧ Grew w0 w ∧ ∀ k, k < s → E.contains k = false → D k = true → Pv k (vs k) w) ∨ (D s = true ∧ (∀ k, k < s → E.contains k = false → D k = true) ∧ St vs w)) ∧ ∀ k, E.contains k = true → D k = true → A k (vs k)
theorem wp_region_two {P : Program} {id : Nat} {Q : Exit → Act → World → Prop} {a0 : Act} {w0 : World} {l : List Oper} (s n : Nat) (E : List Nat) (S : List (Nat × Nat)) (Pv : Nat → Value → World → Prop) (A : Nat → Value → Prop) (St : (Nat → Value) → World → Prop)
    (hm : P.follows .mixedOrders = true) (hB : mixB l.toArray (List.range n) S = true) (hfits : ∀ p ∈ S, p.1 < a0.tmps.size) (hn : l.length = n) (hsn : s < n) (hE : ∀ k, E.contains k = true → k < n)
    (hSt : ∀ vs vs' w, (∀ k, k < s → E.contains k = false → vs k = vs' k) → St vs w → St vs' w)
    (h : wpLex P l.toArray (List.range n) S (twM s E Pv A St w0) w0 (fun af => ∀ vs w, twM s E Pv A St w0 (fun _ => true) vs w → Q .normal (fillS S vs af) w) 0 l a0) :
    (Code.region id l.toArray true).wp P Q a0 w0 := by
  refine wp_region_mixed (List.range n) S (twM s E Pv A St w0) hm hB hfits ?_ ?_ ?_ h
  · intro vs
    exact ⟨.inl ⟨rfl, (Grew.refl _).drew, fun k _ _ h => by cases h⟩, fun k _ h => by cases h⟩
  · rintro D D' vs vs' w hD ⟨hM, hA⟩
    have hk : ∀ k, k < n → D k = D' k ∧ (D k = true → vs k = vs' k) := fun k hk => hD k (List.mem_range.2 hk)
    refine ⟨?_, fun k h1 h2 => ?_⟩
    · rcases hM with ⟨a, b, c⟩ | ⟨a, b, d⟩
      · refine .inl ⟨by rw [← (hk s hsn).1]; exact a, b, fun k h1 h0 h2 => ?_⟩
        have h3 := hk k (by omega)
        rw [← h3.1] at h2
        rw [← h3.2 h2]
        exact c k h1 h0 h2
      · exact .inr ⟨by rw [← (hk s hsn).1]; exact a, fun k h1 h0 => by rw [← (hk k (by omega)).1]; exact b k h1 h0, hSt vs vs' w (fun k h1 h0 => (hk k (by omega)).2 (b k h1 h0)) d⟩
    · have h3 := hk k (hE k h1)
      rw [← h3.1] at h2
      rw [← h3.2 h2]
      exact hA k h1 h2
  · rintro D vs w i hM hi hb hDi hcl
    have : (List.range n).contains i = true := by simp; omega
    rw [hb] at this; cases this
section
variable {P : Program} {ops : Array Oper} {s n : Nat} {E : List Nat} {S : List (Nat × Nat)} {Pv : Nat → Value → World → Prop} {A : Nat → Value → Prop} {St : (Nat → Value) → World → Prop} {w0 : World} {Q : Act → Prop} {o : Oper} {rest : List Oper} {a : Act}
/-- One of the operations before the store. -/
theorem lex_two (i : Nat) (hi : i < s) (hin : i < n) (hiE : E.contains i = false) (hg : o.guard = none) (hst : ∀ k v w w', Grew w w' → Pv k v w → Pv k v w')
    (h : ∀ (vs : Nat → Value) (w : World), Grew w0 w → (∀ k, k < s → E.contains k = false → Region.waitsFor .any ops i k = true → Pv k (vs k) w) → does P o (evS S vs a) w fun v w' => Grew w w' ∧ Pv i v w')
    (hr : wpLex P ops (List.range n) S (twM s E Pv A St w0) w0 Q (i + 1) rest (a.put o.dst undef)) : wpLex P ops (List.range n) S (twM s E Pv A St w0) w0 Q i (o :: rest) a := by
  refine lex_made (by simp; exact hin) hg ?_ hr
  rintro D vs w ⟨hM, hA⟩ hD hcl hdep
  rcases hM with ⟨a1, b1, c1⟩ | ⟨a1, b1, d1⟩
  · refine does_to (h vs w b1 fun k hk hE hw => c1 k hk hE (hdep k hw)) ?_
    rintro v w' ⟨hg, hp⟩
    refine ⟨.inl ⟨?_, b1.trans hg, fun k hk hE hd => ?_⟩, fun k hE hd => ?_⟩
    · simp only [upd]; rw [if_neg (by omega)]; exact a1
    · by_cases e : k = i
      · subst e; simpa [upd] using hp
      · simp only [upd, if_neg e] at hd ⊢
        exact hst _ _ _ _ hg (c1 k hk hE hd)
    · have e : k ≠ i := by rintro rfl; rw [hiE] at hE; cases hE
      simp only [upd, if_neg e] at hd ⊢
      exact hA k hE hd
  · rw [b1 i hi hiE] at hD; cases hD
/-- The store. -/
theorem lex_two_store (hin : s < n) (hsE : E.contains s = false) (hall : (List.range s).all (fun k => E.contains k || Region.waitsFor .any ops s k) = true) (hg : o.guard = none)
    (hSt : ∀ vs vs' w, (∀ k, k < s → E.contains k = false → vs k = vs' k) → St vs w → St vs' w)
    (h : ∀ (vs : Nat → Value) (w : World), Grew w0 w → (∀ k, k < s → E.contains k = false → Pv k (vs k) w) → does P o (evS S vs a) w fun _ w' => St vs w')
    (hr : wpLex P ops (List.range n) S (twM s E Pv A St w0) w0 Q (s + 1) rest (a.put o.dst undef)) : wpLex P ops (List.range n) S (twM s E Pv A St w0) w0 Q s (o :: rest) a := by
  refine lex_made (by simp; exact hin) hg ?_ hr
  rintro D vs w ⟨hM, hA⟩ hD hcl hdep
  have hk : ∀ k, k < s → E.contains k = false → D k = true := fun k hk hE => hdep k (by
    have := List.all_eq_true.1 hall k (List.mem_range.2 hk)
    rw [hE, Bool.false_or] at this
    exact this)
  rcases hM with ⟨a1, b1, c1⟩ | ⟨a1, b1, d1⟩
  · refine does_to (h vs w b1 fun k hk' hE => c1 k hk' hE (hk k hk' hE)) ?_
    rintro v w' hs
    refine ⟨.inr ⟨by simp [upd], fun k hk' hE => by simp only [upd]; rw [if_neg (by omega)]; exact hk k hk' hE, hSt vs _ w' (fun k hk' _ => by simp only [upd]; rw [if_neg (by omega)]) hs⟩, fun k hE hd => ?_⟩
    have e : k ≠ s := by rintro rfl; rw [hsE] at hE; cases hE
    simp only [upd, if_neg e] at hd ⊢
    exact hA k hE hd
  · rw [hD] at a1; cases a1
/-- An operation that neither reads nor writes memory. -/
theorem lex_two_free (i : Nat) (hin : i < n) (hiE : E.contains i = true) (his : i ≠ s) (hg : o.guard = none)
    (hSt : ∀ vs vs' w, (∀ k, k < s → E.contains k = false → vs k = vs' k) → St vs w → St vs' w)
    (h : ∀ (vs : Nat → Value) (w : World), ((∀ k, k < s → E.contains k = false → Region.waitsFor .any ops i k = true → Pv k (vs k) w) ∨ St vs w) → (∀ k, E.contains k = true → Region.waitsFor .any ops i k = true → A k (vs k)) → does P o (evS S vs a) w fun v w' => w' = w ∧ A i v)
    (hr : wpLex P ops (List.range n) S (twM s E Pv A St w0) w0 Q (i + 1) rest (a.put o.dst undef)) : wpLex P ops (List.range n) S (twM s E Pv A St w0) w0 Q i (o :: rest) a := by
  refine lex_made (by simp; exact hin) hg ?_ hr
  rintro D vs w ⟨hM, hA⟩ hD hcl hdep
  have h1 := h vs w (by
    rcases hM with ⟨a1, b1, c1⟩ | ⟨a1, b1, d1⟩
    · exact .inl fun k hk hE hw => c1 k hk hE (hdep k hw)
    · exact .inr d1) (fun k hE hw => hA k hE (hdep k hw))
  refine does_to h1 ?_
  rintro v w' ⟨rfl, hv⟩
  have ne : ∀ k, E.contains k = false → k ≠ i := by rintro k hE rfl; rw [hiE] at hE; cases hE
  refine ⟨?_, fun k hE hd => ?_⟩
  · rcases hM with ⟨a1, b1, c1⟩ | ⟨a1, b1, d1⟩
    · refine .inl ⟨by simp only [upd]; rw [if_neg (by omega)]; exact a1, b1, fun k hk hE hd => ?_⟩
      simp only [upd, if_neg (ne k hE)] at hd ⊢
      exact c1 k hk hE hd
    · exact .inr ⟨by simp only [upd]; rw [if_neg (by omega)]; exact a1, fun k hk hE => by simp only [upd, if_neg (ne k hE)]; exact b1 k hk hE, hSt vs _ _ (fun k hk hE => by simp only [upd, if_neg (ne k hE)]) d1⟩
  · by_cases e : k = i
    · subst e; simpa [upd] using hv
    · simp only [upd, if_neg e] at hd ⊢
      exact hA k hE hd
end
end Go.Proofs.YtnhhmndnmkkhlaaDoor
