/- A region that draws its order: values that hang on one another and on the world, each of which stays right when another operation runs; no condition. -/
import Derived.Test.YtbmkamnjjfmdiaaMixJ
namespace Go.Proofs.Ytbmkamnjjfmdiaa
open Go.RowKit Go.Sort
namespace MJ
/-- What is right of the operations' values stays right. -/
def Stays (R : Nat → Value → World → Prop) (w w' : World) : Prop := ∀ b u, R b u w → R b u w'
section mixed
variable {P : Program} {ops : Array Oper}
theorem wp_region_free {id : Nat} {Q : Exit → Act → World → Prop} {a0 : Act} {w0 : World} {l : List Oper} (I : World → Prop) (R : Nat → Value → World → Prop) (B : List Nat) (S : List (Nat × Nat))
    (hm : P.follows .mixedOrders = true) (hB : mixB l.toArray B S = true) (hfits : ∀ p ∈ S, p.1 < a0.tmps.size) (h0 : I w0.drew)
    (h : wpLex P l.toArray B S (fun D vs w => I w ∧ ∀ b ∈ B, D b = true → R b (vs b) w) I (fun af => ∀ vs w, I w → (∀ b ∈ B, R b (vs b) w) → Q .normal (fillS S vs af) w) 0 l a0) : (Code.region id l.toArray true).wp P Q a0 w0 := by
  refine wp_region_mixed I B S (fun D vs w => I w ∧ ∀ b ∈ B, D b = true → R b (vs b) w) hm hB hfits (fun _ => ⟨h0, fun _ _ h => by cases h⟩) ?_ (fun D vs w i hM _ _ _ _ => hM.1) ?_
  · rintro D D' vs vs' w hD ⟨h1, h2⟩
    refine ⟨h1, fun b hb hd => ?_⟩
    obtain ⟨e1, e2⟩ := hD b hb
    rw [← e2 (by rw [e1]; exact hd)]
    exact h2 b hb (by rw [e1]; exact hd)
  · have key : ∀ (l' : List Oper) k a, wpLex P l.toArray B S (fun D vs w => I w ∧ ∀ b ∈ B, D b = true → R b (vs b) w) I (fun af => ∀ vs w, I w → (∀ b ∈ B, R b (vs b) w) → Q .normal (fillS S vs af) w) k l' a →
        wpLex P l.toArray B S (fun D vs w => I w ∧ ∀ b ∈ B, D b = true → R b (vs b) w) I (fun af => ∀ (vs : Nat → Value) w, (I w ∧ ∀ b ∈ B, (fun _ : Nat => true) b = true → R b (vs b) w) → Q .normal (fillS S vs af) w) k l' a := by
      intro l'
      induction l' with
      | nil => intro k a h; exact fun vs w hM => h vs w hM.1 fun b hb => hM.2 b hb rfl
      | cons o rest ih =>
        intro k a h
        unfold wpLex at h ⊢
        split
        · rename_i hb
          rw [if_pos hb] at h
          exact ⟨h.1, ih _ _ h.2⟩
        · rename_i hb
          rw [if_neg hb] at h
          split
          · rename_i hw
            rw [if_pos hw] at h
            obtain ⟨v, h1, h2⟩ := h
            exact ⟨v, h1, ih _ _ h2⟩
          · rename_i hw
            rw [if_neg hw] at h
            exact ih _ _ h
    exact key l 0 a0 h
section
variable {I : World → Prop} {R : Nat → Value → World → Prop} {B : List Nat} {S : List (Nat × Nat)} {Q : Act → Prop} {i : Nat} {o : Oper} {rest : List Oper} {a : Act}
/-- One operation of B: from I and from what it waits for. -/
theorem lex_free (hb : B.contains i = true) (hg : o.guard = none) (h : ∀ (vs : Nat → Value) (w : World), I w → (∀ k ∈ B, Region.waitsFor .any ops i k = true → R k (vs k) w) → does P o (evS S vs a) w fun v w' => I w' ∧ R i v w' ∧ Stays R w w')
    (hr : wpLex P ops B S (fun D vs w => I w ∧ ∀ b ∈ B, D b = true → R b (vs b) w) I Q (i + 1) rest (a.put o.dst undef)) : wpLex P ops B S (fun D vs w => I w ∧ ∀ b ∈ B, D b = true → R b (vs b) w) I Q i (o :: rest) a := by
  refine lex_made hb hg ?_ hr
  rintro D vs w ⟨h1, h2⟩ hD hcl hdep
  have := h vs w h1 fun k hk hw => h2 k hk (hdep k hw)
  unfold does at this ⊢
  generalize (execOp (evS S vs a) o).run P w = r at *
  have key : ∀ v w', (I w' ∧ R i v w' ∧ Stays R w w') → I w' ∧ ∀ b ∈ B, upd D i true b = true → R b (upd vs i v b) w' := by
    rintro v w' ⟨k1, k2, k3⟩
    refine ⟨k1, fun b hb hd => ?_⟩
    by_cases e : b = i
    · subst e; simpa [upd] using k2
    · simp only [upd, if_neg e] at hd ⊢; exact k3 _ _ (h2 b hb hd)
  cases r with
  | ok n w' =>
    cases n <;> simp only [doesUpon] at this ⊢
    case value u => exact key _ _ this
    case skip => exact key _ _ this
    case enter f args => exact this.mono fun e w'' ⟨v, he, hr⟩ => ⟨v, he, key _ _ hr⟩
  | halt x w' => simp only [doesUpon] at this
end

end mixed
end MJ
end Go.Proofs.Ytbmkamnjjfmdiaa
