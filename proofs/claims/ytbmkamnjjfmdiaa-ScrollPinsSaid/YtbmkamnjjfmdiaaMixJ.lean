/- A region that draws its order, in which some operations write memory and the others only read it: one walk in the order of the text serves every order; J: what the readers need of the world; no condition. -/
import Derived.Test.YtbmkamnjjfmdiaaMix
namespace Go.Proofs.Ytbmkamnjjfmdiaa
open Go.RowKit Go.Sort
namespace MJ
section mixed
variable {P : Program} {ops : Array Oper}
/-- .. in every world of which J holds, the same value; the world stays. -/
def calmUpon (P : Program) (w : World) (v : Value) : Result Next → Prop
  | .ok (.value u) w' => w' = w ∧ u = v
  | .ok .skip w' => w' = w ∧ v = undef
  | .ok (.enter f args) w' => w' = w ∧ Calls P f args w (fun e w'' => e = .returned v ∧ w'' = w)
  | _ => False
def calmAt (P : Program) (o : Oper) (ev : Operand → Value) (J : World → Prop) (v : Value) : Prop :=
  ∀ w : World, J w → calmUpon P w v ((execOp ev o).run P w)
def calm (P : Program) (o : Oper) (a : Act) (J : World → Prop) (K : Act → Prop) : Prop := ∃ v, calmAt P o a.eval J v ∧ K (a.put o.dst v)
theorem calm_does {o : Oper} {ev : Operand → Value} {J : World → Prop} {w : World} {v : Value} (h : calmAt P o ev J v) (hw : J w) : does P o ev w fun u w' => u = v ∧ w' = w := by
  have h1 := h w hw
  unfold does
  generalize (execOp ev o).run P w = r at *
  cases r with
  | ok n w' =>
    cases n <;> simp only [calmUpon] at h1 <;> simp only [doesUpon]
    case value u => obtain ⟨rfl, rfl⟩ := h1; exact ⟨rfl, rfl⟩
    case skip => obtain ⟨rfl, rfl⟩ := h1; exact ⟨rfl, rfl⟩
    case enter f args => obtain ⟨rfl, hc⟩ := h1; exact hc.mono fun e w'' ⟨he, hg⟩ => ⟨v, he, rfl, hg⟩
  | halt x w' => simp only [calmUpon] at h1
/-- The walk in the order of the text; B: the operations that make or write memory. -/
def wpLex (P : Program) (ops : Array Oper) (B : List Nat) (S : List (Nat × Nat)) (M : (Nat → Bool) → (Nat → Value) → World → Prop) (J : World → Prop) (Q : Act → Prop) : Nat → List Oper → Act → Prop
  | _, [], a => Q a
  | i, o :: rest, a =>
    if B.contains i = true then
      (o.guard = none ∧ ∀ (D : Nat → Bool) (vs : Nat → Value) (w : World), M D vs w → D i = false → (∀ j k, Region.waitsFor .any ops j k = true → D j = true → D k = true) → (∀ k, Region.waitsFor .any ops i k = true → D k = true) →
        does P o (evS S vs a) w fun v w' => M (upd D i true) (upd vs i v) w') ∧ wpLex P ops B S M J Q (i + 1) rest (a.put o.dst undef)
    else if Region.wanted o (yielded ops a.tmps) then calm P o a J (wpLex P ops B S M J Q (i + 1) rest)
    else wpLex P ops B S M J Q (i + 1) rest (a.put o.dst undef)

/-- What the walk in the order of the text gives: the values, the frames. -/
theorem lex_spec {B : List Nat} {S : List (Nat × Nat)} {M : (Nat → Bool) → (Nat → Value) → World → Prop} {J : World → Prop} {Q : Act → Prop} : ∀ (l : List Oper) (k : Nat) (a : Act), (∀ j, l[j]? = ops[k + j]?) →
    wpLex P ops B S M J Q k l a → ∃ (val : Nat → Value) (fr : Nat → Act), fr k = a ∧
      (∀ j o, k ≤ j → ops[j]? = some o → fr (j + 1) = (fr j).put o.dst (val j)) ∧
      (∀ j o, k ≤ j → ops[j]? = some o → B.contains j = true → o.guard = none ∧ ∀ (D : Nat → Bool) (vs : Nat → Value) (w : World), M D vs w → D j = false → (∀ j k, Region.waitsFor .any ops j k = true → D j = true → D k = true) →
        (∀ k, Region.waitsFor .any ops j k = true → D k = true) → does P o (evS S vs (fr j)) w fun v w' => M (upd D j true) (upd vs j v) w') ∧
      (∀ j o, k ≤ j → ops[j]? = some o → B.contains j = false → (Region.wanted o (yielded ops (fr j).tmps) = true ∧ calmAt P o (fr j).eval J (val j)) ∨ (Region.wanted o (yielded ops (fr j).tmps) = false ∧ val j = undef)) ∧
      Q (fr (k + l.length))
  | [], k, a, hl, h => ⟨fun _ => undef, fun _ => a, rfl, fun j o hj ho => (by have := hl (j - k); rw [show k + (j - k) = j by omega, ho] at this; simp at this),
      fun j o hj ho => (by have := hl (j - k); rw [show k + (j - k) = j by omega, ho] at this; simp at this), fun j o hj ho => (by have := hl (j - k); rw [show k + (j - k) = j by omega, ho] at this; simp at this), h⟩
  | o :: rest, k, a, hl, h => by
    have h0 : ops[k]? = some o := by simpa using (hl 0).symm
    have hl' : ∀ j, rest[j]? = ops[k + 1 + j]? := fun j => by have := hl (j + 1); simpa [Nat.add_assoc, Nat.add_comm 1 j] using this
    have key : ∃ v, wpLex P ops B S M J Q (k + 1) rest (a.put o.dst v) ∧ (B.contains k = true → o.guard = none ∧ ∀ (D : Nat → Bool) (vs : Nat → Value) (w : World), M D vs w → D k = false → (∀ j k, Region.waitsFor .any ops j k = true → D j = true → D k = true) →
        (∀ j, Region.waitsFor .any ops k j = true → D j = true) → does P o (evS S vs a) w fun v w' => M (upd D k true) (upd vs k v) w') ∧
        (B.contains k = false → (Region.wanted o (yielded ops a.tmps) = true ∧ calmAt P o a.eval J v) ∨ (Region.wanted o (yielded ops a.tmps) = false ∧ v = undef)) := by
      unfold wpLex at h
      by_cases hb : B.contains k = true
      · rw [if_pos hb] at h
        exact ⟨undef, h.2, fun _ => h.1, fun hf => by rw [hb] at hf; cases hf⟩
      · rw [if_neg hb] at h
        by_cases hw : Region.wanted o (yielded ops a.tmps) = true
        · rw [if_pos hw] at h
          obtain ⟨v, h1, h2⟩ := h
          exact ⟨v, h2, fun hf => absurd hf hb, fun _ => .inl ⟨hw, h1⟩⟩
        · rw [if_neg hw] at h
          exact ⟨undef, h, fun hf => absurd hf hb, fun _ => .inr ⟨by simpa using hw, rfl⟩⟩
    obtain ⟨v, hr, hB, hN⟩ := key
    obtain ⟨val, fr, e0, e1, e2, e3, e4⟩ := lex_spec rest (k + 1) _ hl' hr
    refine ⟨fun j => if j = k then v else val j, fun j => if j = k then a else fr j, by simp, fun j o' hj ho => ?_, fun j o' hj ho hb => ?_, fun j o' hj ho hb => ?_, ?_⟩
    · by_cases hjk : j = k
      · subst hjk
        rw [h0] at ho; cases ho
        simp [e0]
      · simp only [hjk, if_false]
        rw [if_neg (by omega)]
        exact e1 j o' (by omega) ho
    · by_cases hjk : j = k
      · subst hjk
        rw [h0] at ho; cases ho
        simpa using hB hb
      · simp only [hjk, if_false]
        exact e2 j o' (by omega) ho hb
    · by_cases hjk : j = k
      · subst hjk
        rw [h0] at ho; cases ho
        simpa using hN hb
      · simp only [hjk, if_false]
        exact e3 j o' (by omega) ho hb
    · show Q (if k + (o :: rest).length = k then a else fr (k + (o :: rest).length))
      rw [if_neg (by simp)]
      rw [show k + (o :: rest).length = k + 1 + rest.length by simp; omega]
      exact e4

theorem wp_region_mixed {id : Nat} {Q : Exit → Act → World → Prop} {a0 : Act} {w0 : World} {l : List Oper} (J : World → Prop) (B : List Nat) (S : List (Nat × Nat)) (M : (Nat → Bool) → (Nat → Value) → World → Prop)
    (hm : P.follows .mixedOrders = true) (hB : mixB l.toArray B S = true) (hfits : ∀ p ∈ S, p.1 < a0.tmps.size)
    (hstart : ∀ vs, M (fun _ => false) vs w0.drew)
    (hext : ∀ D D' vs vs' w, (∀ b ∈ B, D b = D' b ∧ (D b = true → vs b = vs' b)) → M D vs w → M D' vs' w)
    (hold : ∀ D vs w i, M D vs w → i < l.length → B.contains i = false → D i = false → (∀ j k, Region.waitsFor .any l.toArray j k = true → D j = true → D k = true) → J w)
    (h : wpLex P l.toArray B S M J (fun af => ∀ vs w, M (fun _ => true) vs w → Q .normal (fillS S vs af) w) 0 l a0) : (Code.region id l.toArray true).wp P Q a0 w0 := by
  obtain ⟨ops, rfl⟩ : ∃ ops : Array Oper, ops = l.toArray := ⟨_, rfl⟩
  generalize ho : l.toArray = ops at *
  have hsize : l.length = ops.size := by rw [← ho]; simp
  obtain ⟨val, fr, e0, e1, e2, e3, e4⟩ := lex_spec l 0 a0 (fun j => by rw [← ho]; simp) h
  simp only [mixB, Bool.and_eq_true, List.all_eq_true, List.mem_range, Bool.or_eq_true, Bool.not_eq_true', decide_eq_true_eq] at hB
  obtain ⟨⟨⟨⟨⟨⟨⟨⟨hsel, hback⟩, hin⟩, hpair⟩, hBS⟩, hBn⟩, hSB⟩, hS⟩, hnd⟩ := hB
  -- the frames in the order of the text
  have hfr : ∀ j, j ≤ ops.size → (∀ t, (fr j).tmps[t]? = look ops a0.tmps (fun _ => true) val j t) ∧ (fr j).defers = a0.defers := by
    intro j
    induction j with
    | zero => intro _; rw [e0]; exact ⟨fun _ => rfl, rfl⟩
    | succ j ih =>
      intro hj
      obtain ⟨i1, i2⟩ := ih (by omega)
      have hoj : ops[j]? = some (ops[j]'(by omega)) := Array.getElem?_eq_getElem (by omega)
      rw [e1 j _ (Nat.zero_le _) hoj]
      refine ⟨fun t => ?_, ?_⟩
      · rw [put_get, i1 t, look_map]
        have hdj : dstAt ops j = (ops[j]'(by omega)).dst := by simp [dstAt, hoj]
        simp only [look, hdj, true_and]
      · cases hd : (ops[j]'(by omega)).dst <;> simpa [Act.put] using i2
  have apart_of : ∀ i j, i < j → j < ops.size → Region.waitsFor .any ops j i = true ∨ ∃ oi oj, ops[i]? = some oi ∧ ops[j]? = some oj ∧ oi.apart ops oj = true := by
    intro i j hij hj
    rcases hpair j hj i hij with h1 | h1
    · exact .inl h1
    · have hi' : ops[i]? = some (ops[i]'(by omega)) := Array.getElem?_eq_getElem (by omega)
      have hj' : ops[j]? = some (ops[j]'hj) := Array.getElem?_eq_getElem hj
      simp only [apartB, hi', hj'] at h1
      exact .inr ⟨_, _, hi', hj', h1⟩
  have waits_lt : ∀ j k, Region.waitsFor .any ops j k = true → j < ops.size ∧ k < ops.size ∧ k < j := by
    intro j k hw
    obtain ⟨oj, hoj, e, he, hb, hon⟩ := Region.waitsFor_spec hw
    have hj : j < ops.size := (Array.getElem?_eq_some_iff.1 hoj).1
    have h1 := hin j hj
    rw [hoj] at h1
    simp only [Array.all_eq_true_iff_forall_mem, decide_eq_true_eq] at h1
    have hk : k < ops.size := hon ▸ h1 e he
    refine ⟨hj, hk, ?_⟩
    rcases hback j hj k hk with h2 | h2
    · rw [hw] at h2; cases h2
    · exact h2
  let I : Array Bool → Act → World → Prop := fun listed a w => listed.size = ops.size ∧ ∃ vs : Nat → Value,
    (∀ j, B.contains j = false → listed.getD j false = true → vs j = val j) ∧
    (∀ t, a.tmps[t]? = look ops a0.tmps (fun j => listed.getD j false) vs ops.size t) ∧ a.defers = a0.defers ∧
    (∀ j k, Region.waitsFor .any ops j k = true → listed.getD j false = true → listed.getD k false = true) ∧ M (fun j => listed.getD j false) vs w
  have hD : ∀ (listed : Array Bool) i, listed.size = ops.size → i < ops.size → (fun j => (listed.setIfInBounds i true).getD j false) = upd (fun j => listed.getD j false) i true := by
    intro listed i hs hi
    funext j
    by_cases hji : j = i
    · subst hji
      have : j < listed.size := by omega
      simp [upd, this]
    · simp only [upd, if_neg hji]
      exact getD_set_ne false (Ne.symm hji)
  refine wp_region_any hm ?_
  refine wpAny_of_inv I (fun _ _ _ hI => hI.1) ?_ ?_ _ _ _ _ ?_ ?_
  · -- a step
    intro listed a w hI i hi
    obtain ⟨hs, vs, hv, hsl, hdf, hcl, hM⟩ := hI
    obtain ⟨hun, o, hoi, hall⟩ := mem_ready.1 hi
    have hin' : i < ops.size := (Array.getElem?_eq_some_iff.1 hoi).1
    have hDi : listed.getD i false = false := getD_both hun
    have hready : ∀ k, Region.waitsFor .any ops i k = true → listed.getD k false = true := fun k hk => by
      obtain ⟨oj, hoj, e, he, hb, hon⟩ := Region.waitsFor_spec hk
      rw [hoi] at hoj; cases hoj
      exact hon ▸ hall e he hb
    have hdo : dstAt ops i = o.dst := by simp [dstAt, hoi]
    have hlater : ∀ j, i < j → j < ops.size → ∀ t, dstAt ops j = some t → (dstAt ops i = some t ∨ t ∈ o.looksAt ops) → listed.getD j false = false := by
      intro j hij hj t hdt hor
      cases hc : listed.getD j false with
      | false => rfl
      | true =>
        rcases apart_of i j hij hj with h1 | ⟨oi, oj, h1, h2, h3⟩
        · have := hcl j i h1 hc
          rw [hDi] at this; cases this
        · rw [hoi] at h1; cases h1
          obtain ⟨q1, q2, q3⟩ := Oper.apart_spec h3
          have hdj : oj.dst = some t := by simpa [dstAt, h2] using hdt
          rcases hor with h4 | h4
          · rw [hdo] at h4
            exact absurd hdj (q2 t h4)
          · exact absurd h4 (q3 t hdj)
    -- what the operation looks at
    have hsee : ∀ t, t ∈ o.looksAt ops → (∀ j, j < i → dstAt ops j = some t → B.contains j = false) → a.tmps[t]? = (fr i).tmps[t]? := by
      intro t ht hq
      rw [hsl t, (hfr i (by omega)).1 t]
      rw [look_cut (k := i) ops.size (by omega) (fun j hj hjn hdt => by
        rcases Nat.lt_or_ge i j with h1 | h1
        · exact hlater j h1 hjn t hdt (.inr ht)
        · have : j = i := by omega
          subst this; exact hDi)]
      refine look_congr i fun j hj hdt => ?_
      have hjd : listed.getD j false = true := by
        rcases apart_of j i hj hin' with h1 | ⟨oj, oi, h1, h2, h3⟩
        · exact hready j h1
        · rw [hoi] at h2; cases h2
          obtain ⟨q1, q2, q3⟩ := Oper.apart_spec h3
          have hdj : oj.dst = some t := by simpa [dstAt, h1] using hdt
          exact absurd ht (q1 t hdj)
      exact ⟨hjd, fun _ => hv j (hq j hj hdt) hjd⟩
    -- the slots behind it
    have hput : ∀ (v : Value), (∀ t, (a.put o.dst v).tmps[t]? = look ops a0.tmps (upd (fun j => listed.getD j false) i true) (upd vs i v) ops.size t) := by
      intro v t
      rw [put_get, hsl t, look_map]
      by_cases hdt : o.dst = some t
      · rw [if_pos hdt]
        rw [look_cut (k := i + 1) ops.size (by omega) (fun j hj hjn hdj => by
          have := hlater j (by omega) hjn t hdj (.inl (by rw [hdo]; exact hdt))
          simp only [upd]
          rw [if_neg (by omega)]; exact this)]
        simp only [look, hdo, hdt, upd, if_true, and_self]
      · rw [if_neg hdt]
        refine look_congr ops.size fun j hj hdj => ?_
        have hji : j ≠ i := by
          rintro rfl
          rw [hdo] at hdj
          exact hdt hdj
        simp [upd, hji]
    have hcl' : ∀ j k, Region.waitsFor .any ops j k = true → (upd (fun j => listed.getD j false) i true) j = true → (upd (fun j => listed.getD j false) i true) k = true := by
      intro j k hw hj
      simp only [upd] at hj ⊢
      by_cases hki : k = i
      · rw [if_pos hki]
      · rw [if_neg hki]
        by_cases hji : j = i
        · subst hji; exact hready k hw
        · rw [if_neg hji] at hj; exact hcl j k hw hj
    have close : ∀ v w', M (upd (fun j => listed.getD j false) i true) (upd vs i v) w' → (B.contains i = false → v = val i) → I (listed.setIfInBounds i true) (a.put o.dst v) w' := by
      intro v w' hM' hvi
      have hDD := hD listed i hs hin'
      have hDj : ∀ j, (listed.setIfInBounds i true).getD j false = upd (fun j => listed.getD j false) i true j := fun j => congrFun hDD j
      refine ⟨by simp [hs], upd vs i v, fun j hj hl => ?_, fun t => ?_, ?_, fun j k hw hj => ?_, ?_⟩
      · by_cases hji : j = i
        · subst hji; simp [upd, hvi hj]
        · rw [hDj] at hl
          simp only [upd, if_neg hji] at hl ⊢
          exact hv j hj hl
      · rw [hDD]; exact hput v t
      · rw [← hdf]; cases o.dst <;> rfl
      · rw [hDj] at hj ⊢; exact hcl' j k hw hj
      · rw [hDD]; exact hM'
    unfold wpOp
    simp only [hoi]
    cases hbi : B.contains i with
    | false =>
      have hnoB : ∀ t, t ∈ o.looksAt ops → ∀ j, j < i → dstAt ops j = some t → B.contains j = false := by
        intro t ht j hj hdt
        cases hbj : B.contains j with
        | false => rfl
        | true =>
          have h1 := hBS j (by simpa using hbj)
          rw [hdt] at h1
          simp only [Bool.and_eq_true, List.all_eq_true, List.mem_range, Bool.or_eq_true, Bool.not_eq_true', decide_eq_true_eq] at h1
          rcases h1.2 i hin' with (h2 | h2) | h2
          · rw [hbi] at h2; cases h2
          · simp only [looksB, hoi] at h2
            have : (o.looksAt ops).contains t = true := by simpa using ht
            rw [this] at h2; cases h2
          · omega
      have hsee' : ∀ t ∈ o.looksAt ops, a.tmps[t]? = (fr i).tmps[t]? := fun t ht => hsee t ht (hnoB t ht)
      have hwt := wanted_of hsee'
      have hG := hold _ vs w i hM (by rw [hsize]; exact hin') hbi hDi hcl
      have hMx : ∀ v, M (upd (fun j => listed.getD j false) i true) (upd vs i v) w := fun v =>
        hext _ _ _ _ _ (fun b hb => by
          have hbi' : b ≠ i := by
            rintro rfl
            have : B.contains b = true := by simpa using hb
            rw [hbi] at this; cases this
          simp [upd, hbi']) hM
      rcases e3 i o (Nat.zero_le _) hoi hbi with ⟨hw1, hc⟩ | ⟨hw1, hc⟩
      · rw [if_pos (by rw [hwt]; exact hw1)]
        left
        have hev : execOp a.eval o = execOp (fr i).eval o := execOp_congr o (fun cs b => Region.noSelect_spec hsel i o cs b hoi) fun x hx => eval_of fun t ht => hsee' t (looks_of (ht ▸ hx))
        have hd := calm_does hc hG
        refine does_wp (R := fun u w' => u = val i ∧ w' = w) ?_ ?_
        · unfold does at hd ⊢; rw [hev]; exact hd
        · rintro v w' ⟨rfl, rfl⟩
          exact close _ _ (hMx _) (fun _ => rfl)
      · rw [if_neg (by rw [hwt, hw1]; exact Bool.false_ne_true)]
        exact close _ _ (hMx _) (fun _ => hc.symm)
    | true =>
      obtain ⟨hgd, hob⟩ := e2 i o (Nat.zero_le _) hoi hbi
      rw [if_pos (by simp [Region.wanted, hgd])]
      left
      have hd := hob _ vs w hM hDi hcl hready
      have hev : execOp a.eval o = execOp (evS S vs (fr i)) o := execOp_congr o (fun cs b => Region.noSelect_spec hsel i o cs b hoi) fun x hx => by
        cases x with
        | tmp t =>
          have ht : t ∈ o.looksAt ops := looks_of hx
          cases hlk : S.lookup t with
          | some b =>
            have hmem := lookup_mem hlk
            have h1 := hS _ hmem
            obtain ⟨⟨⟨hb1, hb2⟩, hb3⟩, hb4⟩ := h1
            have hlt : b < i := by
              rcases hSB _ hmem i (by simpa using hbi) with h2 | h2
              · simp only [looksB, hoi] at h2
                have : (o.looksAt ops).contains t = true := by simpa using ht
                rw [this] at h2; cases h2
              · exact h2
            have hbd : listed.getD b false = true := by
              rcases apart_of b i hlt hin' with h1 | ⟨oj, oi, h1, h2, h3⟩
              · exact hready b h1
              · rw [hoi] at h2; cases h2
                obtain ⟨q1, q2, q3⟩ := Oper.apart_spec h3
                have hdj : oj.dst = some t := by simpa [dstAt, h1] using hb2
                exact absurd ht (q1 t hdj)
            have e := hsl t
            rw [look_cut (k := b + 1) ops.size (by omega) (fun j hj hjn hdj => by
              rcases hb4 j hjn with h5 | h5
              · simp only at h5; omega
              · exact absurd hdj h5)] at e
            simp only [look, hb2, hbd, and_self, if_true] at e
            show a.tmps.getD t undef = evS S vs (fr i) (.tmp t)
            simp only [evS, hlk]
            rw [Array.getD_eq_getD_getElem?, e]
            have hlt' : t < a0.tmps.size := hfits _ hmem
            rw [Array.getElem?_eq_getElem hlt']
            rfl
          | none =>
            have : a.eval (.tmp t) = (fr i).eval (.tmp t) := eval_of fun t' ht' => by
              cases ht'
              refine hsee t ht fun j hj hdt => ?_
              cases hbj : B.contains j with
              | false => rfl
              | true =>
                have h1 := hBS j (by simpa using hbj)
                rw [hdt] at h1
                simp only [Bool.and_eq_true] at h1
                have := lookup_none_not hlk (by simpa using h1.1)
                exact this.elim
            rw [this]
            simp only [evS, hlk]
        | _ => rfl
      refine does_wp (R := fun v w' => M (upd (fun j => listed.getD j false) i true) (upd vs i v) w') ?_ ?_
      · unfold does at hd ⊢; rw [hev]; exact hd
      · intro v w' hM'
        exact close _ _ hM' (fun hf => by rw [hbi] at hf; cases hf)
  · -- the end
    intro listed a w hI hr
    obtain ⟨hs, vs, hv, hsl, hdf, hcl, hM⟩ := hI
    have hall : ∀ j, j < ops.size → listed.getD j false = true := by
      intro j
      induction j using Nat.strongRecOn with
      | _ j ih =>
        intro hj
        cases hc : listed.getD j false with
        | true => rfl
        | false =>
          have : j ∈ Region.ready .any ops listed := mem_ready.2 ⟨getD_in (by omega) hc, ops[j], Array.getElem?_eq_getElem hj, fun e he hb => by
            have hw : Region.waitsFor .any ops j e.on = true := by
              simp only [Region.waitsFor, Array.getElem?_eq_getElem hj]
              exact Array.any_eq_true'.2 ⟨e, he, by simp [hb]⟩
            obtain ⟨_, h2, h3⟩ := waits_lt _ _ hw
            exact ih _ h3 h2⟩
          rw [hr] at this; cases this
    have hq := e4
    simp only [Nat.zero_add, hsize] at hq
    have hM' : M (fun _ => true) vs w := hext _ _ _ _ _ (fun b hb => ⟨hall b (hBn b hb), fun _ => rfl⟩) hM
    have := hq vs w hM'
    have hfa : a = fillS S vs (fr ops.size) := by
      refine act_ext (fun t => ?_) ?_
      · rw [hsl t, fill_get S vs _ t hnd]
        cases hlk : S.lookup t with
        | some b =>
          have hmem := lookup_mem hlk
          obtain ⟨⟨⟨hb1, hb2⟩, hb3⟩, hb4⟩ := hS _ hmem
          simp only
          rw [(hfr ops.size (Nat.le_refl _)).1 t, look_map]
          rw [look_cut (k := b + 1) ops.size (by omega) (fun j hj hjn hdj => by
            rcases hb4 j hjn with h5 | h5
            · simp only at h5; omega
            · exact absurd hdj h5)]
          simp only [look, hb2, hall b hb3, and_self, if_true]
        | none =>
          simp only
          rw [(hfr ops.size (Nat.le_refl _)).1 t]
          refine look_congr ops.size fun j hj hdt => ⟨hall j hj, fun hd => hv j ?_ hd⟩
          cases hbj : B.contains j with
          | false => rfl
          | true =>
            have h1 := hBS j (by simpa using hbj)
            rw [hdt] at h1
            simp only [Bool.and_eq_true] at h1
            exact (lookup_none_not hlk (by simpa using h1.1)).elim
      · rw [fill_defers, hdf, (hfr ops.size (Nat.le_refl _)).2]
    rw [hfa]; exact this
  · -- enough steps
    unfold unl
    exact Nat.le_trans (List.length_filter_le _ _) (by simp)
  · refine ⟨by simp, fun _ => undef, fun j _ hj => ?_, fun t => ?_, rfl, fun j k _ hj => ?_, ?_⟩
    · rw [getD_replicate_false] at hj; cases hj
    · rw [look_cut (k := 0) ops.size (Nat.zero_le _) (fun j _ _ _ => getD_replicate_false _ _)]; rfl
    · rw [getD_replicate_false] at hj; cases hj
    · exact hext _ _ _ _ _ (fun b _ => ⟨(getD_replicate_false _ _).symm, fun h => by cases h⟩) (hstart (fun _ => undef))

/-! ### One operation of the walk, what follows behind a variable -/
section steps
variable {B : List Nat} {S : List (Nat × Nat)} {M : (Nat → Bool) → (Nat → Value) → World → Prop} {J : World → Prop} {Q : Act → Prop} {i : Nat} {o : Oper} {rest : List Oper} {a : Act}
theorem lex_nil (h : Q a) : wpLex P ops B S M J Q i [] a := h
theorem lex_calm (hb : B.contains i = false) (hw : Region.wanted o (yielded ops a.tmps) = true) (h : ∀ K : Act → Prop, (∀ a, wpLex P ops B S M J Q (i + 1) rest a → K a) → calm P o a J K) : wpLex P ops B S M J Q i (o :: rest) a := by
  unfold wpLex
  rw [if_neg (by rw [hb]; exact Bool.false_ne_true), if_pos hw]
  exact h _ fun _ h => h
theorem lex_skip (hb : B.contains i = false) (hw : Region.wanted o (yielded ops a.tmps) = false) (h : wpLex P ops B S M J Q (i + 1) rest (a.put o.dst undef)) : wpLex P ops B S M J Q i (o :: rest) a := by
  unfold wpLex
  rw [if_neg (by rw [hb]; exact Bool.false_ne_true), if_neg (by rw [hw]; exact Bool.false_ne_true)]
  exact h
theorem lex_made (hb : B.contains i = true) (hg : o.guard = none) (h : ∀ (D : Nat → Bool) (vs : Nat → Value) (w : World), M D vs w → D i = false → (∀ j k, Region.waitsFor .any ops j k = true → D j = true → D k = true) →
      (∀ k, Region.waitsFor .any ops i k = true → D k = true) → does P o (evS S vs a) w fun v w' => M (upd D i true) (upd vs i v) w') (hr : wpLex P ops B S M J Q (i + 1) rest (a.put o.dst undef)) : wpLex P ops B S M J Q i (o :: rest) a := by
  unfold wpLex
  rw [if_pos hb]
  exact ⟨⟨hg, h⟩, hr⟩
end steps

/-! ### Values that do not hang on one another, a world that keeps I -/
theorem wp_region_indep {id : Nat} {Q : Exit → Act → World → Prop} {a0 : Act} {w0 : World} {l : List Oper} (I : World → Prop) (R : Nat → Value → Prop) (B : List Nat) (S : List (Nat × Nat))
    (hm : P.follows .mixedOrders = true) (hB : mixB l.toArray B S = true) (hfits : ∀ p ∈ S, p.1 < a0.tmps.size) (h0 : I w0.drew)
    (h : wpLex P l.toArray B S (fun D vs w => I w ∧ ∀ b ∈ B, D b = true → R b (vs b)) I (fun af => ∀ vs w, I w → (∀ b ∈ B, R b (vs b)) → Q .normal (fillS S vs af) w) 0 l a0) : (Code.region id l.toArray true).wp P Q a0 w0 := by
  refine wp_region_mixed I B S (fun D vs w => I w ∧ ∀ b ∈ B, D b = true → R b (vs b)) hm hB hfits (fun _ => ⟨h0, fun _ _ h => by cases h⟩) ?_ (fun D vs w i hM _ _ _ _ => hM.1) ?_
  · rintro D D' vs vs' w hD ⟨h1, h2⟩
    refine ⟨h1, fun b hb hd => ?_⟩
    obtain ⟨e1, e2⟩ := hD b hb
    rw [← e2 (by rw [e1]; exact hd)]
    exact h2 b hb (by rw [e1]; exact hd)
  · have key : ∀ (l' : List Oper) k a, wpLex P l.toArray B S (fun D vs w => I w ∧ ∀ b ∈ B, D b = true → R b (vs b)) I (fun af => ∀ vs w, I w → (∀ b ∈ B, R b (vs b)) → Q .normal (fillS S vs af) w) k l' a →
        wpLex P l.toArray B S (fun D vs w => I w ∧ ∀ b ∈ B, D b = true → R b (vs b)) I (fun af => ∀ (vs : Nat → Value) w, (I w ∧ ∀ b ∈ B, (fun _ : Nat => true) b = true → R b (vs b)) → Q .normal (fillS S vs af) w) k l' a := by
      intro l'
      induction l' with
      | nil => intro k a h; exact fun vs w hM => h vs w hM.1 fun b hb => hM.2 b hb rfl
      | cons o rest ih =>
        intro k a h
        unfold wpLex at h ⊢
        split
        · rename_i hb
          rw [if_pos hb] at h
          exact ⟨h.1, ih _ _ h.2⟩
        · rename_i hb
          rw [if_neg hb] at h
          split
          · rename_i hw
            rw [if_pos hw] at h
            obtain ⟨v, h1, h2⟩ := h
            exact ⟨v, h1, ih _ _ h2⟩
          · rename_i hw
            rw [if_neg hw] at h
            exact ih _ _ h
    exact key l 0 a0 h
section
variable {I : World → Prop} {R : Nat → Value → Prop} {B : List Nat} {S : List (Nat × Nat)} {Q : Act → Prop} {i : Nat} {o : Oper} {rest : List Oper} {a : Act}
/-- One operation of B: from I and from what it waits for. -/
theorem lex_indep (hb : B.contains i = true) (hg : o.guard = none) (h : ∀ (vs : Nat → Value) (w : World), I w → (∀ k ∈ B, Region.waitsFor .any ops i k = true → R k (vs k)) → does P o (evS S vs a) w fun v w' => I w' ∧ R i v)
    (hr : wpLex P ops B S (fun D vs w => I w ∧ ∀ b ∈ B, D b = true → R b (vs b)) I Q (i + 1) rest (a.put o.dst undef)) : wpLex P ops B S (fun D vs w => I w ∧ ∀ b ∈ B, D b = true → R b (vs b)) I Q i (o :: rest) a := by
  refine lex_made hb hg ?_ hr
  rintro D vs w ⟨h1, h2⟩ hD hcl hdep
  have := h vs w h1 fun k hk hw => h2 k hk (hdep k hw)
  unfold does at this ⊢
  generalize (execOp (evS S vs a) o).run P w = r at *
  have key : ∀ v w', (I w' ∧ R i v) → I w' ∧ ∀ b ∈ B, upd D i true b = true → R b (upd vs i v b) := by
    rintro v w' ⟨k1, k2⟩
    refine ⟨k1, fun b hb hd => ?_⟩
    by_cases e : b = i
    · subst e; simpa [upd] using k2
    · simp only [upd, if_neg e] at hd ⊢; exact h2 b hb hd
  cases r with
  | ok n w' =>
    cases n <;> simp only [doesUpon] at this ⊢
    case value u => exact key _ _ this
    case skip => exact key _ _ this
    case enter f args => exact this.mono fun e w'' ⟨v, he, hr⟩ => ⟨v, he, key _ _ hr⟩
  | halt x w' => simp only [doesUpon] at this
end

/-! ### Operations in a forced order, the values of which hang on one another: St vals w: the first of them have yielded vals -/
def valsOf (B : List Nat) (vs : Nat → Value) (s : Nat) : List Value := (B.take s).map vs
def chainM (B : List Nat) (St : List Value → World → Prop) (D : Nat → Bool) (vs : Nat → Value) (w : World) : Prop :=
  ∃ s, s ≤ B.length ∧ (∀ j b, B[j]? = some b → D b = decide (j < s)) ∧ St (valsOf B vs s) w
def chainB (ops : Array Oper) (B : List Nat) : Bool := decide B.Nodup && (List.range B.length).all fun j => j == 0 || Region.waitsFor .any ops (B.getD j 0) (B.getD (j - 1) 0)
/-- The last of B waits for all others. -/
def sinkL (ops : Array Oper) (B : List Nat) : Bool := (List.range ops.size).all fun i => B.contains i || (B.length != 0 && Region.waitsFor .any ops (B.getD (B.length - 1) 0) i)
def posOf (B : List Nat) (vals : List Value) : Nat → Value := fun b => match B.idxOf? b with
  | some j => vals.getD j undef
  | none => undef
theorem valsOf_length {B : List Nat} {vs : Nat → Value} {s : Nat} (h : s ≤ B.length) : (valsOf B vs s).length = s := by simp [valsOf]; omega
theorem wp_region_chain {id : Nat} {Q : Exit → Act → World → Prop} {a0 : Act} {w0 : World} {l : List Oper} (J : World → Prop) (B : List Nat) (S : List (Nat × Nat)) (St : List Value → World → Prop)
    (hm : P.follows .mixedOrders = true) (hB : mixB l.toArray B S = true) (hfits : ∀ p ∈ S, p.1 < a0.tmps.size) (h0 : St [] w0.drew)
    (hJ : ∀ vals w, vals.length < B.length ∨ sinkL l.toArray B = false → St vals w → J w)
    (h : wpLex P l.toArray B S (chainM B St) J (fun af => ∀ vs w, St (valsOf B vs B.length) w → Q .normal (fillS S vs af) w) 0 l a0) : (Code.region id l.toArray true).wp P Q a0 w0 := by
  refine wp_region_mixed J B S (chainM B St) hm hB hfits (fun _ => ⟨0, Nat.zero_le _, fun j b _ => by simp, h0⟩) ?_ ?_ ?_
  · rintro D D' vs vs' w hD ⟨s, hs, h1, h2⟩
    refine ⟨s, hs, fun j b hj => ?_, ?_⟩
    · rw [← (hD b (List.mem_of_getElem? hj)).1]; exact h1 j b hj
    · have : valsOf B vs' s = valsOf B vs s := by
        unfold valsOf
        refine List.map_congr_left fun b hb => ?_
        obtain ⟨j, hj⟩ := List.mem_iff_getElem?.1 hb
        rw [List.getElem?_take] at hj
        split at hj
        · rename_i hjs
          have := h1 j b hj
          exact ((hD b (List.mem_of_getElem? hj)).2 (by rw [this]; simp [hjs])).symm
        · cases hj
      rw [this]; exact h2
  · rintro D vs w i ⟨s, hs, h1, h2⟩ hi hb hD hcl
    refine hJ _ w ?_ h2
    rw [valsOf_length hs]
    by_cases hsl : s < B.length
    · exact .inl hsl
    · right
      have hs' : s = B.length := by omega
      cases hk : sinkL l.toArray B with
      | false => rfl
      | true =>
        simp only [sinkL, List.all_eq_true, List.mem_range, Bool.or_eq_true, Bool.and_eq_true] at hk
        rcases hk i (by simpa using hi) with q | ⟨q1, q2⟩
        · rw [hb] at q; cases q
        · have hne : B.length ≠ 0 := by simpa using q1
          have hlast : B[B.length - 1]? = some (B.getD (B.length - 1) 0) := by
            rw [List.getD_eq_getElem?_getD, List.getElem?_eq_getElem (by omega)]; rfl
          have hd := h1 _ _ hlast
          rw [show decide (B.length - 1 < s) = true by simp; omega] at hd
          rw [hcl _ _ q2 hd] at hD; cases hD
  · have key : ∀ (l' : List Oper) k a, wpLex P l.toArray B S (chainM B St) J (fun af => ∀ vs w, St (valsOf B vs B.length) w → Q .normal (fillS S vs af) w) k l' a →
        wpLex P l.toArray B S (chainM B St) J (fun af => ∀ (vs : Nat → Value) w, chainM B St (fun _ => true) vs w → Q .normal (fillS S vs af) w) k l' a := by
      intro l'
      induction l' with
      | nil =>
        intro k a h
        rintro vs w ⟨s, hs, h1, h2⟩
        have hs' : s = B.length := by
          by_cases hsl : s < B.length
          · have := h1 s _ (List.getElem?_eq_getElem hsl)
            simp at this
          · omega
        subst hs'
        exact h vs w h2
      | cons o rest ih =>
        intro k a h
        unfold wpLex at h ⊢
        split
        · rename_i hb
          rw [if_pos hb] at h
          exact ⟨h.1, ih _ _ h.2⟩
        · rename_i hb
          rw [if_neg hb] at h
          split
          · rename_i hw
            rw [if_pos hw] at h
            obtain ⟨v, h1, h2⟩ := h
            exact ⟨v, h1, ih _ _ h2⟩
          · rename_i hw
            rw [if_neg hw] at h
            exact ih _ _ h
    exact key l 0 a0 h
section
variable {J : World → Prop} {St : List Value → World → Prop} {B : List Nat} {S : List (Nat × Nat)} {Q : Act → Prop} {i : Nat} {o : Oper} {rest : List Oper} {a : Act}
/-- Operation number s of the chain: from the values before it. -/
theorem lex_chain (s : Nat) (hs : B[s]? = some i) (hC : chainB ops B = true) (hg : o.guard = none)
    (h : ∀ (vs : Nat → Value) (w : World), St (valsOf B vs s) w → does P o (evS S vs a) w fun v w' => St (valsOf B vs s ++ [v]) w')
    (hr : wpLex P ops B S (chainM B St) J Q (i + 1) rest (a.put o.dst undef)) : wpLex P ops B S (chainM B St) J Q i (o :: rest) a := by
  simp only [chainB, Bool.and_eq_true, decide_eq_true_eq, List.all_eq_true, List.mem_range, Bool.or_eq_true] at hC
  obtain ⟨hnd, hch⟩ := hC
  have hmem : i ∈ B := List.mem_of_getElem? hs
  have hsl : s < B.length := (List.getElem?_eq_some_iff.1 hs).1
  refine lex_made (by simpa using hmem) hg ?_ hr
  rintro D vs w ⟨s', hs', h1, h2⟩ hD hcl hdep
  have e1 : ¬ s < s' := by
    have := h1 s i hs
    rw [hD] at this
    simpa using this.symm
  have e2 : s ≤ s' := by
    rcases Nat.eq_zero_or_pos s with e | e
    · omega
    · have hw := hch s hsl
      rcases hw with hw | hw
      · simp at hw; omega
      · have a1 : B.getD s 0 = i := by rw [List.getD_eq_getElem?_getD, hs]; rfl
        have a2 : B[s - 1]? = some (B.getD (s - 1) 0) := by rw [List.getD_eq_getElem?_getD, List.getElem?_eq_getElem (by omega)]; rfl
        rw [a1] at hw
        have := h1 _ _ a2
        rw [hdep _ hw] at this
        have : s - 1 < s' := by simpa using this.symm
        omega
  have e3 : s' = s := by omega
  subst e3
  have hd := h vs w h2
  have key : ∀ v w', St (valsOf B vs s' ++ [v]) w' → chainM B St (upd D i true) (upd vs i v) w' := by
    intro v w' hst
    refine ⟨s' + 1, hsl, fun j b hj => ?_, ?_⟩
    · by_cases hji : j = s'
      · subst hji
        rw [hs] at hj; cases hj
        simp [upd]
      · have hbi : b ≠ i := by
          rintro rfl
          have hjl : j < B.length := (List.getElem?_eq_some_iff.1 hj).1
          exact hji ((List.getElem?_inj hjl hnd).1 (hj.trans hs.symm))
        simp only [upd, if_neg hbi]
        rw [h1 j b hj]
        congr 1
        exact propext ⟨fun h => by omega, fun h => by omega⟩
    · have e : valsOf B (upd vs i v) (s' + 1) = valsOf B vs s' ++ [v] := by
        unfold valsOf
        rw [List.take_add_one, hs]
        simp only [Option.toList_some, List.map_append, List.map_cons, List.map_nil]
        congr 1
        · refine List.map_congr_left fun b hb => ?_
          have hbi : b ≠ i := by
            rintro rfl
            obtain ⟨j, hj⟩ := List.mem_iff_getElem?.1 hb
            rw [List.getElem?_take] at hj
            split at hj
            · rename_i hjs
              have hjl : j < B.length := (List.getElem?_eq_some_iff.1 hj).1
              have := (List.getElem?_inj hjl hnd).1 (hj.trans hs.symm)
              omega
            · cases hj
          simp [upd, hbi]
        · simp [upd]
      rw [e]; exact hst
  unfold does at hd ⊢
  generalize (execOp (evS S vs a) o).run P w = r at *
  cases r with
  | ok n w' =>
    cases n <;> simp only [doesUpon] at hd ⊢
    case value u => exact key _ _ hd
    case skip => exact key _ _ hd
    case enter f args => exact hd.mono fun e w'' ⟨v, he, hr⟩ => ⟨v, he, key _ _ hr⟩
  | halt x w' => simp only [doesUpon] at hd
end

/-! ### A chain, and beside it operations that leave the world alone, each with what R says of its value -/
def ceM (B : List Nat) (St : List Value → World → Prop) (E : List Nat) (R : Nat → Value → Prop) (D : Nat → Bool) (vs : Nat → Value) (w : World) : Prop :=
  chainM B St D vs w ∧ ∀ b ∈ E, D b = true → R b (vs b)
theorem chainM.ext {B : List Nat} {St : List Value → World → Prop} {D D' : Nat → Bool} {vs vs' : Nat → Value} {w : World} (hD : ∀ b ∈ B, D b = D' b ∧ (D b = true → vs b = vs' b)) (h : chainM B St D vs w) : chainM B St D' vs' w := by
  obtain ⟨s, hs, h1, h2⟩ := h
  refine ⟨s, hs, fun j b hj => ?_, ?_⟩
  · rw [← (hD b (List.mem_of_getElem? hj)).1]; exact h1 j b hj
  · have : valsOf B vs' s = valsOf B vs s := by
      unfold valsOf
      refine List.map_congr_left fun b hb => ?_
      obtain ⟨j, hj⟩ := List.mem_iff_getElem?.1 hb
      rw [List.getElem?_take] at hj
      split at hj
      · rename_i hjs
        have := h1 j b hj
        exact ((hD b (List.mem_of_getElem? hj)).2 (by rw [this]; simp [hjs])).symm
      · cases hj
    rw [this]; exact h2
theorem wp_region_ce {id : Nat} {Q : Exit → Act → World → Prop} {a0 : Act} {w0 : World} {l : List Oper} (J : World → Prop) (B E BB : List Nat) (S : List (Nat × Nat)) (St : List Value → World → Prop) (R : Nat → Value → Prop)
    (hm : P.follows .mixedOrders = true) (hB : mixB l.toArray BB S = true) (hfits : ∀ p ∈ S, p.1 < a0.tmps.size) (hBB : (B.all BB.contains && E.all BB.contains) = true) (hsink : sinkL l.toArray B = true ∨ ∀ vals w, St vals w → J w)
    (h0 : St [] w0.drew) (hJ : ∀ vals w, vals.length < B.length → St vals w → J w)
    (h : wpLex P l.toArray BB S (ceM B St E R) J (fun af => ∀ vs w, St (valsOf B vs B.length) w → Q .normal (fillS S vs af) w) 0 l a0) : (Code.region id l.toArray true).wp P Q a0 w0 := by
  simp only [Bool.and_eq_true, List.all_eq_true, List.contains_iff_mem] at hBB
  obtain ⟨hb1, hb2⟩ := hBB
  refine wp_region_mixed J BB S (ceM B St E R) hm hB hfits (fun _ => ⟨⟨0, Nat.zero_le _, fun j b _ => by simp, h0⟩, fun _ _ h => by cases h⟩) ?_ ?_ ?_
  · rintro D D' vs vs' w hD ⟨hc, hr⟩
    refine ⟨hc.ext fun b hb => hD b (hb1 b hb), fun b hb hd => ?_⟩
    obtain ⟨e1, e2⟩ := hD b (hb2 b hb)
    rw [← e2 (by rw [e1]; exact hd)]
    exact hr b hb (by rw [e1]; exact hd)
  · rintro D vs w i ⟨⟨s, hs, h1, h2⟩, _⟩ hi hb hD hcl
    by_cases hsl : s < B.length
    · exact hJ _ w (by rw [valsOf_length hs]; exact hsl) h2
    · rcases hsink with hk | hk
      · exfalso
        simp only [sinkL, List.all_eq_true, List.mem_range, Bool.or_eq_true, Bool.and_eq_true] at hk
        rcases hk i (by simpa using hi) with q | ⟨q1, q2⟩
        · have := hb1 i (by simpa using q)
          have : BB.contains i = true := by simpa using this
          rw [hb] at this; cases this
        · have hne : B.length ≠ 0 := by simpa using q1
          have hlast : B[B.length - 1]? = some (B.getD (B.length - 1) 0) := by
            rw [List.getD_eq_getElem?_getD, List.getElem?_eq_getElem (by omega)]; rfl
          have hd := h1 _ _ hlast
          rw [show decide (B.length - 1 < s) = true by simp; omega] at hd
          rw [hcl _ _ q2 hd] at hD; cases hD
      · exact hk _ w h2
  · have key : ∀ (l' : List Oper) k a, wpLex P l.toArray BB S (ceM B St E R) J (fun af => ∀ vs w, St (valsOf B vs B.length) w → Q .normal (fillS S vs af) w) k l' a →
        wpLex P l.toArray BB S (ceM B St E R) J (fun af => ∀ (vs : Nat → Value) w, ceM B St E R (fun _ => true) vs w → Q .normal (fillS S vs af) w) k l' a := by
      intro l'
      induction l' with
      | nil =>
        intro k a h
        rintro vs w ⟨⟨s, hs, h1, h2⟩, _⟩
        have hs' : s = B.length := by
          by_cases hsl : s < B.length
          · have := h1 s _ (List.getElem?_eq_getElem hsl)
            simp at this
          · omega
        subst hs'
        exact h vs w h2
      | cons o rest ih =>
        intro k a h
        unfold wpLex at h ⊢
        split
        · rename_i hb
          rw [if_pos hb] at h
          exact ⟨h.1, ih _ _ h.2⟩
        · rename_i hb
          rw [if_neg hb] at h
          split
          · rename_i hw
            rw [if_pos hw] at h
            obtain ⟨v, h1, h2⟩ := h
            exact ⟨v, h1, ih _ _ h2⟩
          · rename_i hw
            rw [if_neg hw] at h
            exact ih _ _ h
    exact key l 0 a0 h
section
variable {J : World → Prop} {St : List Value → World → Prop} {B E BB : List Nat} {R : Nat → Value → Prop} {S : List (Nat × Nat)} {Q : Act → Prop} {i : Nat} {o : Oper} {rest : List Oper} {a : Act}
/-- Operation number s of the chain. -/
theorem lex_ce (s : Nat) (hs : B[s]? = some i) (hC : chainB ops B = true) (hBB : BB.contains i = true) (hg : o.guard = none)
    (h : ∀ (vs : Nat → Value) (w : World), St (valsOf B vs s) w → (∀ k ∈ E, Region.waitsFor .any ops i k = true → R k (vs k)) → does P o (evS S vs a) w fun v w' => St (valsOf B vs s ++ [v]) w' ∧ (i ∈ E → R i v))
    (hr : wpLex P ops BB S (ceM B St E R) J Q (i + 1) rest (a.put o.dst undef)) : wpLex P ops BB S (ceM B St E R) J Q i (o :: rest) a := by
  simp only [chainB, Bool.and_eq_true, decide_eq_true_eq, List.all_eq_true, List.mem_range, Bool.or_eq_true] at hC
  obtain ⟨hnd, hch⟩ := hC
  have hmem : i ∈ B := List.mem_of_getElem? hs
  have hsl : s < B.length := (List.getElem?_eq_some_iff.1 hs).1
  refine lex_made hBB hg ?_ hr
  rintro D vs w ⟨⟨s', hs', h1, h2⟩, hE⟩ hD hcl hdep
  have e1 : ¬ s < s' := by
    have := h1 s i hs
    rw [hD] at this
    simpa using this.symm
  have e2 : s ≤ s' := by
    rcases Nat.eq_zero_or_pos s with e | e
    · omega
    · have hw := hch s hsl
      rcases hw with hw | hw
      · simp at hw; omega
      · have a1 : B.getD s 0 = i := by rw [List.getD_eq_getElem?_getD, hs]; rfl
        have a2 : B[s - 1]? = some (B.getD (s - 1) 0) := by rw [List.getD_eq_getElem?_getD, List.getElem?_eq_getElem (by omega)]; rfl
        rw [a1] at hw
        have := h1 _ _ a2
        rw [hdep _ hw] at this
        have : s - 1 < s' := by simpa using this.symm
        omega
  have e3 : s' = s := by omega
  subst e3
  have hd := h vs w h2 fun k hk hw => hE k hk (hdep k hw)
  have key : ∀ v w', (St (valsOf B vs s' ++ [v]) w' ∧ (i ∈ E → R i v)) → ceM B St E R (upd D i true) (upd vs i v) w' := by
    rintro v w' ⟨hst, hri⟩
    refine ⟨⟨s' + 1, hsl, fun j b hj => ?_, ?_⟩, fun b hb hd => ?_⟩
    · by_cases hji : j = s'
      · subst hji
        rw [hs] at hj; cases hj
        simp [upd]
      · have hbi : b ≠ i := by
          rintro rfl
          have hjl : j < B.length := (List.getElem?_eq_some_iff.1 hj).1
          exact hji ((List.getElem?_inj hjl hnd).1 (hj.trans hs.symm))
        simp only [upd, if_neg hbi]
        rw [h1 j b hj]
        congr 1
        exact propext ⟨fun h => by omega, fun h => by omega⟩
    · have e : valsOf B (upd vs i v) (s' + 1) = valsOf B vs s' ++ [v] := by
        unfold valsOf
        rw [List.take_add_one, hs]
        simp only [Option.toList_some, List.map_append, List.map_cons, List.map_nil]
        congr 1
        · refine List.map_congr_left fun b hb => ?_
          have hbi : b ≠ i := by
            rintro rfl
            obtain ⟨j, hj⟩ := List.mem_iff_getElem?.1 hb
            rw [List.getElem?_take] at hj
            split at hj
            · rename_i hjs
              have hjl : j < B.length := (List.getElem?_eq_some_iff.1 hj).1
              have := (List.getElem?_inj hjl hnd).1 (hj.trans hs.symm)
              omega
            · cases hj
          simp [upd, hbi]
        · simp [upd]
      rw [e]; exact hst
    · by_cases e : b = i
      · subst e; simpa [upd] using hri hb
      · simp only [upd, if_neg e] at hd ⊢; exact hE b hb hd
  unfold does at hd ⊢
  generalize (execOp (evS S vs a) o).run P w = r at *
  cases r with
  | ok n w' =>
    cases n <;> simp only [doesUpon] at hd ⊢
    case value u => exact key _ _ hd
    case skip => exact key _ _ hd
    case enter f args => exact hd.mono fun e w'' ⟨v, he, hr⟩ => ⟨v, he, key _ _ hr⟩
  | halt x w' => simp only [doesUpon] at hd
/-- An operation beside the chain. -/
theorem lex_ce_free (hi : B.contains i = false) (hBB : BB.contains i = true) (hg : o.guard = none)
    (h : ∀ (vs : Nat → Value) (w : World), (∀ k ∈ E, Region.waitsFor .any ops i k = true → R k (vs k)) → does P o (evS S vs a) w fun v w' => w' = w ∧ R i v)
    (hr : wpLex P ops BB S (ceM B St E R) J Q (i + 1) rest (a.put o.dst undef)) : wpLex P ops BB S (ceM B St E R) J Q i (o :: rest) a := by
  refine lex_made hBB hg ?_ hr
  rintro D vs w ⟨hc, hE⟩ hD hcl hdep
  have hd := h vs w fun k hk hw => hE k hk (hdep k hw)
  have key : ∀ v w', (w' = w ∧ R i v) → ceM B St E R (upd D i true) (upd vs i v) w' := by
    rintro v w' ⟨rfl, hri⟩
    refine ⟨hc.ext fun b hb => ?_, fun b hb hd => ?_⟩
    · have e : b ≠ i := by
        rintro rfl
        have : B.contains b = true := by simpa using hb
        rw [hi] at this; cases this
      simp [upd, e]
    · by_cases e : b = i
      · subst e; simpa [upd] using hri
      · simp only [upd, if_neg e] at hd ⊢; exact hE b hb hd
  unfold does at hd ⊢
  generalize (execOp (evS S vs a) o).run P w = r at *
  cases r with
  | ok n w' =>
    cases n <;> simp only [doesUpon] at hd ⊢
    case value u => exact key _ _ hd
    case skip => exact key _ _ hd
    case enter f args => exact hd.mono fun e w'' ⟨v, he, hr⟩ => ⟨v, he, key _ _ hr⟩
  | halt x w' => simp only [doesUpon] at hd
/-- An operation beside the chain that reads what every state of the chain keeps. -/
theorem lex_ce_read (JR : World → Prop) (hJR : ∀ vals w, St vals w → JR w) (hi : B.contains i = false) (hBB : BB.contains i = true) (hg : o.guard = none)
    (h : ∀ (vs : Nat → Value) (w : World), JR w → (∀ k ∈ E, Region.waitsFor .any ops i k = true → R k (vs k)) → does P o (evS S vs a) w fun v w' => w' = w ∧ R i v)
    (hr : wpLex P ops BB S (ceM B St E R) J Q (i + 1) rest (a.put o.dst undef)) : wpLex P ops BB S (ceM B St E R) J Q i (o :: rest) a := by
  refine lex_made hBB hg ?_ hr
  rintro D vs w ⟨hc, hE⟩ hD hcl hdep
  have hjr : JR w := by
    obtain ⟨s, _, _, h2⟩ := hc
    exact hJR _ _ h2
  have hd := h vs w hjr fun k hk hw => hE k hk (hdep k hw)
  have key : ∀ v w', (w' = w ∧ R i v) → ceM B St E R (upd D i true) (upd vs i v) w' := by
    rintro v w' ⟨rfl, hri⟩
    refine ⟨hc.ext fun b hb => ?_, fun b hb hd => ?_⟩
    · have e : b ≠ i := by
        rintro rfl
        have : B.contains b = true := by simpa using hb
        rw [hi] at this; cases this
      simp [upd, e]
    · by_cases e : b = i
      · subst e; simpa [upd] using hri
      · simp only [upd, if_neg e] at hd ⊢; exact hE b hb hd
  unfold does at hd ⊢
  generalize (execOp (evS S vs a) o).run P w = r at *
  cases r with
  | ok n w' =>
    cases n <;> simp only [doesUpon] at hd ⊢
    case value u => exact key _ _ hd
    case skip => exact key _ _ hd
    case enter f args => exact hd.mono fun e w'' ⟨v, he, hr⟩ => ⟨v, he, key _ _ hr⟩
  | halt x w' => simp only [doesUpon] at hd
end
end mixed
attribute [go_sem] calm calmAt calmUpon
end MJ
end Go.Proofs.Ytbmkamnjjfmdiaa
