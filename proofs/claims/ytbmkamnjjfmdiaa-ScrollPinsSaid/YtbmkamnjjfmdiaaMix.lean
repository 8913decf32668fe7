/- A region that draws its order, in which most operations read or call functions that only make blocks of their own, and a few make or write memory: one walk in the order of the text serves every order; no condition. -/
import Derived.Test.YtbmkamnjjfmdiaaGeBase
import Derived.StillTail
namespace Go.Proofs.Ytbmkamnjjfmdiaa
open Go.RowKit Go.Sort

section mixed
variable {P : Program} {ops : Array Oper}

/-- An operation, carried out, yields a value and leaves a world of which R holds. -/
def doesUpon (P : Program) (R : Value → World → Prop) : Result Next → Prop
  | .ok (.value v) w' => R v w'
  | .ok .skip w' => R undef w'
  | .ok (.enter f args) w' => Calls P f args w' fun e w'' => ∃ v, e = .returned v ∧ R v w''
  | _ => False
def does (P : Program) (o : Oper) (ev : Operand → Value) (w : World) (R : Value → World → Prop) : Prop := doesUpon P R ((execOp ev o).run P w)

theorem does_wp {o : Oper} {a : Act} {w : World} {R : Value → World → Prop} {K : Act → World → Prop} {Q : Exit → Act → World → Prop}
    (h : does P o a.eval w R) (hK : ∀ v w', R v w' → K (a.put o.dst v) w') : Oper.wp P o a w K Q := by
  unfold does at h
  unfold Oper.wp
  generalize (execOp a.eval o).run P w = r at *
  cases r with
  | ok n w' =>
    cases n <;> simp only [doesUpon] at h <;> simp only [Oper.upon]
    case value u => exact hK _ _ h
    case skip => exact hK _ _ h
    case enter f args => exact Calls.mono h fun e w'' ⟨v, he, hr⟩ => by subst he; exact hK _ _ hr
  | halt x w' => simp only [doesUpon] at h

/-- .. in every world that has grown from w0, the same value; and it leaves a world that has grown. -/
def calmUpon (P : Program) (w : World) (v : Value) : Result Next → Prop
  | .ok (.value u) w' => w' = w ∧ u = v
  | .ok .skip w' => w' = w ∧ v = undef
  | .ok (.enter f args) w' => w' = w ∧ Calls P f args w (fun e w'' => e = .returned v ∧ Grew w w'')
  | _ => False
def calmAt (P : Program) (o : Oper) (ev : Operand → Value) (w0 : World) (v : Value) : Prop :=
  ∀ (n : Nat) (os : Array Obj), calmUpon P (grow (w0.drewN n) os) v ((execOp ev o).run P (grow (w0.drewN n) os))
def calm (P : Program) (o : Oper) (a : Act) (w0 : World) (K : Act → Prop) : Prop := ∃ v, calmAt P o a.eval w0 v ∧ K (a.put o.dst v)

theorem calm_does {o : Oper} {ev : Operand → Value} {w0 w : World} {v : Value} (h : calmAt P o ev w0 v) (hw : Grew w0 w) : does P o ev w fun u w' => u = v ∧ Grew w w' := by
  obtain ⟨n, os, rfl⟩ := hw.form
  have h1 := h n os
  unfold does
  generalize (execOp ev o).run P (grow (w0.drewN n) os) = r at *
  cases r with
  | ok n w' =>
    cases n <;> simp only [calmUpon] at h1 <;> simp only [doesUpon]
    case value u => obtain ⟨rfl, rfl⟩ := h1; exact ⟨rfl, Grew.refl _⟩
    case skip => obtain ⟨rfl, rfl⟩ := h1; exact ⟨rfl, Grew.refl _⟩
    case enter f args => obtain ⟨rfl, hc⟩ := h1; exact hc.mono fun e w'' ⟨he, hg⟩ => ⟨v, he, rfl, hg⟩
  | halt x w' => simp only [calmUpon] at h1

/-- What an operand holds where the slots of S hold what the operations of S have yielded. -/
def evS (S : List (Nat × Nat)) (vs : Nat → Value) (a : Act) : Operand → Value
  | .tmp t => match S.lookup t with
    | some b => vs b
    | none => a.eval (.tmp t)
  | x => a.eval x
def fillS (S : List (Nat × Nat)) (vs : Nat → Value) (a : Act) : Act := S.foldl (fun a p => a.put (some p.1) (vs p.2)) a
def upd {α : Type} (f : Nat → α) (i : Nat) (x : α) : Nat → α := fun j => if j = i then x else f j

/-- The walk in the order of the text; B: the operations that make or write memory. -/
def wpLex (P : Program) (ops : Array Oper) (B : List Nat) (S : List (Nat × Nat)) (M : (Nat → Bool) → (Nat → Value) → World → Prop) (w0 : World) (Q : Act → Prop) : Nat → List Oper → Act → Prop
  | _, [], a => Q a
  | i, o :: rest, a =>
    if B.contains i = true then
      (o.guard = none ∧ ∀ (D : Nat → Bool) (vs : Nat → Value) (w : World), M D vs w → D i = false → (∀ j k, Region.waitsFor .any ops j k = true → D j = true → D k = true) → (∀ k, Region.waitsFor .any ops i k = true → D k = true) →
        does P o (evS S vs a) w fun v w' => M (upd D i true) (upd vs i v) w') ∧ wpLex P ops B S M w0 Q (i + 1) rest (a.put o.dst undef)
    else if Region.wanted o (yielded ops a.tmps) then calm P o a w0 (wpLex P ops B S M w0 Q (i + 1) rest)
    else wpLex P ops B S M w0 Q (i + 1) rest (a.put o.dst undef)

def dstAt (ops : Array Oper) (k : Nat) : Option Nat := (ops[k]?).bind (·.dst)
def apartB (ops : Array Oper) (i j : Nat) : Bool := match ops[i]?, ops[j]? with
  | some x, some y => x.apart ops y
  | _, _ => true
def looksB (ops : Array Oper) (k d : Nat) : Bool := match ops[k]? with
  | some o => (o.looksAt ops).contains d
  | none => false
/-- Two operations are in order or apart; no edge leads back; what those of B yield lies in the slots of S, and none but those of B looks there. -/
def mixB (ops : Array Oper) (B : List Nat) (S : List (Nat × Nat)) : Bool :=
  Region.noSelect ops &&
  ((List.range ops.size).all fun j => (List.range ops.size).all fun i => !Region.waitsFor .any ops j i || decide (i < j)) &&
  ((List.range ops.size).all fun j => match ops[j]? with
    | some o => o.after.all fun e => decide (e.on < ops.size)
    | none => true) &&
  ((List.range ops.size).all fun j => (List.range j).all fun i => Region.waitsFor .any ops j i || apartB ops i j) &&
  (B.all fun b => match dstAt ops b with
    | some d => S.contains (d, b) && (List.range ops.size).all fun k => B.contains k || !looksB ops k d || decide (k < b)
    | none => true) &&
  (B.all fun b => decide (b < ops.size)) &&
  (S.all fun p => B.all fun b => !looksB ops b p.1 || decide (p.2 < b)) &&
  (S.all fun p => B.contains p.2 && decide (dstAt ops p.2 = some p.1) && decide (p.2 < ops.size) && ((List.range ops.size).all fun k => decide (k = p.2) || decide (dstAt ops k ≠ some p.1))) &&
  decide ((S.map (·.1)).Nodup)

/-! ### What the slots hold -/
def look (ops : Array Oper) (t0 : Array Value) (D : Nat → Bool) (vs : Nat → Value) : Nat → Nat → Option Value
  | 0, t => t0[t]?
  | k + 1, t => if D k = true ∧ dstAt ops k = some t then (t0[t]?).map fun _ => vs k else look ops t0 D vs k t

theorem put_get (a : Act) (dst : Option Nat) (v : Value) (t : Nat) : (a.put dst v).tmps[t]? = if dst = some t then (a.tmps[t]?).map fun _ => v else a.tmps[t]? := by
  cases dst with
  | none => simp [Act.put]
  | some d =>
    by_cases h : d = t
    · subst h
      simp only [Act.put, if_true]
      rw [Array.getElem?_setIfInBounds]
      by_cases hd : d < a.tmps.size
      · simp [hd]
      · simp [hd]
    · simp [Act.put, Array.getElem?_setIfInBounds_ne h, h]

theorem look_none {t0 : Array Value} {D : Nat → Bool} {vs : Nat → Value} {t : Nat} (h : t0[t]? = none) : ∀ k, look ops t0 D vs k t = none
  | 0 => h
  | k + 1 => by simp only [look]; split <;> simp [h, look_none h k]
theorem look_some {t0 : Array Value} {D : Nat → Bool} {vs : Nat → Value} {t : Nat} {x : Value} (h : t0[t]? = some x) : ∀ k, ∃ y, look ops t0 D vs k t = some y
  | 0 => ⟨x, h⟩
  | k + 1 => by simp only [look]; split <;> simp [h, look_some h k]
theorem look_map (t0 : Array Value) (D : Nat → Bool) (vs : Nat → Value) (k t : Nat) (v : Value) : (look ops t0 D vs k t).map (fun _ => v) = (t0[t]?).map fun _ => v := by
  cases h : t0[t]? with
  | none => rw [look_none h]
  | some x => obtain ⟨y, hy⟩ := look_some (ops := ops) (D := D) (vs := vs) h k; rw [hy]; rfl

/-- Only the writers of t below k matter. -/
theorem look_congr {t0 : Array Value} {D D' : Nat → Bool} {vs vs' : Nat → Value} {t : Nat} : ∀ k, (∀ j, j < k → dstAt ops j = some t → D j = D' j ∧ (D j = true → vs j = vs' j)) → look ops t0 D vs k t = look ops t0 D' vs' k t
  | 0, _ => rfl
  | k + 1, h => by
    have ih := look_congr (t0 := t0) k fun j hj => h j (by omega)
    simp only [look]
    by_cases hd : dstAt ops k = some t
    · obtain ⟨h1, h2⟩ := h k (by omega) hd
      rw [← h1]
      by_cases hD : D k = true
      · rw [if_pos ⟨hD, hd⟩, if_pos ⟨hD, hd⟩, h2 hD]
      · rw [if_neg (fun q => hD q.1), if_neg (fun q => hD q.1), ih]
    · rw [if_neg (fun q => hd q.2), if_neg (fun q => hd q.2), ih]
/-- No writer from k on has come up. -/
theorem look_cut {t0 : Array Value} {D : Nat → Bool} {vs : Nat → Value} {t k : Nat} : ∀ n, k ≤ n → (∀ j, k ≤ j → j < n → dstAt ops j = some t → D j = false) → look ops t0 D vs n t = look ops t0 D vs k t
  | 0, hk, _ => by rw [Nat.le_zero.1 hk]
  | n + 1, hk, h => by
    rcases Nat.lt_or_ge n k with hlt | hge
    · have : k = n + 1 := by omega
      rw [this]
    · simp only [look]
      rw [if_neg (fun q => by rw [h n hge (by omega) q.2] at q; cases q.1)]
      exact look_cut n hge fun j hj hn => h j hj (by omega)

/-! ### The invariant way through every order -/
theorem filter_lt {p q : Nat → Bool} : ∀ {l : List Nat}, (∀ x ∈ l, q x = true → p x = true) → ∀ {i : Nat}, i ∈ l → p i = true → q i = false → (l.filter q).length < (l.filter p).length
  | [], _, _, hi, _, _ => by cases hi
  | x :: l, h, i, hi, hp, hq => by
    have hle : (l.filter q).length ≤ (l.filter p).length := by
      clear hi hp hq
      induction l with
      | nil => simp
      | cons y l ih =>
        have h1 := h y (by simp)
        have h2 := ih fun z hz => h z (by
          rcases List.mem_cons.1 hz with rfl | hz
          · simp
          · simp [hz])
        simp only [List.filter_cons]
        cases e : q y <;> cases e' : p y <;> simp_all <;> omega
    simp only [List.filter_cons]
    rcases List.mem_cons.1 hi with rfl | hi'
    · simp only [hp, hq, if_true, List.length_cons]
      simp only [Bool.false_eq_true, if_false]
      omega
    · have ih := filter_lt (l := l) (fun z hz => h z (by simp [hz])) hi' hp hq
      have h1 := h x (by simp)
      cases e : q x <;> cases e' : p x <;> simp_all <;> omega

def unl (n : Nat) (listed : Array Bool) : Nat := ((List.range n).filter fun i => !listed.getD i true).length

theorem wpAny_of_inv {md : Region.Mode} {Q : Exit → Act → World → Prop} (I : Array Bool → Act → World → Prop)
    (hsz : ∀ listed a w, I listed a w → listed.size = ops.size)
    (hstep : ∀ listed a w, I listed a w → ∀ i ∈ Region.ready md ops listed, wpOp P ops Q i (I (listed.setIfInBounds i true)) a w)
    (hend : ∀ listed a w, I listed a w → Region.ready md ops listed = [] → Q .normal a w) :
    ∀ (fuel : Nat) (listed : Array Bool) (a : Act) (w : World), unl ops.size listed ≤ fuel → I listed a w → wpAny P md ops Q fuel listed a w
  | 0, listed, a, w, hu, h => by
    have hr : Region.ready md ops listed = [] := by
      apply List.eq_nil_iff_forall_not_mem.2
      intro j hj
      obtain ⟨h0, o, ho, _⟩ := mem_ready.1 hj
      have hjn : j < ops.size := (Array.getElem?_eq_some_iff.1 ho).1
      have : j ∈ (List.range ops.size).filter fun i => !listed.getD i true := List.mem_filter.2 ⟨List.mem_range.2 hjn, by rw [h0]; rfl⟩
      have hl := List.length_pos_of_mem this
      unfold unl at hu
      omega
    exact ⟨hr, hend _ _ _ h hr⟩
  | fuel + 1, listed, a, w, hu, h => by
    refine ⟨fun hr => hend _ _ _ h hr, fun i hi => wpOp_mono (fun a' w' h' => wpAny_of_inv I hsz hstep hend fuel _ a' w' ?_ h') (hstep _ _ _ h i hi)⟩
    obtain ⟨h0, o, ho, _⟩ := mem_ready.1 hi
    have hjn : i < ops.size := (Array.getElem?_eq_some_iff.1 ho).1
    have hs := hsz _ _ _ h
    have : unl ops.size (listed.setIfInBounds i true) < unl ops.size listed := by
      refine filter_lt (i := i) (fun x _ hx => ?_) (List.mem_range.2 hjn) (by rw [h0]; rfl) ?_
      · by_cases hxi : i = x
        · subst hxi
          simp [hs, hjn] at hx
        · rwa [getD_set_ne true hxi] at hx
      · simp [hs, hjn]
    omega

theorem wanted_of {o : Oper} {a b : Act} (h : ∀ t ∈ o.looksAt ops, a.tmps[t]? = b.tmps[t]?) : Region.wanted o (yielded ops a.tmps) = Region.wanted o (yielded ops b.tmps) := by
  unfold Region.wanted
  cases hg : o.guard with
  | none => rfl
  | some gw =>
    obtain ⟨g, want⟩ := gw
    have hy : yielded ops a.tmps g = yielded ops b.tmps g := by
      unfold yielded
      cases ht : (ops[g]?).bind (·.dst) with
      | none => rfl
      | some t =>
        have := h t (by simp [Oper.looksAt, hg, ht])
        simp only [Option.bind_some, this]
    simp only [hy]
theorem looks_of {o : Oper} {t : Nat} (h : Operand.tmp t ∈ o.op.operands) : t ∈ o.looksAt ops :=
  List.mem_append_left _ (List.mem_filterMap.2 ⟨.tmp t, by simpa using h, rfl⟩)
theorem eval_of {a b : Act} {x : Operand} (h : ∀ t, x = .tmp t → a.tmps[t]? = b.tmps[t]?) : a.eval x = b.eval x := by
  cases x with
  | tmp t => simp only [Act.eval, Array.getD_eq_getD_getElem?, h t rfl]
  | _ => rfl

/-- What the walk in the order of the text gives: the values, the frames. -/
theorem lex_spec {B : List Nat} {S : List (Nat × Nat)} {M : (Nat → Bool) → (Nat → Value) → World → Prop} {w0 : World} {Q : Act → Prop} : ∀ (l : List Oper) (k : Nat) (a : Act), (∀ j, l[j]? = ops[k + j]?) →
    wpLex P ops B S M w0 Q k l a → ∃ (val : Nat → Value) (fr : Nat → Act), fr k = a ∧
      (∀ j o, k ≤ j → ops[j]? = some o → fr (j + 1) = (fr j).put o.dst (val j)) ∧
      (∀ j o, k ≤ j → ops[j]? = some o → B.contains j = true → o.guard = none ∧ ∀ (D : Nat → Bool) (vs : Nat → Value) (w : World), M D vs w → D j = false → (∀ j k, Region.waitsFor .any ops j k = true → D j = true → D k = true) →
        (∀ k, Region.waitsFor .any ops j k = true → D k = true) → does P o (evS S vs (fr j)) w fun v w' => M (upd D j true) (upd vs j v) w') ∧
      (∀ j o, k ≤ j → ops[j]? = some o → B.contains j = false → (Region.wanted o (yielded ops (fr j).tmps) = true ∧ calmAt P o (fr j).eval w0 (val j)) ∨ (Region.wanted o (yielded ops (fr j).tmps) = false ∧ val j = undef)) ∧
      Q (fr (k + l.length))
  | [], k, a, hl, h => ⟨fun _ => undef, fun _ => a, rfl, fun j o hj ho => (by have := hl (j - k); rw [show k + (j - k) = j by omega, ho] at this; simp at this),
      fun j o hj ho => (by have := hl (j - k); rw [show k + (j - k) = j by omega, ho] at this; simp at this), fun j o hj ho => (by have := hl (j - k); rw [show k + (j - k) = j by omega, ho] at this; simp at this), h⟩
  | o :: rest, k, a, hl, h => by
    have h0 : ops[k]? = some o := by simpa using (hl 0).symm
    have hl' : ∀ j, rest[j]? = ops[k + 1 + j]? := fun j => by have := hl (j + 1); simpa [Nat.add_assoc, Nat.add_comm 1 j] using this
    have key : ∃ v, wpLex P ops B S M w0 Q (k + 1) rest (a.put o.dst v) ∧ (B.contains k = true → o.guard = none ∧ ∀ (D : Nat → Bool) (vs : Nat → Value) (w : World), M D vs w → D k = false → (∀ j k, Region.waitsFor .any ops j k = true → D j = true → D k = true) →
        (∀ j, Region.waitsFor .any ops k j = true → D j = true) → does P o (evS S vs a) w fun v w' => M (upd D k true) (upd vs k v) w') ∧
        (B.contains k = false → (Region.wanted o (yielded ops a.tmps) = true ∧ calmAt P o a.eval w0 v) ∨ (Region.wanted o (yielded ops a.tmps) = false ∧ v = undef)) := by
      unfold wpLex at h
      by_cases hb : B.contains k = true
      · rw [if_pos hb] at h
        exact ⟨undef, h.2, fun _ => h.1, fun hf => by rw [hb] at hf; cases hf⟩
      · rw [if_neg hb] at h
        by_cases hw : Region.wanted o (yielded ops a.tmps) = true
        · rw [if_pos hw] at h
          obtain ⟨v, h1, h2⟩ := h
          exact ⟨v, h2, fun hf => absurd hf hb, fun _ => .inl ⟨hw, h1⟩⟩
        · rw [if_neg hw] at h
          exact ⟨undef, h, fun hf => absurd hf hb, fun _ => .inr ⟨by simpa using hw, rfl⟩⟩
    obtain ⟨v, hr, hB, hN⟩ := key
    obtain ⟨val, fr, e0, e1, e2, e3, e4⟩ := lex_spec rest (k + 1) _ hl' hr
    refine ⟨fun j => if j = k then v else val j, fun j => if j = k then a else fr j, by simp, fun j o' hj ho => ?_, fun j o' hj ho hb => ?_, fun j o' hj ho hb => ?_, ?_⟩
    · by_cases hjk : j = k
      · subst hjk
        rw [h0] at ho; cases ho
        simp [e0]
      · simp only [hjk, if_false]
        rw [if_neg (by omega)]
        exact e1 j o' (by omega) ho
    · by_cases hjk : j = k
      · subst hjk
        rw [h0] at ho; cases ho
        simpa using hB hb
      · simp only [hjk, if_false]
        exact e2 j o' (by omega) ho hb
    · by_cases hjk : j = k
      · subst hjk
        rw [h0] at ho; cases ho
        simpa using hN hb
      · simp only [hjk, if_false]
        exact e3 j o' (by omega) ho hb
    · show Q (if k + (o :: rest).length = k then a else fr (k + (o :: rest).length))
      rw [if_neg (by simp)]
      rw [show k + (o :: rest).length = k + 1 + rest.length by simp; omega]
      exact e4

theorem lookup_mem : ∀ {S : List (Nat × Nat)} {t b : Nat}, S.lookup t = some b → (t, b) ∈ S
  | [], _, _, h => by simp [List.lookup] at h
  | (d, c) :: S, t, b, h => by
    by_cases htd : t = d
    · subst htd
      simp [List.lookup] at h
      subst h
      exact List.mem_cons_self
    · have hb : (t == d) = false := by simpa using htd
      simp only [List.lookup, hb] at h
      exact List.mem_cons_of_mem _ (lookup_mem h)
theorem lookup_none_not : ∀ {S : List (Nat × Nat)} {t b : Nat}, S.lookup t = none → (t, b) ∈ S → False
  | [], _, _, _, hm => by cases hm
  | (d, c) :: S, t, b, h, hm => by
    by_cases htd : t = d
    · subst htd
      simp [List.lookup] at h
    · have hb : (t == d) = false := by simpa using htd
      simp only [List.lookup, hb] at h
      rcases List.mem_cons.1 hm with e | hm
      · cases e; exact htd rfl
      · exact lookup_none_not h hm
theorem fill_get : ∀ (S : List (Nat × Nat)) (vs : Nat → Value) (a : Act) (t : Nat), (S.map (·.1)).Nodup →
    (fillS S vs a).tmps[t]? = match S.lookup t with | some b => (a.tmps[t]?).map (fun _ => vs b) | none => a.tmps[t]?
  | [], _, _, _, _ => rfl
  | (d, b) :: S, vs, a, t, h => by
    have hn : (S.map (·.1)).Nodup := (List.nodup_cons.1 h).2
    have hd : d ∉ S.map (·.1) := (List.nodup_cons.1 h).1
    have ih := fill_get S vs (a.put (some d) (vs b)) t hn
    show (fillS S vs (a.put (some d) (vs b))).tmps[t]? = _
    rw [ih]
    by_cases htd : t = d
    · subst htd
      have hl : S.lookup t = none := by
        cases hs : S.lookup t with
        | none => rfl
        | some c =>
          have := List.mem_map_of_mem (f := fun p : Nat × Nat => p.1) (lookup_mem hs)
          exact absurd this hd
      rw [hl]
      simp [List.lookup, put_get]
    · have hb : (t == d) = false := by simpa using htd
      simp only [List.lookup, hb]
      cases hs : S.lookup t with
      | none => simp [put_get, Ne.symm htd]
      | some c => simp [put_get, Ne.symm htd]
theorem fill_defers : ∀ (S : List (Nat × Nat)) (vs : Nat → Value) (a : Act), (fillS S vs a).defers = a.defers
  | [], _, _ => rfl
  | p :: S, vs, a => (fill_defers S vs (a.put (some p.1) (vs p.2))).trans rfl

theorem act_ext {a b : Act} (h : ∀ t : Nat, a.tmps[t]? = b.tmps[t]?) (hd : a.defers = b.defers) : a = b := by
  cases a; cases b
  simp only at h hd
  subst hd
  congr
  exact Array.ext_getElem? h

theorem wp_region_mixed {id : Nat} {Q : Exit → Act → World → Prop} {a0 : Act} {w0 : World} {l : List Oper} (B : List Nat) (S : List (Nat × Nat)) (M : (Nat → Bool) → (Nat → Value) → World → Prop)
    (hm : P.follows .mixedOrders = true) (hB : mixB l.toArray B S = true) (hfits : ∀ p ∈ S, p.1 < a0.tmps.size)
    (hstart : ∀ vs, M (fun _ => false) vs w0.drew)
    (hext : ∀ D D' vs vs' w, (∀ b ∈ B, D b = D' b ∧ (D b = true → vs b = vs' b)) → M D vs w → M D' vs' w)
    (hold : ∀ D vs w i, M D vs w → i < l.length → B.contains i = false → D i = false → (∀ j k, Region.waitsFor .any l.toArray j k = true → D j = true → D k = true) → Grew w0 w ∧ ∀ w', Grew w w' → M D vs w')
    (h : wpLex P l.toArray B S M w0 (fun af => ∀ vs w, M (fun _ => true) vs w → Q .normal (fillS S vs af) w) 0 l a0) : (Code.region id l.toArray true).wp P Q a0 w0 := by
  obtain ⟨ops, rfl⟩ : ∃ ops : Array Oper, ops = l.toArray := ⟨_, rfl⟩
  generalize ho : l.toArray = ops at *
  have hsize : l.length = ops.size := by rw [← ho]; simp
  obtain ⟨val, fr, e0, e1, e2, e3, e4⟩ := lex_spec l 0 a0 (fun j => by rw [← ho]; simp) h
  simp only [mixB, Bool.and_eq_true, List.all_eq_true, List.mem_range, Bool.or_eq_true, Bool.not_eq_true', decide_eq_true_eq] at hB
  obtain ⟨⟨⟨⟨⟨⟨⟨⟨hsel, hback⟩, hin⟩, hpair⟩, hBS⟩, hBn⟩, hSB⟩, hS⟩, hnd⟩ := hB
  -- the frames in the order of the text
  have hfr : ∀ j, j ≤ ops.size → (∀ t, (fr j).tmps[t]? = look ops a0.tmps (fun _ => true) val j t) ∧ (fr j).defers = a0.defers := by
    intro j
    induction j with
    | zero => intro _; rw [e0]; exact ⟨fun _ => rfl, rfl⟩
    | succ j ih =>
      intro hj
      obtain ⟨i1, i2⟩ := ih (by omega)
      have hoj : ops[j]? = some (ops[j]'(by omega)) := Array.getElem?_eq_getElem (by omega)
      rw [e1 j _ (Nat.zero_le _) hoj]
      refine ⟨fun t => ?_, ?_⟩
      · rw [put_get, i1 t, look_map]
        have hdj : dstAt ops j = (ops[j]'(by omega)).dst := by simp [dstAt, hoj]
        simp only [look, hdj, true_and]
      · cases hd : (ops[j]'(by omega)).dst <;> simpa [Act.put] using i2
  have apart_of : ∀ i j, i < j → j < ops.size → Region.waitsFor .any ops j i = true ∨ ∃ oi oj, ops[i]? = some oi ∧ ops[j]? = some oj ∧ oi.apart ops oj = true := by
    intro i j hij hj
    rcases hpair j hj i hij with h1 | h1
    · exact .inl h1
    · have hi' : ops[i]? = some (ops[i]'(by omega)) := Array.getElem?_eq_getElem (by omega)
      have hj' : ops[j]? = some (ops[j]'hj) := Array.getElem?_eq_getElem hj
      simp only [apartB, hi', hj'] at h1
      exact .inr ⟨_, _, hi', hj', h1⟩
  have waits_lt : ∀ j k, Region.waitsFor .any ops j k = true → j < ops.size ∧ k < ops.size ∧ k < j := by
    intro j k hw
    obtain ⟨oj, hoj, e, he, hb, hon⟩ := Region.waitsFor_spec hw
    have hj : j < ops.size := (Array.getElem?_eq_some_iff.1 hoj).1
    have h1 := hin j hj
    rw [hoj] at h1
    simp only [Array.all_eq_true_iff_forall_mem, decide_eq_true_eq] at h1
    have hk : k < ops.size := hon ▸ h1 e he
    refine ⟨hj, hk, ?_⟩
    rcases hback j hj k hk with h2 | h2
    · rw [hw] at h2; cases h2
    · exact h2
  let I : Array Bool → Act → World → Prop := fun listed a w => listed.size = ops.size ∧ ∃ vs : Nat → Value,
    (∀ j, B.contains j = false → listed.getD j false = true → vs j = val j) ∧
    (∀ t, a.tmps[t]? = look ops a0.tmps (fun j => listed.getD j false) vs ops.size t) ∧ a.defers = a0.defers ∧
    (∀ j k, Region.waitsFor .any ops j k = true → listed.getD j false = true → listed.getD k false = true) ∧ M (fun j => listed.getD j false) vs w
  have hD : ∀ (listed : Array Bool) i, listed.size = ops.size → i < ops.size → (fun j => (listed.setIfInBounds i true).getD j false) = upd (fun j => listed.getD j false) i true := by
    intro listed i hs hi
    funext j
    by_cases hji : j = i
    · subst hji
      have : j < listed.size := by omega
      simp [upd, this]
    · simp only [upd, if_neg hji]
      exact getD_set_ne false (Ne.symm hji)
  refine wp_region_any hm ?_
  refine wpAny_of_inv I (fun _ _ _ hI => hI.1) ?_ ?_ _ _ _ _ ?_ ?_
  · -- a step
    intro listed a w hI i hi
    obtain ⟨hs, vs, hv, hsl, hdf, hcl, hM⟩ := hI
    obtain ⟨hun, o, hoi, hall⟩ := mem_ready.1 hi
    have hin' : i < ops.size := (Array.getElem?_eq_some_iff.1 hoi).1
    have hDi : listed.getD i false = false := getD_both hun
    have hready : ∀ k, Region.waitsFor .any ops i k = true → listed.getD k false = true := fun k hk => by
      obtain ⟨oj, hoj, e, he, hb, hon⟩ := Region.waitsFor_spec hk
      rw [hoi] at hoj; cases hoj
      exact hon ▸ hall e he hb
    have hdo : dstAt ops i = o.dst := by simp [dstAt, hoi]
    have hlater : ∀ j, i < j → j < ops.size → ∀ t, dstAt ops j = some t → (dstAt ops i = some t ∨ t ∈ o.looksAt ops) → listed.getD j false = false := by
      intro j hij hj t hdt hor
      cases hc : listed.getD j false with
      | false => rfl
      | true =>
        rcases apart_of i j hij hj with h1 | ⟨oi, oj, h1, h2, h3⟩
        · have := hcl j i h1 hc
          rw [hDi] at this; cases this
        · rw [hoi] at h1; cases h1
          obtain ⟨q1, q2, q3⟩ := Oper.apart_spec h3
          have hdj : oj.dst = some t := by simpa [dstAt, h2] using hdt
          rcases hor with h4 | h4
          · rw [hdo] at h4
            exact absurd hdj (q2 t h4)
          · exact absurd h4 (q3 t hdj)
    -- what the operation looks at
    have hsee : ∀ t, t ∈ o.looksAt ops → (∀ j, j < i → dstAt ops j = some t → B.contains j = false) → a.tmps[t]? = (fr i).tmps[t]? := by
      intro t ht hq
      rw [hsl t, (hfr i (by omega)).1 t]
      rw [look_cut (k := i) ops.size (by omega) (fun j hj hjn hdt => by
        rcases Nat.lt_or_ge i j with h1 | h1
        · exact hlater j h1 hjn t hdt (.inr ht)
        · have : j = i := by omega
          subst this; exact hDi)]
      refine look_congr i fun j hj hdt => ?_
      have hjd : listed.getD j false = true := by
        rcases apart_of j i hj hin' with h1 | ⟨oj, oi, h1, h2, h3⟩
        · exact hready j h1
        · rw [hoi] at h2; cases h2
          obtain ⟨q1, q2, q3⟩ := Oper.apart_spec h3
          have hdj : oj.dst = some t := by simpa [dstAt, h1] using hdt
          exact absurd ht (q1 t hdj)
      exact ⟨hjd, fun _ => hv j (hq j hj hdt) hjd⟩
    -- the slots behind it
    have hput : ∀ (v : Value), (∀ t, (a.put o.dst v).tmps[t]? = look ops a0.tmps (upd (fun j => listed.getD j false) i true) (upd vs i v) ops.size t) := by
      intro v t
      rw [put_get, hsl t, look_map]
      by_cases hdt : o.dst = some t
      · rw [if_pos hdt]
        rw [look_cut (k := i + 1) ops.size (by omega) (fun j hj hjn hdj => by
          have := hlater j (by omega) hjn t hdj (.inl (by rw [hdo]; exact hdt))
          simp only [upd]
          rw [if_neg (by omega)]; exact this)]
        simp only [look, hdo, hdt, upd, if_true, and_self]
      · rw [if_neg hdt]
        refine look_congr ops.size fun j hj hdj => ?_
        have hji : j ≠ i := by
          rintro rfl
          rw [hdo] at hdj
          exact hdt hdj
        simp [upd, hji]
    have hcl' : ∀ j k, Region.waitsFor .any ops j k = true → (upd (fun j => listed.getD j false) i true) j = true → (upd (fun j => listed.getD j false) i true) k = true := by
      intro j k hw hj
      simp only [upd] at hj ⊢
      by_cases hki : k = i
      · rw [if_pos hki]
      · rw [if_neg hki]
        by_cases hji : j = i
        · subst hji; exact hready k hw
        · rw [if_neg hji] at hj; exact hcl j k hw hj
    have close : ∀ v w', M (upd (fun j => listed.getD j false) i true) (upd vs i v) w' → (B.contains i = false → v = val i) → I (listed.setIfInBounds i true) (a.put o.dst v) w' := by
      intro v w' hM' hvi
      have hDD := hD listed i hs hin'
      have hDj : ∀ j, (listed.setIfInBounds i true).getD j false = upd (fun j => listed.getD j false) i true j := fun j => congrFun hDD j
      refine ⟨by simp [hs], upd vs i v, fun j hj hl => ?_, fun t => ?_, ?_, fun j k hw hj => ?_, ?_⟩
      · by_cases hji : j = i
        · subst hji; simp [upd, hvi hj]
        · rw [hDj] at hl
          simp only [upd, if_neg hji] at hl ⊢
          exact hv j hj hl
      · rw [hDD]; exact hput v t
      · rw [← hdf]; cases o.dst <;> rfl
      · rw [hDj] at hj ⊢; exact hcl' j k hw hj
      · rw [hDD]; exact hM'
    unfold wpOp
    simp only [hoi]
    cases hbi : B.contains i with
    | false =>
      have hnoB : ∀ t, t ∈ o.looksAt ops → ∀ j, j < i → dstAt ops j = some t → B.contains j = false := by
        intro t ht j hj hdt
        cases hbj : B.contains j with
        | false => rfl
        | true =>
          have h1 := hBS j (by simpa using hbj)
          rw [hdt] at h1
          simp only [Bool.and_eq_true, List.all_eq_true, List.mem_range, Bool.or_eq_true, Bool.not_eq_true', decide_eq_true_eq] at h1
          rcases h1.2 i hin' with (h2 | h2) | h2
          · rw [hbi] at h2; cases h2
          · simp only [looksB, hoi] at h2
            have : (o.looksAt ops).contains t = true := by simpa using ht
            rw [this] at h2; cases h2
          · omega
      have hsee' : ∀ t ∈ o.looksAt ops, a.tmps[t]? = (fr i).tmps[t]? := fun t ht => hsee t ht (hnoB t ht)
      have hwt := wanted_of hsee'
      obtain ⟨hG, hMG⟩ := hold _ vs w i hM (by rw [hsize]; exact hin') hbi hDi hcl
      have hMx : ∀ v w', Grew w w' → M (upd (fun j => listed.getD j false) i true) (upd vs i v) w' := fun v w' hg =>
        hext _ _ _ _ _ (fun b hb => by
          have hbi' : b ≠ i := by
            rintro rfl
            have : B.contains b = true := by simpa using hb
            rw [hbi] at this; cases this
          simp [upd, hbi']) (hMG _ hg)
      rcases e3 i o (Nat.zero_le _) hoi hbi with ⟨hw1, hc⟩ | ⟨hw1, hc⟩
      · rw [if_pos (by rw [hwt]; exact hw1)]
        left
        have hev : execOp a.eval o = execOp (fr i).eval o := execOp_congr o (fun cs b => Region.noSelect_spec hsel i o cs b hoi) fun x hx => eval_of fun t ht => hsee' t (looks_of (ht ▸ hx))
        have hd := calm_does hc hG
        refine does_wp (R := fun u w' => u = val i ∧ Grew w w') ?_ ?_
        · unfold does at hd ⊢; rw [hev]; exact hd
        · rintro v w' ⟨rfl, hg⟩
          exact close _ _ (hMx _ _ hg) (fun _ => rfl)
      · rw [if_neg (by rw [hwt, hw1]; exact Bool.false_ne_true)]
        exact close _ _ (hMx _ _ (Grew.refl _)) (fun _ => hc.symm)
    | true =>
      obtain ⟨hgd, hob⟩ := e2 i o (Nat.zero_le _) hoi hbi
      rw [if_pos (by simp [Region.wanted, hgd])]
      left
      have hd := hob _ vs w hM hDi hcl hready
      have hev : execOp a.eval o = execOp (evS S vs (fr i)) o := execOp_congr o (fun cs b => Region.noSelect_spec hsel i o cs b hoi) fun x hx => by
        cases x with
        | tmp t =>
          have ht : t ∈ o.looksAt ops := looks_of hx
          cases hlk : S.lookup t with
          | some b =>
            have hmem := lookup_mem hlk
            have h1 := hS _ hmem
            obtain ⟨⟨⟨hb1, hb2⟩, hb3⟩, hb4⟩ := h1
            have hlt : b < i := by
              rcases hSB _ hmem i (by simpa using hbi) with h2 | h2
              · simp only [looksB, hoi] at h2
                have : (o.looksAt ops).contains t = true := by simpa using ht
                rw [this] at h2; cases h2
              · exact h2
            have hbd : listed.getD b false = true := by
              rcases apart_of b i hlt hin' with h1 | ⟨oj, oi, h1, h2, h3⟩
              · exact hready b h1
              · rw [hoi] at h2; cases h2
                obtain ⟨q1, q2, q3⟩ := Oper.apart_spec h3
                have hdj : oj.dst = some t := by simpa [dstAt, h1] using hb2
                exact absurd ht (q1 t hdj)
            have e := hsl t
            rw [look_cut (k := b + 1) ops.size (by omega) (fun j hj hjn hdj => by
              rcases hb4 j hjn with h5 | h5
              · simp only at h5; omega
              · exact absurd hdj h5)] at e
            simp only [look, hb2, hbd, and_self, if_true] at e
            show a.tmps.getD t undef = evS S vs (fr i) (.tmp t)
            simp only [evS, hlk]
            rw [Array.getD_eq_getD_getElem?, e]
            have hlt' : t < a0.tmps.size := hfits _ hmem
            rw [Array.getElem?_eq_getElem hlt']
            rfl
          | none =>
            have : a.eval (.tmp t) = (fr i).eval (.tmp t) := eval_of fun t' ht' => by
              cases ht'
              refine hsee t ht fun j hj hdt => ?_
              cases hbj : B.contains j with
              | false => rfl
              | true =>
                have h1 := hBS j (by simpa using hbj)
                rw [hdt] at h1
                simp only [Bool.and_eq_true] at h1
                have := lookup_none_not hlk (by simpa using h1.1)
                exact this.elim
            rw [this]
            simp only [evS, hlk]
        | _ => rfl
      refine does_wp (R := fun v w' => M (upd (fun j => listed.getD j false) i true) (upd vs i v) w') ?_ ?_
      · unfold does at hd ⊢; rw [hev]; exact hd
      · intro v w' hM'
        exact close _ _ hM' (fun hf => by rw [hbi] at hf; cases hf)
  · -- the end
    intro listed a w hI hr
    obtain ⟨hs, vs, hv, hsl, hdf, hcl, hM⟩ := hI
    have hall : ∀ j, j < ops.size → listed.getD j false = true := by
      intro j
      induction j using Nat.strongRecOn with
      | _ j ih =>
        intro hj
        cases hc : listed.getD j false with
        | true => rfl
        | false =>
          have : j ∈ Region.ready .any ops listed := mem_ready.2 ⟨getD_in (by omega) hc, ops[j], Array.getElem?_eq_getElem hj, fun e he hb => by
            have hw : Region.waitsFor .any ops j e.on = true := by
              simp only [Region.waitsFor, Array.getElem?_eq_getElem hj]
              exact Array.any_eq_true'.2 ⟨e, he, by simp [hb]⟩
            obtain ⟨_, h2, h3⟩ := waits_lt _ _ hw
            exact ih _ h3 h2⟩
          rw [hr] at this; cases this
    have hq := e4
    simp only [Nat.zero_add, hsize] at hq
    have hM' : M (fun _ => true) vs w := hext _ _ _ _ _ (fun b hb => ⟨hall b (hBn b hb), fun _ => rfl⟩) hM
    have := hq vs w hM'
    have hfa : a = fillS S vs (fr ops.size) := by
      refine act_ext (fun t => ?_) ?_
      · rw [hsl t, fill_get S vs _ t hnd]
        cases hlk : S.lookup t with
        | some b =>
          have hmem := lookup_mem hlk
          obtain ⟨⟨⟨hb1, hb2⟩, hb3⟩, hb4⟩ := hS _ hmem
          simp only
          rw [(hfr ops.size (Nat.le_refl _)).1 t, look_map]
          rw [look_cut (k := b + 1) ops.size (by omega) (fun j hj hjn hdj => by
            rcases hb4 j hjn with h5 | h5
            · simp only at h5; omega
            · exact absurd hdj h5)]
          simp only [look, hb2, hall b hb3, and_self, if_true]
        | none =>
          simp only
          rw [(hfr ops.size (Nat.le_refl _)).1 t]
          refine look_congr ops.size fun j hj hdt => ⟨hall j hj, fun hd => hv j ?_ hd⟩
          cases hbj : B.contains j with
          | false => rfl
          | true =>
            have h1 := hBS j (by simpa using hbj)
            rw [hdt] at h1
            simp only [Bool.and_eq_true] at h1
            exact (lookup_none_not hlk (by simpa using h1.1)).elim
      · rw [fill_defers, hdf, (hfr ops.size (Nat.le_refl _)).2]
    rw [hfa]; exact this
  · -- enough steps
    unfold unl
    exact Nat.le_trans (List.length_filter_le _ _) (by simp)
  · refine ⟨by simp, fun _ => undef, fun j _ hj => ?_, fun t => ?_, rfl, fun j k _ hj => ?_, ?_⟩
    · rw [getD_replicate_false] at hj; cases hj
    · rw [look_cut (k := 0) ops.size (Nat.zero_le _) (fun j _ _ _ => getD_replicate_false _ _)]; rfl
    · rw [getD_replicate_false] at hj; cases hj
    · exact hext _ _ _ _ _ (fun b _ => ⟨(getD_replicate_false _ _).symm, fun h => by cases h⟩) (hstart (fun _ => undef))

/-- A region whose operations all read or call so. -/
theorem wp_region_calm {id : Nat} {Q : Exit → Act → World → Prop} {a0 : Act} {w0 : World} {l : List Oper} (hm : P.follows .mixedOrders = true) (hB : mixB l.toArray [] [] = true)
    (h : wpLex P l.toArray [] [] (fun _ _ w => Grew w0 w) w0 (fun af => ∀ w, Grew w0 w → Q .normal af w) 0 l a0) : (Code.region id l.toArray true).wp P Q a0 w0 :=
  wp_region_mixed [] [] (fun _ _ w => Grew w0 w) hm hB (by simp) (fun _ => (Grew.refl _).drew) (fun _ _ _ _ _ _ h => h) (fun _ _ _ _ h _ _ _ _ => ⟨h, fun _ g => h.trans g⟩) (by
    have key : ∀ (l' : List Oper) k a, wpLex P l.toArray [] [] (fun _ _ w => Grew w0 w) w0 (fun af => ∀ w, Grew w0 w → Q .normal af w) k l' a → wpLex P l.toArray [] [] (fun _ _ w => Grew w0 w) w0 (fun af => ∀ (_ : Nat → Value) w, Grew w0 w → Q .normal (fillS [] (fun _ => undef) af) w) k l' a := by
      intro l'
      induction l' with
      | nil => intro k a h; exact fun _ => h
      | cons o rest ih =>
        intro k a h
        unfold wpLex at h ⊢
        simp only [List.contains_nil, Bool.false_eq_true, if_false] at h ⊢
        split
        · rename_i hw
          rw [if_pos hw] at h
          obtain ⟨v, h1, h2⟩ := h
          exact ⟨v, h1, ih _ _ h2⟩
        · rename_i hw
          rw [if_neg hw] at h
          exact ih _ _ h
    exact key l 0 a0 h)

/-! ### One operation of the walk, what follows behind a variable -/
section steps
variable {B : List Nat} {S : List (Nat × Nat)} {M : (Nat → Bool) → (Nat → Value) → World → Prop} {w0 : World} {Q : Act → Prop} {i : Nat} {o : Oper} {rest : List Oper} {a : Act}
theorem lex_nil (h : Q a) : wpLex P ops B S M w0 Q i [] a := h
theorem lex_calm (hb : B.contains i = false) (hw : Region.wanted o (yielded ops a.tmps) = true) (h : ∀ K : Act → Prop, (∀ a, wpLex P ops B S M w0 Q (i + 1) rest a → K a) → calm P o a w0 K) : wpLex P ops B S M w0 Q i (o :: rest) a := by
  unfold wpLex
  rw [if_neg (by rw [hb]; exact Bool.false_ne_true), if_pos hw]
  exact h _ fun _ h => h
theorem lex_skip (hb : B.contains i = false) (hw : Region.wanted o (yielded ops a.tmps) = false) (h : wpLex P ops B S M w0 Q (i + 1) rest (a.put o.dst undef)) : wpLex P ops B S M w0 Q i (o :: rest) a := by
  unfold wpLex
  rw [if_neg (by rw [hb]; exact Bool.false_ne_true), if_neg (by rw [hw]; exact Bool.false_ne_true)]
  exact h
theorem lex_made (hb : B.contains i = true) (hg : o.guard = none) (h : ∀ (D : Nat → Bool) (vs : Nat → Value) (w : World), M D vs w → D i = false → (∀ j k, Region.waitsFor .any ops j k = true → D j = true → D k = true) →
      (∀ k, Region.waitsFor .any ops i k = true → D k = true) → does P o (evS S vs a) w fun v w' => M (upd D i true) (upd vs i v) w') (hr : wpLex P ops B S M w0 Q (i + 1) rest (a.put o.dst undef)) : wpLex P ops B S M w0 Q i (o :: rest) a := by
  unfold wpLex
  rw [if_pos hb]
  exact ⟨⟨hg, h⟩, hr⟩
end steps

/-! ### Stores into blocks of the call's own, in order, behind all else -/
def app (fs : List (World → World)) (w : World) : World := fs.foldl (fun w f => f w) w
def lexStores (P : Program) (w0 : World) (Q : Act → (World → World) → Prop) : List Oper → List (World → World) → (World → World) → Act → Prop
  | o :: rest, f :: fs, g, a => o.guard = none ∧ (∀ w1, Grew w0 w1 → does P o a.eval (g w1) fun _ w' => w' = f (g w1)) ∧ lexStores P w0 Q rest fs (fun w => f (g w)) (a.put o.dst undef)
  | [], [], g, a => Q a g
  | _, _, _, _ => False
def storeIdx (s k : Nat) : List Nat := (List.range k).map (s + ·)
def chainUp (ops : Array Oper) (s k : Nat) : Bool := (List.range k).all fun j => j == 0 || Region.waitsFor .any ops (s + j) (s + (j - 1))
def storesM (s : Nat) (fs : List (World → World)) (w0 : World) (D : Nat → Bool) (_ : Nat → Value) (w : World) : Prop :=
  ∃ w1 m, Grew w0 w1 ∧ m ≤ fs.length ∧ (∀ j, j < fs.length → D (s + j) = decide (j < m)) ∧ w = app (fs.take m) w1

theorem sink_done {s : Nat} {D : Nat → Bool} (hs : Region.sinkB .any ops s = true) (hc : ∀ j k, Region.waitsFor .any ops j k = true → D j = true → D k = true) (hd : D s = true) : ∀ (d i : Nat), s - i = d → i < s → D i = true := by
  intro d
  induction d using Nat.strongRecOn with
  | _ d ih =>
    intro i hd' hi
    have h1 := List.all_eq_true.1 hs i (List.mem_range.2 hi)
    obtain ⟨j, hj, hj2⟩ := List.any_eq_true.1 h1
    simp only [Bool.and_eq_true, decide_eq_true_eq] at hj2
    have hjs := List.mem_range.1 hj
    refine hc j i hj2.2 ?_
    by_cases hjs' : j = s
    · rw [hjs']; exact hd
    · exact ih (s - j) (by omega) j rfl (by omega)

theorem app_snoc (fs : List (World → World)) (j : Nat) (h : j < fs.length) (w : World) : app (fs.take (j + 1)) w = fs[j] (app (fs.take j) w) := by
  unfold app
  rw [List.take_succ_eq_append_getElem h, List.foldl_append]
  rfl
theorem evS_nil (vs : Nat → Value) (a : Act) : evS [] vs a = a.eval := by
  funext x; cases x <;> rfl

theorem wp_region_stores {id : Nat} {Q : Exit → Act → World → Prop} {a0 : Act} {w0 : World} {l : List Oper} (s : Nat) (fs : List (World → World)) (hm : P.follows .mixedOrders = true)
    (hn : l.length = s + fs.length) (hB : mixB l.toArray (storeIdx s fs.length) [] = true) (hs : Region.sinkB .any l.toArray s = true) (hc : chainUp l.toArray s fs.length = true)
    (h : wpLex P l.toArray [] [] (fun _ _ _ => True) w0 (fun a => lexStores P w0 (fun af g => ∀ w, Grew w0 w → Q .normal af (g w)) (l.drop s) fs (fun w => w) a) 0 (l.take s) a0) :
    (Code.region id l.toArray true).wp P Q a0 w0 := by
  have inB : ∀ i, (storeIdx s fs.length).contains i = true ↔ s ≤ i ∧ i < s + fs.length := by
    intro i
    simp only [storeIdx, List.contains_iff_mem, List.mem_map, List.mem_range]
    constructor
    · rintro ⟨j, h1, h2⟩; omega
    · rintro ⟨h1, h2⟩; exact ⟨i - s, by omega, by omega⟩
  refine wp_region_mixed (storeIdx s fs.length) [] (storesM s fs w0) hm hB (by simp) ?_ ?_ ?_ ?_
  · intro vs
    exact ⟨w0.drew, 0, (Grew.refl _).drew, Nat.zero_le _, fun j _ => by simp, by simp [app]⟩
  · rintro D D' vs vs' w hD ⟨w1, m, h1, h2, h3, h4⟩
    refine ⟨w1, m, h1, h2, fun j hj => ?_, h4⟩
    rw [← (hD (s + j) (by have := (inB (s + j)).2 ⟨by omega, by omega⟩; simpa using this)).1]
    exact h3 j hj
  · rintro D vs w i ⟨w1, m, h1, h2, h3, rfl⟩ hi hb hDi hcl
    have his : i < s := by
      rcases Nat.lt_or_ge i s with h5 | h5
      · exact h5
      · have := (inB i).2 ⟨h5, by omega⟩
        rw [hb] at this; cases this
    have hm0 : m = 0 := by
      rcases Nat.eq_zero_or_pos m with h5 | h5
      · exact h5
      · have h6 := h3 0 (by omega)
        simp only [Nat.add_zero, h5, decide_true] at h6
        have := sink_done hs hcl h6 _ i rfl his
        rw [hDi] at this; cases this
    subst hm0
    refine ⟨by simpa [app] using h1, fun w' hg => ⟨w', 0, ?_, Nat.zero_le _, h3, by simp [app]⟩⟩
    exact h1.trans (by simpa [app] using hg)
  · -- the walk
    have tail : ∀ (l' : List Oper) (j : Nat) (g : World → World) (a : Act), l' = l.drop (s + j) → j ≤ fs.length → (∀ w, g w = app (fs.take j) w) →
        lexStores P w0 (fun af g => ∀ w, Grew w0 w → Q .normal af (g w)) l' (fs.drop j) g a →
        wpLex P l.toArray (storeIdx s fs.length) [] (storesM s fs w0) w0 (fun af => ∀ vs w, storesM s fs w0 (fun _ => true) vs w → Q .normal (fillS [] vs af) w) (s + j) l' a := by
      intro l'
      induction l' with
      | nil =>
        intro j g a hl hj hg hh
        have hlen : j = fs.length := by
          have := congrArg List.length hl
          simp at this
          omega
        subst hlen
        rw [List.drop_length] at hh
        rintro vs w ⟨w1, m, h1, h2, h3, rfl⟩
        have hmm : m = fs.length := by
          rcases Nat.lt_or_ge m fs.length with h5 | h5
          · have := h3 m h5
            simp at this
          · omega
        subst hmm
        have := hh w1 h1
        rw [hg w1] at this
        exact this
      | cons o rest ih =>
        intro j g a hl hj hg hh
        have hjl : j < fs.length := by
          have := congrArg List.length hl
          simp at this
          omega
        rw [List.drop_eq_getElem_cons hjl] at hh
        obtain ⟨hgd, hdo, hrest⟩ := hh
        have hr : rest = l.drop (s + (j + 1)) := by
          have := congrArg List.tail hl
          rw [show s + (j + 1) = s + j + 1 by omega]
          simpa [List.tail_drop] using this
        refine lex_made ((inB _).2 ⟨by omega, by omega⟩) hgd ?_ ?_
        · rintro D vs w ⟨w1, m, h1, h2, h3, rfl⟩ hDi hcl hrd
          have hmj : m = j := by
            have h5 := h3 j hjl
            rw [hDi] at h5
            have h6 : ¬ j < m := by simpa using h5.symm
            rcases Nat.eq_zero_or_pos j with h7 | h7
            · omega
            · have h8 := List.all_eq_true.1 hc j (List.mem_range.2 hjl)
              simp only [Bool.or_eq_true, beq_iff_eq] at h8
              have h9 := hrd _ (h8.resolve_left (by omega))
              have h10 := h3 (j - 1) (by omega)
              rw [h9] at h10
              have : j - 1 < m := by simpa using h10.symm
              omega
          subst hmj
          rw [evS_nil, ← hg w1]
          refine (?_ : ∀ {R R' : Value → World → Prop}, (∀ v w', R v w' → R' v w') → does P o a.eval (g w1) R → does P o a.eval (g w1) R') ?_ (hdo w1 h1)
          · intro R R' hRR hd
            unfold does at hd ⊢
            generalize (execOp a.eval o).run P (g w1) = r at *
            cases r with
            | ok n w' =>
              cases n <;> simp only [doesUpon] at hd ⊢
              case value u => exact hRR _ _ hd
              case skip => exact hRR _ _ hd
              case enter f args => exact hd.mono fun e w'' ⟨v, he, hr⟩ => ⟨v, he, hRR _ _ hr⟩
            | halt x w' => simp only [doesUpon] at hd
          · rintro v w' rfl
            refine ⟨w1, m + 1, h1, by omega, fun k hk => ?_, ?_⟩
            · by_cases hkm : k = m
              · subst hkm; simp [upd]
              · have := h3 k hk
                simp only [upd]
                rw [if_neg (by omega), this]
                have : (k < m) ↔ (k < m + 1) := by omega
                simp [this]
            · rw [app_snoc fs m hjl, hg w1]
        · rw [show s + j + 1 = s + (j + 1) by omega]
          exact ih (j + 1) _ _ hr (by omega) (fun w => by rw [app_snoc fs j hjl, hg w]) hrest
    have head : ∀ (l1 : List Oper) (k : Nat) (a : Act), k + l1.length = s → l1 = (l.take s).drop k →
        wpLex P l.toArray [] [] (fun _ _ _ => True) w0 (fun a => lexStores P w0 (fun af g => ∀ w, Grew w0 w → Q .normal af (g w)) (l.drop s) fs (fun w => w) a) k l1 a →
        wpLex P l.toArray (storeIdx s fs.length) [] (storesM s fs w0) w0 (fun af => ∀ vs w, storesM s fs w0 (fun _ => true) vs w → Q .normal (fillS [] vs af) w) k (l.drop k) a := by
      intro l1
      induction l1 with
      | nil =>
        intro k a hk hl hh
        have hks : k = s := by simpa using hk
        subst hks
        exact tail (l.drop k) 0 (fun w => w) a (by simp) (Nat.zero_le _) (fun w => by simp [app]) (by simpa [wpLex] using hh)
      | cons o rest ih =>
        intro k a hk hl hh
        have hks : k < s := by simp at hk; omega
        have hkl : k < l.length := by omega
        have ho : o = l[k] := by
          have := congrArg (fun x => x[0]?) hl
          simp [hks, hkl] at this
          exact this
        have hr : rest = (l.take s).drop (k + 1) := by
          have := congrArg List.tail hl
          simpa [List.tail_drop] using this
        rw [List.drop_eq_getElem_cons hkl, ← ho]
        have hnb : (storeIdx s fs.length).contains k = false := by
          cases hcb : (storeIdx s fs.length).contains k with
          | false => rfl
          | true => have := (inB k).1 hcb; omega
        unfold wpLex at hh
        rw [if_neg (by simp)] at hh
        by_cases hw : Region.wanted o (yielded l.toArray a.tmps) = true
        · rw [if_pos hw] at hh
          obtain ⟨v, h1, h2⟩ := hh
          refine lex_calm hnb hw fun K hK => ⟨v, h1, hK _ (ih _ _ (by simp at hk; omega) hr h2)⟩
        · rw [if_neg hw] at hh
          exact lex_skip hnb (by simpa using hw) (ih _ _ (by simp at hk; omega) hr hh)
    have := head (l.take s) 0 a0 (by simp; omega) (by simp) h
    simpa using this
theorem stores_nil {w0 : World} {Q : Act → (World → World) → Prop} {g : World → World} {a : Act} (h : Q a g) : lexStores P w0 Q [] [] g a := h
theorem stores_cons {w0 : World} {Q : Act → (World → World) → Prop} {g f : World → World} {fs : List (World → World)} {o : Oper} {rest : List Oper} {a : Act} (hg : o.guard = none)
    (hd : ∀ w1, Grew w0 w1 → does P o a.eval (g w1) fun _ w' => w' = f (g w1)) (hr : lexStores P w0 Q rest fs (fun w => f (g w)) (a.put o.dst undef)) : lexStores P w0 Q (o :: rest) (f :: fs) g a := ⟨hg, hd, hr⟩

/-! ### New blocks and what is stored into them -/
structure Made where
  al : Nat
  st : Nat
  slot : Nat
  T : TypeId
  z : List Value
  cont : List Value
def madeIdx (A : List Made) : List Nat := A.flatMap fun m => [m.al, m.st]
def madeSlots (A : List Made) : List (Nat × Nat) := A.map fun m => (m.slot, m.al)
def madeB (ops : Array Oper) (A : List Made) : Bool := decide ((madeIdx A).Nodup) && A.all fun m => Region.waitsFor .any ops m.st m.al && m.z.length == m.cont.length
def madeM (A : List Made) (w0 : World) (D : Nat → Bool) (vs : Nat → Value) (w : World) : Prop := Grew w0 w ∧
  (∀ m ∈ A, D m.al = true → ∃ b, vs m.al = .pointer (some ⟨b, 0, none⟩) ∧ w0.heap.size ≤ b ∧ Blk w b m.T (if D m.st = true then m.cont else m.z)) ∧
  (∀ m ∈ A, ∀ m' ∈ A, m.al ≠ m'.al → D m.al = true → D m'.al = true → vs m.al ≠ vs m'.al)

def setAll (b : Nat) : Nat → List Value → World → World
  | _, [], w => w
  | j, v :: vs, w => setAll b (j + 1) vs (w.setCell ⟨b, j, none⟩ v)
theorem setAll_same (b : Nat) : ∀ (vs : List Value) (j : Nat) (w : World), (setAll b j vs w).heap.size = w.heap.size ∧ (setAll b j vs w).os = w.os ∧ (setAll b j vs w).tape = w.tape ∧ (setAll b j vs w).output = w.output ∧ (setAll b j vs w).drawn = w.drawn ∧ ∀ k, k ≠ b → (setAll b j vs w).heap[k]? = w.heap[k]?
  | [], _, _ => ⟨rfl, rfl, rfl, rfl, rfl, fun _ _ => rfl⟩
  | v :: vs, j, w => by
    obtain ⟨h1, h2, h3, h4, h5, h6⟩ := setAll_same b vs (j + 1) (w.setCell ⟨b, j, none⟩ v)
    exact ⟨h1.trans (by simp [World.setCell]), h2.trans rfl, h3.trans rfl, h4.trans rfl, h5.trans rfl, fun k hk => (h6 k hk).trans (Below.heap_setCell w ⟨b, j, none⟩ v k hk)⟩
theorem setAll_blk {b : Nat} {T : TypeId} : ∀ (vs done rest : List Value) (w : World), rest.length = vs.length → Blk w b T (done ++ rest) → Blk (setAll b done.length vs w) b T (done ++ vs)
  | [], done, rest, w, hl, h => by
    have : rest = [] := List.eq_nil_of_length_eq_zero (by simpa using hl)
    subst this; exact h
  | v :: vs, done, rest, w, hl, h => by
    cases rest with
    | nil => simp at hl
    | cons r rest =>
      have h1 := h.set done.length v
      have e : (done ++ r :: rest).set done.length v = (done ++ [v]) ++ rest := by simp
      rw [e] at h1
      have := setAll_blk vs (done ++ [v]) rest _ (by simpa using hl) h1
      show Blk (setAll b (done.length + 1) vs _) b T _
      simpa using this
theorem Grew.setAll {a w : World} (h : Grew a w) {b : Nat} (hb : a.heap.size ≤ b) (j : Nat) (vs : List Value) : Grew a (setAll b j vs w) := by
  obtain ⟨h1, h2, h3, h4, h5, h6⟩ := setAll_same b vs j w
  exact h.trans' ⟨h1, h2, h3, h4, h5⟩ fun k hk => h6 k (by omega)

theorem made_inj : ∀ {A : List Made}, (madeIdx A).Nodup → ∀ m ∈ A, ∀ m' ∈ A, (m.al = m'.al → m = m') ∧ (m.st = m'.st → m = m') ∧ m.al ≠ m'.st
  | [], _, _, hm, _, _ => by cases hm
  | x :: A, h, m, hm, m', hm' => by
    have hsub : ∀ y ∈ A, y.al ∈ madeIdx A ∧ y.st ∈ madeIdx A := fun y hy => ⟨List.mem_flatMap.2 ⟨y, hy, by simp⟩, List.mem_flatMap.2 ⟨y, hy, by simp⟩⟩
    have h' : (x.al :: x.st :: madeIdx A).Nodup := by simpa [madeIdx] using h
    obtain ⟨n1, h2⟩ := List.nodup_cons.1 h'
    obtain ⟨n2, h3⟩ := List.nodup_cons.1 h2
    simp only [List.mem_cons, not_or] at n1
    rcases List.mem_cons.1 hm with e1 | k1 <;> rcases List.mem_cons.1 hm' with e2 | k2
    · subst e1; subst e2; exact ⟨fun _ => rfl, fun _ => rfl, n1.1⟩
    · subst e1
      obtain ⟨q1, q2⟩ := hsub m' k2
      exact ⟨fun e => absurd (e ▸ q1) n1.2, fun e => absurd (e ▸ q2) n2, fun e => n1.2 (e ▸ q2)⟩
    · subst e2
      obtain ⟨q1, q2⟩ := hsub m k1
      exact ⟨fun e => absurd (e ▸ q1) n1.2, fun e => absurd (e ▸ q2) n2, fun e => n2 (e ▸ q1)⟩
    · exact made_inj h3 m k1 m' k2

section made
variable {A : List Made} {w0 : World} {Q : Act → Prop} {i : Nat} {o : Oper} {rest : List Oper} {a : Act} {m : Made}
theorem lex_alloc (hA : madeB ops A = true) (hm : m ∈ A) (hi : m.al = i) (hg : o.guard = none)
    (hd : ∀ (ev : Operand → Value) (w : World), does P o ev w fun v w' => v = .pointer (some ⟨w.heap.size, 0, none⟩) ∧ w' = w.alloc (.cells m.z.toArray m.T))
    (hr : wpLex P ops (madeIdx A) (madeSlots A) (madeM A w0) w0 Q (i + 1) rest (a.put o.dst undef)) : wpLex P ops (madeIdx A) (madeSlots A) (madeM A w0) w0 Q i (o :: rest) a := by
  subst hi
  simp only [madeB, Bool.and_eq_true, decide_eq_true_eq, List.all_eq_true, beq_iff_eq] at hA
  have inj := made_inj hA.1
  refine lex_made (List.contains_iff_mem.2 (List.mem_flatMap.2 ⟨m, hm, by simp⟩)) hg ?_ hr
  rintro D vs w ⟨hG, hb, hne⟩ hDi hcl _
  have hst : D m.st = false := by
    cases hc : D m.st with
    | false => rfl
    | true => have := hcl _ _ (hA.2 m hm).1 hc; rw [hDi] at this; cases this
  have old : ∀ m' ∈ A, D m'.al = true → m'.al ≠ m.al := fun m' _ h e => by rw [e, hDi] at h; cases h
  have := hd (evS (madeSlots A) vs a) w
  unfold does at this ⊢
  generalize (execOp (evS (madeSlots A) vs a) o).run P w = r at *
  have key : ∀ v w', (v = .pointer (some ⟨w.heap.size, 0, none⟩) ∧ w' = w.alloc (.cells m.z.toArray m.T)) → madeM A w0 (upd D m.al true) (upd vs m.al v) w' := by
    rintro v w' ⟨rfl, rfl⟩
    have stn : ∀ m' ∈ A, upd D m.al true m'.st = D m'.st := fun m' hm' => by simp only [upd]; rw [if_neg (fun e => (inj m hm m' hm').2.2 e.symm)]
    refine ⟨hG.alloc _, fun m' hm' hd' => ?_, fun m' hm' m'' hm'' hn h1 h2 => ?_⟩
    · rw [stn m' hm']
      by_cases e : m'.al = m.al
      · have := ((inj m' hm' m hm).1 e); subst this
        refine ⟨w.heap.size, by simp [upd], hG.size, ?_⟩
        rw [hst]; simp only [Bool.false_eq_true, if_false]
        exact Blk.new rfl
      · simp only [upd, if_neg e] at hd' ⊢
        obtain ⟨b, k1, k2, k3⟩ := hb m' hm' hd'
        exact ⟨b, k1, k2, k3.alloc _⟩
    · simp only [upd] at h1 h2 ⊢
      by_cases e1 : m'.al = m.al
      · have e2 : m''.al ≠ m.al := fun e => hn (e1.trans e.symm)
        rw [if_neg e2] at h2
        rw [if_pos e1, if_neg e2]
        obtain ⟨b, k1, k2, k3⟩ := hb m'' hm'' h2
        rw [k1]
        intro hc
        simp only [Value.pointer.injEq, Option.some.injEq, Addr.mk.injEq] at hc
        have := k3.lt
        omega
      · rw [if_neg e1] at h1 ⊢
        by_cases e2 : m''.al = m.al
        · rw [if_pos e2]
          obtain ⟨b, k1, k2, k3⟩ := hb m' hm' h1
          rw [k1]
          intro hc
          simp only [Value.pointer.injEq, Option.some.injEq, Addr.mk.injEq] at hc
          have := k3.lt
          omega
        · rw [if_neg e2] at h2 ⊢
          exact hne m' hm' m'' hm'' hn h1 h2
  cases r with
  | ok n w' =>
    cases n <;> simp only [doesUpon] at this ⊢
    case value u => exact key _ _ this
    case skip => exact key _ _ this
    case enter f args => exact this.mono fun e w'' ⟨v, he, hr⟩ => ⟨v, he, key _ _ hr⟩
  | halt x w' => simp only [doesUpon] at this

theorem lex_store (hA : madeB ops A = true) (hm : m ∈ A) (hi : m.st = i) (hg : o.guard = none)
    (hd : ∀ (vs : Nat → Value) (w : World) (b : Nat), vs m.al = .pointer (some ⟨b, 0, none⟩) → Blk w b m.T m.z → does P o (evS (madeSlots A) vs a) w fun _ w' => w' = setAll b 0 m.cont w)
    (hr : wpLex P ops (madeIdx A) (madeSlots A) (madeM A w0) w0 Q (i + 1) rest (a.put o.dst undef)) : wpLex P ops (madeIdx A) (madeSlots A) (madeM A w0) w0 Q i (o :: rest) a := by
  subst hi
  simp only [madeB, Bool.and_eq_true, decide_eq_true_eq, List.all_eq_true, beq_iff_eq] at hA
  have inj := made_inj hA.1
  refine lex_made (List.contains_iff_mem.2 (List.mem_flatMap.2 ⟨m, hm, by simp⟩)) hg ?_ hr
  rintro D vs w ⟨hG, hb, hne⟩ hDi hcl hrd
  have hal : D m.al = true := hrd _ (hA.2 m hm).1
  obtain ⟨b, k1, k2, k3⟩ := hb m hm hal
  rw [hDi] at k3
  simp only [Bool.false_eq_true, if_false] at k3
  have := hd vs w b k1 k3
  unfold does at this ⊢
  generalize (execOp (evS (madeSlots A) vs a) o).run P w = r at *
  have key : ∀ (v : Value) w', w' = setAll b 0 m.cont w → madeM A w0 (upd D m.st true) (upd vs m.st v) w' := by
    rintro v w' rfl
    have aln : ∀ m' ∈ A, m'.al ≠ m.st := fun m' hm' => (inj m' hm' m hm).2.2
    refine ⟨hG.setAll k2 0 _, fun m' hm' hd' => ?_, fun m' hm' m'' hm'' hn h1 h2 => ?_⟩
    · have eD : upd D m.st true m'.al = D m'.al := by simp only [upd, if_neg (aln m' hm')]
      have eV : upd vs m.st v m'.al = vs m'.al := by simp only [upd, if_neg (aln m' hm')]
      rw [eD] at hd'
      rw [eV]
      by_cases e : m'.st = m.st
      · have := ((inj m' hm' m hm).2.1 e); subst this
        refine ⟨b, k1, k2, ?_⟩
        rw [show upd D m'.st true m'.st = true from by simp [upd]]
        simp only [if_true]
        have := setAll_blk m'.cont [] m'.z w (hA.2 m' hm').2 (by simpa using k3)
        simpa using this
      · obtain ⟨b', j1, j2, j3⟩ := hb m' hm' hd'
        refine ⟨b', j1, j2, ?_⟩
        rw [show upd D m.st true m'.st = D m'.st from by simp only [upd, if_neg e]]
        have hbb : b' ≠ b := by
          rintro rfl
          have hma : m'.al ≠ m.al := fun e' => e ((inj m' hm' m hm).1 e' ▸ rfl)
          exact hne m' hm' m hm hma hd' hal (j1.trans k1.symm)
        exact ((setAll_same b m.cont 0 w).2.2.2.2.2 b' hbb).trans j3
    · simp only [upd, if_neg (aln m' hm'), if_neg (aln m'' hm'')] at h1 h2 ⊢
      exact hne m' hm' m'' hm'' hn h1 h2
  cases r with
  | ok n w' =>
    cases n <;> simp only [doesUpon] at this ⊢
    case value u => exact key _ _ this
    case skip => exact key _ _ this
    case enter f args => exact this.mono fun e w'' ⟨v, he, hr⟩ => ⟨v, he, key _ _ hr⟩
  | halt x w' => simp only [doesUpon] at this

theorem wp_region_made {id : Nat} {Q : Exit → Act → World → Prop} {a0 : Act} {w0 : World} {l : List Oper} (A : List Made) (hm : P.follows .mixedOrders = true)
    (hB : mixB l.toArray (madeIdx A) (madeSlots A) = true) (hfits : ∀ p ∈ madeSlots A, p.1 < a0.tmps.size)
    (h : wpLex P l.toArray (madeIdx A) (madeSlots A) (madeM A w0) w0 (fun af => ∀ vs w, madeM A w0 (fun _ => true) vs w → Q .normal (fillS (madeSlots A) vs af) w) 0 l a0) : (Code.region id l.toArray true).wp P Q a0 w0 := by
  refine wp_region_mixed (madeIdx A) (madeSlots A) (madeM A w0) hm hB hfits ?_ ?_ ?_ h
  · intro vs
    unfold madeM
    exact ⟨(Grew.refl _).drew, fun m _ h => absurd h (by simp), fun m _ m' _ _ h => absurd h (by simp)⟩
  · rintro D D' vs vs' w hD ⟨h1, h2, h3⟩
    have ial : ∀ m ∈ A, m.al ∈ madeIdx A := fun m hm => List.mem_flatMap.2 ⟨m, hm, by simp⟩
    have ist : ∀ m ∈ A, m.st ∈ madeIdx A := fun m hm => List.mem_flatMap.2 ⟨m, hm, by simp⟩
    refine ⟨h1, fun m hm hd => ?_, fun m hm m' hm' hn d1 d2 => ?_⟩
    · rw [← (hD _ (ial m hm)).1] at hd
      rw [← (hD _ (ist m hm)).1, ← (hD _ (ial m hm)).2 hd]
      exact h2 m hm hd
    · rw [← (hD _ (ial m hm)).1] at d1
      rw [← (hD _ (ial m' hm')).1] at d2
      rw [← (hD _ (ial m hm)).2 d1, ← (hD _ (ial m' hm')).2 d2]
      exact h3 m hm m' hm' hn d1 d2
  · rintro D vs w i ⟨h1, h2, h3⟩ _ _ _ _
    refine ⟨h1, fun w' g => ⟨h1.trans g, fun m hm hd => ?_, h3⟩⟩
    obtain ⟨b, k1, k2, k3⟩ := h2 m hm hd
    exact ⟨b, k1, k2, k3.grew g⟩
end made
end mixed
attribute [go_sem] calm calmAt calmUpon does doesUpon
end Go.Proofs.Ytbmkamnjjfmdiaa
