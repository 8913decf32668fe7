/- A switch of many cases over one rune, each of which returns a row of five classes: walked once for lists of cases of any length; no condition. -/
import Derived.Test.YtfiaongnogiegaaGeBase
namespace Go.Proofs.Ytfiaongnogiegaa
open Go.RowKit Go.Sort
set_option linter.unusedSimpArgs false
set_option linter.unusedVariables false

/-- A row of classes. -/
structure Cl where
  (b w l d j : Int)
deriving DecidableEq
abbrev Cl.zero : Cl := ⟨0, 0, 0, 0, 0⟩
abbrev Cl.v (c : Cl) : Value := .agg #[.int .i64 c.b, .int .i64 c.w, .int .i64 c.l, .int .i64 c.d, .int .i64 c.j]
abbrev Cl.vs (c : Cl) : List Value := [.int .i64 c.b, .int .i64 c.w, .int .i64 c.l, .int .i64 c.d, .int .i64 c.j]

/-- A case of the switch: whether it asks for less (or at most), its bound, and its row (or none). -/
structure CaseD where
  (lt : Bool) (k : Int) (c : Option Cl)
def CaseD.hit (x : CaseD) (r : Int) : Bool := if x.lt then decide (r < x.k) else decide (r ≤ x.k)
def CaseD.row (x : CaseD) : Cl := x.c.getD Cl.zero
/-- Where the regions of a code stand in the text, in their order. -/
def posL : Code → List String
  | .region _ ops _ => [(ops[0]?.map (·.pos)).getD ""]
  | .seq a b => posL a ++ posL b
  | .cond _ a b => posL a ++ posL b
  | .block _ c => posL c
  | .loop c => posL c
  | _ => []
def testOps (s : Nat) (p : String) (x : CaseD) : List Oper :=
  [{ dst := some (s+1), op := .move (.tmp 0), type := 21, pos := p, after := #[], guard := none },
   { dst := some (s+2), op := .binOp (if x.lt then .lss else .leq) 21 (.tmp (s+1)) (.const (.int .i32 x.k)) 21, type := 4, pos := p, after := #[{ on := 0, ground := .data }], guard := none },
   { dst := some s, op := .assign (.tmp (s+2)), type := 4, pos := p, after := #[{ on := 1, ground := .data }], guard := none }]
def built (c : Option Cl) : Array (Nat × Operand) := match c with
  | none => #[]
  | some c => #[(0, .const (.int .i64 c.b)), (1, .const (.int .i64 c.w)), (2, .const (.int .i64 c.l)), (3, .const (.int .i64 c.d)), (4, .const (.int .i64 c.j))]
def rowOps (s : Nat) (q : String) (c : Option Cl) : List Oper :=
  [{ dst := some s, op := .build 74 (built c), type := 74, pos := q, after := #[], guard := none },
   { dst := none, op := .store 74 (.tmp 2) (.tmp s), type := 0, pos := q, after := #[{ on := 0, ground := .data }, { on := 0, ground := .phase }], guard := none }]
def mkC : List String → List CaseD → Nat → Nat → Code
  | _, [], _, _ => .skip
  | ps, x :: l, s, id => .seq (.region id (testOps s (ps.headD "") x).toArray false) (.cond (.tmp s) (.seq (.region (id+1) (rowOps (s+3) (ps.tail.headD "") x.c).toArray false) .ret) (mkC ps.tail.tail l (s+4) (id+2)))
def lkC : List CaseD → Int → Option Cl
  | [], _ => none
  | x :: l, r => if x.hit r then some x.row else lkC l r

/-- The frame: the rune in slot 0, the result's place in slot 2. -/
def Fr (n : Nat) (r : Int) (b : Nat) (a : Act) : Prop := a.tmps.size = n ∧ a.tmps[0]? = some (.int .i32 r) ∧ a.tmps[2]? = some (.pointer (some ⟨b, 0, none⟩)) ∧ a.defers = []
theorem Fr.put {n b : Nat} {r : Int} {a : Act} (h : Fr n r b a) (s : Nat) (hs : 2 < s) (v : Value) : Fr n r b ⟨a.tmps.setIfInBounds s v, a.defers⟩ := by
  obtain ⟨h1, h2, h3, h4⟩ := h
  refine ⟨by simpa using h1, ?_, ?_, h4⟩
  · show (a.tmps.setIfInBounds s v)[0]? = _
    rw [Array.getElem?_setIfInBounds_ne (by omega)]; exact h2
  · show (a.tmps.setIfInBounds s v)[2]? = _
    rw [Array.getElem?_setIfInBounds_ne (by omega)]; exact h3

theorem test_wp {n b : Nat} {r : Int} {P : Program} {Q : Exit → Act → World → Prop} (id s : Nat) (p : String) (x : CaseD) (a : Act) (w : World) (hs : 2 < s) (hz : s + 2 < n) (hf : Fr n r b a)
    (hp : P.underlying 21 = some (.int .i32)) (hr : -2147483648 ≤ r ∧ r ≤ 2147483647)
    (h : ∀ a' : Act, Fr n r b a' → a'.eval (.tmp s) = .bool (x.hit r) → Q .normal a' w) :
    (Code.region id (testOps s p x).toArray false).wp P Q a w := by
  have hz1 : s < a.tmps.size := by rw [hf.1]; omega
  have hz2 : s + 1 < a.tmps.size := by rw [hf.1]; omega
  have hz3 : s + 2 < a.tmps.size := by rw [hf.1]; omega
  have h0 := hf.2.1
  have H1 := ((hf.put (s+1) (by omega) (.int .i32 r)).put (s+2) (by omega) (.bool (x.hit r))).put s hs (.bool (x.hit r))
  have H2 := h _ H1 (by simp [Act.eval, hz1])
  clear h H1 hf
  apply wp_region_lit
  unfold testOps
  refine wpList_plain rfl (fun K hK => ?_)
  go_simp
  refine hK _ _ ?_
  clear hK K
  refine wpList_plain rfl (fun K hK => ?_)
  unfold CaseD.hit at H2
  obtain ⟨lt, k, c⟩ := x
  cases lt
  all_goals
    go_simp
    refine hK _ _ ?_
    clear hK K
    refine wpList_plain rfl (fun K hK => ?_)
    go_simp
    refine hK _ _ ?_
    simp only [wpList]
    simpa using H2

theorem row_wp {n b : Nat} {r : Int} {Q : Exit → Act → World → Prop} (id s : Nat) (q : String) (c : Option Cl) (a : Act) (w W : World) (hs : 2 < s) (hz : s < n) (hf : Fr n r b a)
    (hW : Blk W b 74 Cl.zero.vs) (hg : Grew w W) (hb : w.heap.size ≤ b)
    (hQ : ∀ (a' : Act) (W' : World), Fr n r b a' → Blk W' b 74 (c.getD Cl.zero).vs → Grew w W' → Q .normal a' W') :
    (Code.region id (rowOps s q c).toArray false).wp Try.prog Q a W := by
  have hz1 : s < a.tmps.size := by rw [hf.1]; omega
  have h2 : ∀ v, (a.tmps.setIfInBounds s v)[2]? = some (.pointer (some ⟨b, 0, none⟩)) := fun v => (hf.put s hs v).2.2.1
  have c0 := hW.cell 0 rfl
  have c1 := hW.cell 1 rfl
  have c2 := hW.cell 2 rfl
  have c3 := hW.cell 3 rfl
  have c4 := hW.cell 4 rfl
  have f0 := hW.free 0
  have f1 := hW.free 1
  have f2 := hW.free 2
  have f3 := hW.free 3
  have f4 := hW.free 4
  have h0 := hf.2.2.1
  have H1 := hQ _ (((((W.setCell ⟨b, 0, none⟩ (.int .i64 (c.getD Cl.zero).b)).setCell ⟨b, 1, none⟩ (.int .i64 (c.getD Cl.zero).w)).setCell ⟨b, 2, none⟩ (.int .i64 (c.getD Cl.zero).l)).setCell ⟨b, 3, none⟩ (.int .i64 (c.getD Cl.zero).d)).setCell ⟨b, 4, none⟩ (.int .i64 (c.getD Cl.zero).j)) (hf.put s hs (c.getD Cl.zero).v) (((((hW.set 0 _).set 1 _).set 2 _).set 3 _).set 4 _) (((((hg.setCell hb _).setCell hb _).setCell hb _).setCell hb _).setCell hb _)
  clear hQ hf hW hg
  cases c with
  | none =>
    apply wp_region_lit
    unfold rowOps built
    refine wpList_plain rfl (fun K hK => ?_)
    go_simp
    refine hK _ _ ?_
    clear hK K
    refine wpList_plain rfl (fun K hK => ?_)
    go_simp
    refine hK _ _ ?_
    simp only [wpList]
    simpa using H1
  | some c =>
    apply wp_region_lit
    unfold rowOps built
    refine wpList_plain rfl (fun K hK => ?_)
    go_simp
    refine hK _ _ ?_
    clear hK K
    refine wpList_plain rfl (fun K hK => ?_)
    go_simp
    refine hK _ _ ?_
    simp only [wpList]
    simpa using H1

theorem chain_wp {n b : Nat} {r : Int} {Q : Exit → Act → World → Prop} {w W : World} (hr : -2147483648 ≤ r ∧ r ≤ 2147483647)
    (hW : Blk W b 74 Cl.zero.vs) (hg : Grew w W) (hb : w.heap.size ≤ b) : ∀ (ps : List String) (l : List CaseD) (s id : Nat) (a : Act), 2 < s → s + 4 * l.length ≤ n → Fr n r b a →
    (∀ (a' : Act) (W' : World) (c : Cl), lkC l r = some c → Fr n r b a' → Blk W' b 74 c.vs → Grew w W' → Q .ret a' W') →
    (∀ (a' : Act), lkC l r = none → Fr n r b a' → Q .normal a' W) →
    (mkC ps l s id).wp Try.prog Q a W
  | ps, [], s, id, a, h1, h2, h3, h4, h5 => wp_skip (h5 a rfl h3)
  | ps, x :: l, s, id, a, h1, h2, h3, h4, h5 => by
    simp only [List.length_cons] at h2
    refine wp_seq (test_wp id s _ x a W h1 (by omega) h3 (by kernel_rfl) hr fun a' hf he => ?_)
    show (Code.cond _ _ _).wp _ _ _ _
    refine wp_cond_split he (fun ht => ?_) (fun ht => ?_)
    · refine wp_seq (row_wp (id+1) (s+3) _ x.c a' w W (by omega) (by omega) hf hW hg hb fun a'' W' hf' hW' hg' => ?_)
      refine wp_ret (h4 _ _ _ ?_ hf' hW' hg')
      simp only [lkC, ht, if_true]
      rfl
    · refine chain_wp hr hW hg hb ps.tail.tail l (s+4) (id+2) a' (by omega) (by omega) hf ?_ ?_
      · intro a'' W' c hc; exact h4 a'' W' c (by simp only [lkC, ht]; exact hc)
      · intro a'' hc; exact h5 a'' (by simp only [lkC, ht]; exact hc)
end Go.Proofs.Ytfiaongnogiegaa
