/- What Validate of package theme and of its reference returns, at every row of tokens whose names are shorter than 2^62 bytes; the row is of at most 120 tokens. -/
import Derived.Test.YtpdjgmfccolgjaaThF
import Derived.Test.YtpdjgmfccolgjaaThC
import Derived.Test.YtpdjgmfccolgjaaNmA
import Derived.Maps.OwnOps
import Derived.Maps.OwnSet
import Derived.Carry
namespace Go.Proofs.Ytpdjgmfccolgjaa
open Go.RowKit Go.Sort Go.Maps
open Go.ChangeMaps (setBlock)
set_option linter.unusedVariables false
set_option linter.unusedSimpArgs false

theorem Grew.setBlock {a w : World} (h : Grew a w) {b : Nat} (hb : a.heap.size ≤ b) (o : Obj) : Grew a (Go.ChangeMaps.setBlock w b o) :=
  h.trans' ⟨by simp [Go.ChangeMaps.setBlock], rfl, rfl, rfl, rfl⟩ (fun k hk => by
    show (w.heap.setIfInBounds b o)[k]? = _
    rw [Array.getElem?_setIfInBounds, if_neg (by omega)])
theorem ownsMap_same {w w' : World} {P : Program} {k : TypeId} {R : Value → Option (DataW Unit × List MemPlace)} {b n : Nat} {D : DataW Unit} (h : w.ownsMap P k R b n D) (g : w'.heap[b]? = w.heap[b]?) : w'.ownsMap P k R b n D := by
  obtain ⟨es, cl, h1, h2⟩ := h; exact ⟨es, cl, g.trans h1, h2⟩
theorem key_str : Keyed Try.prog 9 := string_keyed Try.underlying9
theorem zero_bool (w : World) : (zeroValue 4).run Try.prog w = .ok (.bool false) w := by kernel_rfl
noncomputable abbrev RB : Value → Option (DataW Unit × List MemPlace) := plainElem Try.prog 4
theorem plainElem_bool_inv {v : Value} {z : DataW Unit × List MemPlace} (h : RB v = some z) : ∃ x, v = .bool x ∧ z = (.lit (.bool x), []) := by
  unfold RB plainElem at h
  rw [Try.underlying4] at h
  cases v <;> simp at h
  exact ⟨_, rfl, h.symm⟩
/-- Block b is a map from strings to booleans that asks S. -/
def MSet (w : World) (b n : Nat) (S : ByteArray → Bool) : Prop := ∃ D : DataW Unit, w.ownsMap Try.prog 9 RB b n D ∧ IsMap D ∧ ∀ s : ByteArray, s.size ≤ 9223372036854775807 → D.atKey (.string s.data.toList) (.lit (.bool false)) = .lit (.bool (S s))
theorem MSet.lt {w : World} {b n : Nat} {S : ByteArray → Bool} (h : MSet w b n S) : b < w.heap.size := by obtain ⟨D, h, _⟩ := h; exact h.lt
theorem MSet.grew {w w' : World} {b n : Nat} {S : ByteArray → Bool} (h : MSet w b n S) (g : Grew w w') : MSet w' b n S := by
  obtain ⟨D, h1, h2⟩ := h
  exact ⟨D, ownsMap_same h1 (g.1.block b h1.lt), h2⟩
theorem MSet.congr {w : World} {b n : Nat} {S S' : ByteArray → Bool} (h : MSet w b n S) (e : ∀ s, S s = S' s) : MSet w b n S' := by
  obtain rfl : S = S' := funext e
  exact h
theorem MSet.made (w : World) : MSet (w.alloc (.map #[] 0)) w.heap.size 0 (fun _ => false) :=
  ⟨_, World.ownsMap_made w _ _ _, isMap_empty, fun s _ => rfl⟩
theorem maxLen_ok {s : ByteArray} (h : s.size ≤ 9223372036854775807) : s.size ≤ maxLen := by unfold maxLen; omega
theorem wpList_set_look (w : World) {ops : Array Oper} {rest : List Oper} {o : Oper} {a : Act} {Q : Exit → Act → World → Prop} (hg : o.guard = none) (m x : Operand) (hop : o.op = Op.lookup 47 m x false)
    (b n : Nat) (S : ByteArray → Bool) (H : MSet w b n S) (hm : a.eval m = .map (some b)) (s : ByteArray) (hx : a.eval x = .string s) (hs : s.size ≤ 9223372036854775807)
    (hK : wpList Try.prog ops Q rest (a.put o.dst (.bool (S s))) w) : wpList Try.prog ops Q (o :: rest) a w := by
  refine wpList_plain hg fun K' hK' => ?_
  obtain ⟨D, H1, H2, H3⟩ := H
  obtain ⟨v, ps, hrun, hv⟩ := H1.lookup key_str Try.underlying47 (zero_bool w) (plainElem_bool Try.underlying4 false) (key := .string s) (Go.WideMaps.keyOf_string_mk Try.underlying9 (maxLen_ok hs))
  rw [H3 s hs] at hv
  obtain ⟨y, rfl, hy⟩ := plainElem_bool_inv hv
  simp only [Prod.mk.injEq, DataW.lit.injEq, Lit.bool.injEq] at hy
  obtain ⟨rfl, -⟩ := hy
  unfold Oper.wp
  simp [execOp, hop, hm, hx, hrun, Result.andThen]
  exact hK' _ _ hK
theorem wpList_set_store (w : World) {ops : Array Oper} {rest : List Oper} {o : Oper} {a : Act} {Q : Exit → Act → World → Prop} (hg : o.guard = none) (m x v : Operand) (hop : o.op = Op.mapUpdate 47 m x v)
    (b n : Nat) (S : ByteArray → Bool) (H : MSet w b n S) (hn : n ≤ 1000) (hm : a.eval m = .map (some b)) (s : ByteArray) (hx : a.eval x = .string s) (hs : s.size ≤ 9223372036854775807) (hv : a.eval v = .bool true)
    (hK : ∀ o', MSet (setBlock w b o') b (n + 1) (fun s' => S s' || decide (s = s')) → wpList Try.prog ops Q rest (a.put o.dst undef) (setBlock w b o')) : wpList Try.prog ops Q (o :: rest) a w := by
  refine wpList_plain hg fun K' hK' => ?_
  obtain ⟨D, H1, H2, H3⟩ := H
  have hkey := Go.WideMaps.keyOf_string_mk Try.underlying9 (maxLen_ok hs)
  obtain ⟨w', hrun, h1, es, clock, es', clock', h2, rfl⟩ := H1.store key_str Try.underlying47 (by unfold maxLen; omega) (key := .string s) hkey (plainElem_bool Try.underlying4 true)
  unfold Oper.wp
  simp [execOp, hop, hm, hx, hv, hrun, Result.andThen]
  refine hK' _ _ (hK _ ⟨_, h1, H2.put _ _, fun s' hs' => ?_⟩)
  by_cases e : s = s'
  · subst e
    rw [atKey_put_same H2 (key_str.key hkey)]
    simp
  · rw [atKey_put_other (by
      intro h
      simp only [Lit.string.injEq] at h
      apply e
      obtain ⟨⟨a⟩⟩ := s
      obtain ⟨⟨b⟩⟩ := s'
      simpa using h.symm), H3 s' hs']
    simp [e]

/-- One of the tokens k to k + m - 1 has the name. -/
def anyF (x : Nat → Tk) (nm : ByteArray) : Nat → Nat → Bool
  | _, 0 => false
  | k, m + 1 => decide ((x k).nm = nm) || anyF x nm (k + 1) m
theorem anyF_snoc (x : Nat → Tk) (nm : ByteArray) : ∀ (m k : Nat), anyF x nm k (m + 1) = (anyF x nm k m || decide ((x (k + m)).nm = nm))
  | 0, k => by simp [anyF]
  | m + 1, k => by rw [anyF, anyF_snoc x nm m (k + 1), anyF, Bool.or_assoc, show k + 1 + m = k + (m + 1) by omega]
def wiB (n : Int) : Bool := decide (-1 ≤ n ∧ n ≤ 16777215)
def valB (t : Tk) : Bool := wiB t.l && wiB t.d && wiB t.h && wiB t.g
/-- What is wrong with the tokens k to k + m - 1. -/
def vdF (x : Nat → Tk) : Nat → Nat → Int
  | _, 0 => 0
  | k, m + 1 => if nmB (x k).nm then (if anyF x (x k).nm 0 k then 6 else if valB (x k) then vdF x (k + 1) m else 1) else 4
def vldF (x : Nat → Tk) (n : Nat) : Int := if 100 < n then 2 else vdF x 0 n

theorem rvalue_any (n : Int) (w : World) : Calls Try.prog 27 #[.int .i64 n] w fun e w' => e = .returned (.bool (wiB n)) ∧ w = w' := by
  unfold wiB
  by_cases h1 : -1 ≤ n <;> by_cases h2 : n ≤ 16777215
  all_goals
    go_enter Try.func27, Try.ntmps27
    go_wp2
    go_ret
    exact ⟨ret_bool (by simp [h1, h2]), rfl⟩
@[go_sem] theorem index40 (a b c d : Value) (W : World) : (Instr.index 57 (.agg #[a, b, c, d]) (.int .i64 0)).run Try.prog W = .ok a W := by kernel_rfl
@[go_sem] theorem index41 (a b c d : Value) (W : World) : (Instr.index 57 (.agg #[a, b, c, d]) (.int .i64 1)).run Try.prog W = .ok b W := by kernel_rfl
@[go_sem] theorem index42 (a b c d : Value) (W : World) : (Instr.index 57 (.agg #[a, b, c, d]) (.int .i64 2)).run Try.prog W = .ok c W := by kernel_rfl
@[go_sem] theorem index43 (a b c d : Value) (W : World) : (Instr.index 57 (.agg #[a, b, c, d]) (.int .i64 3)).run Try.prog W = .ok d W := by kernel_rfl
set_option maxHeartbeats 4000000 in
theorem inRange_any (t : Tk) (w : World) : Calls Try.prog 25 #[t.v] w fun e w' => e = .returned (.bool (valB t)) ∧ Grew w w' := by
  obtain ⟨nm, l, d, h, g⟩ := t
  have W0 := fun W => hide (within_th l (-1) 16777215 W)
  have e0 : decide (-1 ≤ l ∧ l ≤ 16777215) = wiB l := rfl
  rw [e0] at W0
  have W1 := fun W => hide (within_th d (-1) 16777215 W)
  have e1 : decide (-1 ≤ d ∧ d ≤ 16777215) = wiB d := rfl
  rw [e1] at W1
  have W2 := fun W => hide (within_th h (-1) 16777215 W)
  have e2 : decide (-1 ≤ h ∧ h ≤ 16777215) = wiB h := rfl
  rw [e2] at W2
  have W3 := fun W => hide (within_th g (-1) 16777215 W)
  have e3 : decide (-1 ≤ g ∧ g ≤ 16777215) = wiB g := rfl
  rw [e3] at W3
  unfold valB
  dsimp only [Tk.v] at *
  generalize wiB l = v0 at *
  clear e0
  generalize wiB d = v1 at *
  clear e1
  generalize wiB h = v2 at *
  clear e2
  generalize wiB g = v3 at *
  clear e3
  cases v0
  · 
    go_enter Try.func25, Try.ntmps25
    go_wp2
    refine wp_loop_rounds 5 ?_
    rw [rounds_succ]
    go_wp2_with fail
    refine (W0 _).out.mono ?_
    rintro e w' ⟨rfl, rfl⟩
    go_wp2
    go_ret
    exact ⟨rfl, (Grew.refl _).alloc _⟩
  cases v1
  · 
    go_enter Try.func25, Try.ntmps25
    go_wp2
    refine wp_loop_rounds 5 ?_
    rw [rounds_succ]
    go_wp2_with fail
    refine (W0 _).out.mono ?_
    rintro e w' ⟨rfl, rfl⟩
    go_wp2
    rw [rounds_succ]
    go_wp2_with fail
    refine (W1 _).out.mono ?_
    rintro e w' ⟨rfl, rfl⟩
    go_wp2
    go_ret
    exact ⟨rfl, (Grew.refl _).alloc _⟩
  cases v2
  · 
    go_enter Try.func25, Try.ntmps25
    go_wp2
    refine wp_loop_rounds 5 ?_
    rw [rounds_succ]
    go_wp2_with fail
    refine (W0 _).out.mono ?_
    rintro e w' ⟨rfl, rfl⟩
    go_wp2
    rw [rounds_succ]
    go_wp2_with fail
    refine (W1 _).out.mono ?_
    rintro e w' ⟨rfl, rfl⟩
    go_wp2
    rw [rounds_succ]
    go_wp2_with fail
    refine (W2 _).out.mono ?_
    rintro e w' ⟨rfl, rfl⟩
    go_wp2
    go_ret
    exact ⟨rfl, (Grew.refl _).alloc _⟩
  cases v3
  · 
    go_enter Try.func25, Try.ntmps25
    go_wp2
    refine wp_loop_rounds 5 ?_
    rw [rounds_succ]
    go_wp2_with fail
    refine (W0 _).out.mono ?_
    rintro e w' ⟨rfl, rfl⟩
    go_wp2
    rw [rounds_succ]
    go_wp2_with fail
    refine (W1 _).out.mono ?_
    rintro e w' ⟨rfl, rfl⟩
    go_wp2
    rw [rounds_succ]
    go_wp2_with fail
    refine (W2 _).out.mono ?_
    rintro e w' ⟨rfl, rfl⟩
    go_wp2
    rw [rounds_succ]
    go_wp2_with fail
    refine (W3 _).out.mono ?_
    rintro e w' ⟨rfl, rfl⟩
    go_wp2
    go_ret
    exact ⟨rfl, (Grew.refl _).alloc _⟩
  go_enter Try.func25, Try.ntmps25
  go_wp2
  refine wp_loop_rounds 5 ?_
  rw [rounds_succ]
  go_wp2_with fail
  refine (W0 _).out.mono ?_
  rintro e w' ⟨rfl, rfl⟩
  go_wp2
  rw [rounds_succ]
  go_wp2_with fail
  refine (W1 _).out.mono ?_
  rintro e w' ⟨rfl, rfl⟩
  go_wp2
  rw [rounds_succ]
  go_wp2_with fail
  refine (W2 _).out.mono ?_
  rintro e w' ⟨rfl, rfl⟩
  go_wp2
  rw [rounds_succ]
  go_wp2_with fail
  refine (W3 _).out.mono ?_
  rintro e w' ⟨rfl, rfl⟩
  go_wp2
  rw [rounds_succ]
  go_wp2
  go_ret
  exact ⟨rfl, (Grew.refl _).alloc _⟩
end Go.Proofs.Ytpdjgmfccolgjaa
