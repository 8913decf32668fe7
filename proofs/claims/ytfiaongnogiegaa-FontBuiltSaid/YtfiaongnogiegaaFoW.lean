/- A struct's field that grows by one element, in a region that draws its order: the states between the operations; no condition. -/
import Derived.Test.YtfiaongnogiegaaFoU
namespace Go.Proofs.Ytfiaongnogiegaa
open Go.RowKit Go.Sort
set_option linter.unusedVariables false
set_option linter.unusedSimpArgs false

theorem does_append {P : Program} (w : World) {o : Oper} {ev : Operand → Value} {R : Value → World → Prop} (s x : Operand) (t : TypeId)
    (ho : o.op = .call { callee := .builtin .append, args := #[s, x], argTypes := #[t, t] })
    (base : Nat) (e : TypeId) (i : TypeInfo) (z : Value) (size bytes : Nat) (ht : P.underlying t = some (.slice e)) (hi : P.info? e = some i) (hz : i.zero = some z)
    (hsize : i.size = size) (hby : i.bytes = bytes) (hzs : z.cells.size = size) (hsz : 0 < size)
    (v : Value) (n : Nat) (xs : List Value) (hs : ev s = v) (hown : w.ownsRow base e size v n xs)
    (ad : Addr) (m c : Nat) (news : List Value) (hx : ev x = .slice (some ad) m c) (hm : 0 < m) (hl : news.length = m * size) (hnews : ∀ j u, news[j]? = some u → w.cell? (ad.add j) = some u) (h1 : ∀ u ∈ news, u.oneCell' = true)
    (h63 : n + m ≤ maxLen) (hbytes : (n + m) * bytes ≤ 140737488355328) (hbase : base ≤ w.heap.size)
    (h : ∀ v' w', w'.ownsRow base e size v' (n + m) (xs ++ news) → w.grownBy w' v.ownBlock → w.drawn ≤ w'.drawn → R v' w') : does P o ev w R := by
  obtain ⟨v', w', hr, h2, h3, h4, h5⟩ := run_append_drawn (P := P) w base t o.type e i z size bytes ht hi hz hsize hby hzs hsz v n xs hown ad m c news hm hl hnews h1 h63 hbytes hbase
  unfold does execOp
  simp only [ho, resolve, invoke, builtin, Sem.run_bind, Sem.run_pure, Result.andThen_ok, List.map_toArray, List.map_cons, List.map_nil, hs, hx, hr, doesUpon]
  exact h v' w' h2 h3 h4

theorem addr_add (g j : Nat) : (Addr.mk g 0 none).add j = ⟨g, j, none⟩ := by
  unfold Addr.add
  by_cases h : j = 0
  · simp [h]
  · simp [h]
theorem own_val {w : World} {base : Nat} {e : TypeId} {size : Nat} {v : Value} {n : Nat} {xs : List Value} (h : w.ownsRow base e size v n xs) : ∃ q cap, v = .slice q n cap := by
  rcases h.2 with ⟨rfl, rfl⟩ | ⟨g, cap, cur, rfl, _⟩
  · exact ⟨none, 0, rfl⟩
  · exact ⟨some ⟨g, 0, none⟩, cap, rfl⟩

/-- The states of 'x.f = append(x.f, T{.., call})' behind each of its five operations that make or write memory or look at what they yield. -/
def StApp (Pre : Value → Nat → List Value → World → Prop) (FBv : Value → World → Prop) (TE : TypeId) (v : Value) (n : Nat) (xs : List Value) (ok : Int → Prop) (mkV : Int → Value) (mk : Int → List Value) : List Value → World → Prop
  | [], w => Pre v n xs w ∧ FBv v w
  | [a], w => ∃ x, ok x ∧ a = .int .i64 x ∧ Pre v n xs w ∧ FBv v w
  | [_, b], w => ∃ x, ok x ∧ b = mkV x ∧ Pre v n xs w ∧ FBv v w
  | [_, _, q], w => ∃ x, ok x ∧ ∃ g, q = .slice (some ⟨g, 0, none⟩) 1 1 ∧ Blk w g TE (mk x) ∧ Pre v n xs w ∧ FBv v w
  | [_, _, _, r], w => ∃ x, ok x ∧ Pre r (n + 1) (xs ++ mk x) w ∧ FBv v w
  | [_, _, _, r, _], w => ∃ x, ok x ∧ Pre r (n + 1) (xs ++ mk x) w ∧ FBv r w
  | _, _ => False
theorem StApp.fb {Pre : Value → Nat → List Value → World → Prop} {FBv : Value → World → Prop} {TE : TypeId} {v : Value} {n : Nat} {xs : List Value} {ok : Int → Prop} {mkV : Int → Value} {mk : Int → List Value} :
    ∀ {vals : List Value} {w : World}, vals.length < 5 → StApp Pre FBv TE v n xs ok mkV mk vals w → FBv v w
  | [], w, _, h => h.2
  | [_], w, _, ⟨_, _, _, _, h⟩ => h
  | [_, _], w, _, ⟨_, _, _, _, h⟩ => h
  | [_, _, _], w, _, ⟨_, _, _, _, _, _, h⟩ => h
  | [_, _, _, _], w, _, ⟨_, _, _, h⟩ => h
  | _ :: _ :: _ :: _ :: _ :: _, w, hl, _ => by simp at hl; omega
/-- The same with two calls: the first's yield goes through one operation that stands beside the chain. -/
def StApp2 (Pre : Value → Nat → List Value → World → Prop) (FBv : Value → World → Prop) (TE : TypeId) (v : Value) (n : Nat) (xs : List Value) (ok1 ok2 : Int → Prop) (mkV : Int → Int → Value) (mk : Int → Int → List Value) : List Value → World → Prop
  | [], w => Pre v n xs w ∧ FBv v w
  | [_], w => Pre v n xs w ∧ FBv v w
  | [_, b], w => ∃ y, ok2 y ∧ b = .int .i64 y ∧ Pre v n xs w ∧ FBv v w
  | [_, _, b], w => ∃ x y, ok1 x ∧ ok2 y ∧ b = mkV x y ∧ Pre v n xs w ∧ FBv v w
  | [_, _, _, q], w => ∃ x y, ok1 x ∧ ok2 y ∧ ∃ g, q = .slice (some ⟨g, 0, none⟩) 1 1 ∧ Blk w g TE (mk x y) ∧ Pre v n xs w ∧ FBv v w
  | [_, _, _, _, r], w => ∃ x y, ok1 x ∧ ok2 y ∧ Pre r (n + 1) (xs ++ mk x y) w ∧ FBv v w
  | [_, _, _, _, r, _], w => ∃ x y, ok1 x ∧ ok2 y ∧ Pre r (n + 1) (xs ++ mk x y) w ∧ FBv r w
  | _, _ => False
theorem StApp2.fb {Pre : Value → Nat → List Value → World → Prop} {FBv : Value → World → Prop} {TE : TypeId} {v : Value} {n : Nat} {xs : List Value} {ok1 ok2 : Int → Prop} {mkV : Int → Int → Value} {mk : Int → Int → List Value} :
    ∀ {vals : List Value} {w : World}, vals.length < 6 → StApp2 Pre FBv TE v n xs ok1 ok2 mkV mk vals w → FBv v w
  | [], w, _, h => h.2
  | [_], w, _, h => h.2
  | [_, _], w, _, ⟨_, _, _, _, h⟩ => h
  | [_, _, _], w, _, ⟨_, _, _, _, _, _, h⟩ => h
  | [_, _, _, _], w, _, ⟨_, _, _, _, _, _, _, _, h⟩ => h
  | [_, _, _, _, _], w, _, ⟨_, _, _, _, _, h⟩ => h
  | _ :: _ :: _ :: _ :: _ :: _ :: _, w, hl, _ => by simp at hl; omega
def RL (i : Nat) (v : Value) : Prop := if i = 5 then ∃ x, (0 ≤ x ∧ x < 9) ∧ v = .int .i64 x else ∃ x, (0 ≤ x ∧ x < 9) ∧ v = .int .i64 (1114112 + x)
/-- What the region that reads two runes of the alphabet yields. -/
def RI (ab lim : Nat) (i : Nat) (v : Value) : Prop := if i = 2 ∨ i = 7 then ∃ k : Nat, k < lim ∧ v = .int .i64 (k : Int) else if i = 3 ∨ i = 8 then ∃ k : Nat, k < lim ∧ v = .pointer (some ⟨ab, k, none⟩) else ∃ k : Nat, k < lim ∧ v = .int .i32 (al k)
theorem Two.to_but {sb fb : Nat} {w w8 w' : World} (h : But sb w w8) (t : Two sb fb w8 w') (hfb : w.heap.size ≤ fb) : But sb w w' :=
  ⟨t.os.trans h.os, t.tape.trans h.tape, t.output.trans h.output, Nat.le_trans h.size t.size, Nat.le_trans h.drawn t.drawn, fun k hk hb => (t.block k (Nat.lt_of_lt_of_le hk h.size) hb (by omega)).trans (h.block k hk hb)⟩
theorem But.to_but {sb rb : Nat} {w w8 w' : World} (h : But sb w w8) (t : But rb w8 w') (hrb : w.heap.size ≤ rb) : But sb w w' :=
  ⟨t.os.trans h.os, t.tape.trans h.tape, t.output.trans h.output, Nat.le_trans h.size t.size, Nat.le_trans h.drawn t.drawn, fun k hk hb => (t.block k (Nat.lt_of_lt_of_le hk h.size) (by omega)).trans (h.block k hk hb)⟩
structure Own3 (B : Nat) (F : Fn) (s : Sl) (W : World) : Prop where
  a : W.ownsRow B 43 3 (.slice s.pa F.na s.ca) F.na (flat F.na 3 (adC F.av))
  k : W.ownsRow B 37 3 (.slice s.pk F.nk s.ck) F.nk (flat F.nk 3 (knC F.kv))
  l : W.ownsRow B 39 4 (.slice s.pl F.nl s.cl) F.nl (flat F.nl 4 (lgC F.lv))
theorem own_base {w : World} {base base' : Nat} {e : TypeId} {size : Nat} {v : Value} {n : Nat} {xs : List Value} (h : w.ownsRow base e size v n xs) (hb : base' ≤ base) : w.ownsRow base' e size v n xs := by
  refine ⟨h.1, ?_⟩
  rcases h.2 with hn | ⟨g, cap, cur, rfl, h1, h2, h3⟩
  · exact Or.inl hn
  · exact Or.inr ⟨g, cap, cur, rfl, Nat.le_trans hb h1, h2, h3⟩
theorem Own3.fat {B : Nat} {F : Fn} {s : Sl} {W : World} (h : Own3 B F s W) : FAt W F s := by
  obtain ⟨q1, c1, e1, _, r1⟩ := own_srow h.a
  obtain ⟨q2, c2, e2, _, r2⟩ := own_srow h.k
  obtain ⟨q3, c3, e3, _, r3⟩ := own_srow h.l
  injection e1 with e1
  injection e2 with e2
  injection e3 with e3
  subst e1 e2 e3
  exact ⟨r1, r2, r3⟩
theorem font_end {w0 w w8 wA wB wC W : World} {sb fb rb m c : Nat} {p : Option Addr} {f : Nat → Int} {F : Fn} {s : Sl} (hG : Good F) (B8 : But sb w w8) (TA : Two sb fb w8 wA) (TB : Two sb fb wA wB) (TC : Two sb fb wB wC)
    (OA : wA.ownsRow w8.heap.size 43 3 (.slice s.pa F.na s.ca) F.na (flat F.na 3 (adC F.av)))
    (OB : wB.ownsRow wA.heap.size 37 3 (.slice s.pk F.nk s.ck) F.nk (flat F.nk 3 (knC F.kv)))
    (OC : wC.ownsRow wB.heap.size 39 4 (.slice s.pl F.nl s.cl) F.nl (flat F.nl 4 (lgC F.lv)))
    (SC : SR w0 wC sb p m c f) (hsb : sb < w8.heap.size) (hfb : fb < w8.heap.size) (hrb : rb < w8.heap.size) (n1 : rb ≠ sb) (n2 : w.heap.size ≤ fb) (n3 : w.heap.size ≤ rb) (n4 : w0.heap.size ≤ w.heap.size) (BW : But rb wC W) :
    Good F ∧ Own3 w.heap.size F s W ∧ SR w0 W sb p m c f ∧ But sb w W := by
  have z1 := B8.size
  have z2 := TA.size
  have z3 := TB.size
  have z4 := TC.size
  refine ⟨hG, ⟨?_, ?_, ?_⟩, ?_, (Two.to_but B8 ((TA.trans TB).trans TC) n2).to_but BW n3⟩
  · refine own_base (own_move OA fun b hb => ?_) z1
    obtain ⟨l1, l2⟩ := OA.lt b hb
    exact (BW.block b (by omega) (by omega)).trans ((TB.trans TC).block b l2 (by omega) (by omega))
  · refine own_base (own_move OB fun b hb => ?_) (Nat.le_trans z1 z2)
    obtain ⟨l1, l2⟩ := OB.lt b hb
    exact (BW.block b (by omega) (by omega)).trans (TC.block b l2 (by omega) (by omega))
  · refine own_base (own_move OC fun b hb => ?_) (by omega)
    obtain ⟨l1, l2⟩ := OC.lt b hb
    exact BW.block b (by omega) (by omega)
  · obtain ⟨t, _, k⟩ := SC.src
    exact SC.same (BW.grew SC.g (by omega)) (BW.block sb k.lt (Ne.symm n1))
theorem stored8 {w : World} {b : Nat} {T : TypeId} {v0 v1 v2 v3 v4 v5 v6 v7 z0 z1 z2 z3 z4 z5 z6 z7 : Value} (h : Blk w b T [z0, z1, z2, z3, z4, z5, z6, z7]) :
    Blk ((((((((w.setCell ⟨b, 0, none⟩ v0).setCell ⟨b, 1, none⟩ v1).setCell ⟨b, 2, none⟩ v2).setCell ⟨b, 3, none⟩ v3).setCell ⟨b, 4, none⟩ v4).setCell ⟨b, 5, none⟩ v5).setCell ⟨b, 6, none⟩ v6).setCell ⟨b, 7, none⟩ v7) b T [v0, v1, v2, v3, v4, v5, v6, v7] ∧
    But b w ((((((((w.setCell ⟨b, 0, none⟩ v0).setCell ⟨b, 1, none⟩ v1).setCell ⟨b, 2, none⟩ v2).setCell ⟨b, 3, none⟩ v3).setCell ⟨b, 4, none⟩ v4).setCell ⟨b, 5, none⟩ v5).setCell ⟨b, 6, none⟩ v6).setCell ⟨b, 7, none⟩ v7) :=
  ⟨(((((((h.set 0 v0).set 1 v1).set 2 v2).set 3 v3).set 4 v4).set 5 v5).set 6 v6).set 7 v7,
   ((((((((But.refl b w).setCell rfl v0).setCell rfl v1).setCell rfl v2).setCell rfl v3).setCell rfl v4).setCell rfl v5).setCell rfl v6).setCell rfl v7⟩
end Go.Proofs.Ytfiaongnogiegaa
