/- What the changes of a font in its box leave (for the law FontBuilt): a font that still reads, whose ligatures are of runes; no condition. -/
import Derived.Test.YtfiaongnogiegaaFoW
import Derived.Test.YtfiaongnogiegaaFoP
namespace Go.Proofs.Ytfiaongnogiegaa
open Go.RowKit Go.Sort
set_option linter.unusedVariables false
set_option linter.unusedSimpArgs false

/-- Rows of different types lie in different blocks. -/
theorem own_ne_blk {w : World} {base b : Nat} {e T : TypeId} {size n : Nat} {v : Value} {xs vs : List Value} (h : w.ownsRow base e size v n xs) (hb : Blk w b T vs) (ht : e ≠ T) : ∀ k, v.ownBlock = some k → k ≠ b := by
  intro k hk
  rcases h.2 with ⟨rfl, _⟩ | ⟨g, cap, cur, rfl, _, hg, _⟩
  · cases hk
  · have : g = k := by simpa [Value.ownBlock] using hk
    subst this
    rintro rfl
    have := hg.symm.trans hb
    simp only [Option.some.injEq, Obj.cells.injEq] at this
    exact ht this.2.1
theorem own_ne_own {w : World} {base base' : Nat} {e T : TypeId} {size size' n n' : Nat} {v v' : Value} {xs xs' : List Value} (h : w.ownsRow base e size v n xs) (h' : w.ownsRow base' T size' v' n' xs') (ht : e ≠ T) : ∀ k, v.ownBlock = some k → some k ≠ v'.ownBlock := by
  intro k hk
  rcases h.2 with ⟨rfl, _⟩ | ⟨g, cap, cur, rfl, _, hg, _⟩
  · cases hk
  · have : g = k := by simpa [Value.ownBlock] using hk
    subst this
    rcases h'.2 with ⟨rfl, _⟩ | ⟨g', cap', cur', rfl, _, hg', _⟩
    · intro e; cases e
    · intro e
      have : g = g' := by simpa [Value.ownBlock] using e
      subst this
      have := hg.symm.trans hg'
      simp only [Option.some.injEq, Obj.cells.injEq] at this
      exact ht this.2.1
theorem own_grown {w w' : World} {base base' : Nat} {e T : TypeId} {size size' n n' : Nat} {v v' : Value} {xs xs' : List Value} (h : w.ownsRow base e size v n xs) (h' : w.ownsRow base' T size' v' n' xs') (ht : e ≠ T) (hg : w.grownBy w' v'.ownBlock) : w'.ownsRow base e size v n xs :=
  own_move h fun k hk => hg.block k (h.lt k hk).2 (own_ne_own h h' ht k hk)

theorem ne1 : 43 ≠ 26 := by decide
theorem ne2 : 37 ≠ 26 := by decide
theorem ne3 : 39 ≠ 26 := by decide
theorem ne4 : 43 ≠ 37 := by decide
theorem ne5 : 43 ≠ 39 := by decide
theorem ne6 : 37 ≠ 39 := by decide

abbrev fnL (F : Fn) (s : Sl) : List Value := [.int .i64 F.u, .int .i64 F.a, .int .i64 F.d, .int .i64 F.g, .int .i64 F.df, .slice s.pa F.na s.ca, .slice s.pk F.nk s.ck, .slice s.pl F.nl s.cl]
/-- What the law's end asks of the world: the box holds a font that reads, its ligatures are of runes. -/
def Tl (w0 : World) (fb : Nat) (W : World) : Prop := ∃ F s, Grew w0 W ∧ Blk W fb 26 (fnL F s) ∧ FAt W F s ∧ LR F
/-- The font that the reader has built, in its box. -/
structure Fb (w0 : World) (fb B : Nat) (F : Fn) (s : Sl) (W : World) : Prop where
  g : Grew w0 W
  lo : w0.heap.size ≤ B
  fl : w0.heap.size ≤ fb
  blk : Blk W fb 26 (fnL F s)
  own : Own3 B F s W
  lr : LR F
theorem Fb.tl {w0 W : World} {fb B : Nat} {F : Fn} {s : Sl} (h : Fb w0 fb B F s W) : Tl w0 fb W := ⟨F, s, h.g, h.blk, h.own.fat, h.lr⟩
theorem own3_set {W : World} {fb B i : Nat} {F : Fn} {s : Sl} {vs : List Value} {v : Value} (h : Own3 B F s W) (hb : Blk W fb 26 vs) : Own3 B F s (W.setCell ⟨fb, i, none⟩ v) :=
  ⟨own_move h.a fun k hk => heap_setCell_other W ⟨fb, i, none⟩ k v (own_ne_blk h.a hb ne1 k hk), own_move h.k fun k hk => heap_setCell_other W ⟨fb, i, none⟩ k v (own_ne_blk h.k hb ne2 k hk), own_move h.l fun k hk => heap_setCell_other W ⟨fb, i, none⟩ k v (own_ne_blk h.l hb ne3 k hk)⟩
section
variable {w0 W : World} {fb B : Nat} {u a d g df : Int} {na nk nl : Nat} {av : Nat → Ad} {kv : Nat → Kn} {lv : Nat → Lg} {s : Sl}
theorem Fb.units (h : Fb w0 fb B ⟨u, a, d, g, df, na, av, nk, kv, nl, lv⟩ s W) (x : Int) : Fb w0 fb B ⟨x, a, d, g, df, na, av, nk, kv, nl, lv⟩ s (W.setCell ⟨fb, 0, none⟩ (.int .i64 x)) :=
  ⟨h.g.setCell h.fl _, h.lo, h.fl, h.blk.set 0 _, by obtain ⟨q1, q2, q3⟩ := own3_set (i := 0) (v := .int .i64 x) h.own h.blk; exact ⟨q1, q2, q3⟩, h.lr⟩
theorem Fb.asc (h : Fb w0 fb B ⟨u, a, d, g, df, na, av, nk, kv, nl, lv⟩ s W) (x : Int) : Fb w0 fb B ⟨u, x, d, g, df, na, av, nk, kv, nl, lv⟩ s (W.setCell ⟨fb, 1, none⟩ (.int .i64 x)) :=
  ⟨h.g.setCell h.fl _, h.lo, h.fl, h.blk.set 1 _, by obtain ⟨q1, q2, q3⟩ := own3_set (i := 1) (v := .int .i64 x) h.own h.blk; exact ⟨q1, q2, q3⟩, h.lr⟩
theorem Fb.desc (h : Fb w0 fb B ⟨u, a, d, g, df, na, av, nk, kv, nl, lv⟩ s W) (x : Int) : Fb w0 fb B ⟨u, a, x, g, df, na, av, nk, kv, nl, lv⟩ s (W.setCell ⟨fb, 2, none⟩ (.int .i64 x)) :=
  ⟨h.g.setCell h.fl _, h.lo, h.fl, h.blk.set 2 _, by obtain ⟨q1, q2, q3⟩ := own3_set (i := 2) (v := .int .i64 x) h.own h.blk; exact ⟨q1, q2, q3⟩, h.lr⟩
theorem Fb.gap (h : Fb w0 fb B ⟨u, a, d, g, df, na, av, nk, kv, nl, lv⟩ s W) (x : Int) : Fb w0 fb B ⟨u, a, d, x, df, na, av, nk, kv, nl, lv⟩ s (W.setCell ⟨fb, 3, none⟩ (.int .i64 x)) :=
  ⟨h.g.setCell h.fl _, h.lo, h.fl, h.blk.set 3 _, by obtain ⟨q1, q2, q3⟩ := own3_set (i := 3) (v := .int .i64 x) h.own h.blk; exact ⟨q1, q2, q3⟩, h.lr⟩
theorem Fb.dflt (h : Fb w0 fb B ⟨u, a, d, g, df, na, av, nk, kv, nl, lv⟩ s W) (x : Int) : Fb w0 fb B ⟨u, a, d, g, x, na, av, nk, kv, nl, lv⟩ s (W.setCell ⟨fb, 4, none⟩ (.int .i64 x)) :=
  ⟨h.g.setCell h.fl _, h.lo, h.fl, h.blk.set 4 _, by obtain ⟨q1, q2, q3⟩ := own3_set (i := 4) (v := .int .i64 x) h.own h.blk; exact ⟨q1, q2, q3⟩, h.lr⟩
/-- The first ligature's glyph is written. -/
theorem Fb.glyph {pa pk : Option Addr} {ca ck q cl : Nat} (h : Fb w0 fb B ⟨u, a, d, g, df, na, av, nk, kv, nl, lv⟩ ⟨pa, ca, pk, ck, some ⟨q, 0, none⟩, cl⟩ W) (hn : 0 < nl) (x : Int) : Tl w0 fb (W.setCell ⟨q, 2, none⟩ (.int .i64 x)) := by
  obtain ⟨ho, hg⟩ := World.ownsRow.stored h.own.l 2 (.int .i64 x)
  have hq : B ≤ q := (h.own.l.lt q rfl).1
  have e1 := own_grown h.own.a h.own.l ne5 hg
  have e2 := own_grown h.own.k h.own.l ne6 hg
  obtain ⟨q1, c1, f1, _, r1⟩ := own_srow e1
  obtain ⟨q2, c2, f2, _, r2⟩ := own_srow e2
  injection f1 with f1
  injection f2 with f2
  subst f1 f2
  refine ⟨⟨u, a, d, g, df, na, av, nk, kv, nl, upd lv 0 ⟨(lv 0).a, (lv 0).b, x, (lv 0).w⟩⟩, ⟨pa, ca, pk, ck, some ⟨q, 0, none⟩, cl⟩, h.g.setCell (Nat.le_trans h.lo hq) _, ?_, ⟨r1, r2, ?_⟩, ?_⟩
  · exact h.blk.other (fun e => own_ne_blk h.own.l h.blk ne3 q rfl e.symm) _
  · intro _
    refine ⟨q, 0, rfl, by have := (ho.lt q rfl).2; exact this, fun i hi j hj => ?_⟩
    rw [Nat.zero_add]
    have hlt : i * 4 + j < nl * 4 := by
      have : (i + 1) * 4 ≤ nl * 4 := Nat.mul_le_mul_right _ hi
      omega
    rw [ho.cellAt _ hlt, List.getElem?_set]
    by_cases hij : 2 = i * 4 + j
    · obtain ⟨rfl, rfl⟩ : i = 0 ∧ j = 2 := by omega
      rw [if_pos rfl, flat_len]
      rw [if_pos (by show 2 < nl * 4; omega)]
      simp [lgC, upd]
    · rw [if_neg hij]
      refine (flat_get (f := lgC lv) hi hj).trans ?_
      by_cases hi0 : i = 0
      · subst hi0
        have : j = 0 ∨ j = 1 ∨ j = 3 := by omega
        rcases this with rfl | rfl | rfl <;> simp [lgC, upd]
      · simp [lgC, upd, hi0]
  · intro i hi
    have := h.lr i hi
    by_cases hi0 : i = 0
    · subst hi0; simpa [upd] using this
    · simpa [upd, hi0] using this
end
/-- The states of 'x.f = append(x.f, x.f[i])' behind the load of the element and each of its three operations that make or write memory. -/
def StEl (Pre : Value → Nat → List Value → World → Prop) (FBv : Value → World → Prop) (TE : TypeId) (v : Value) (n : Nat) (xs : List Value) (el : Value) (mk : List Value) : List Value → World → Prop
  | [], w => Pre v n xs w ∧ FBv v w
  | [b], w => b = el ∧ Pre v n xs w ∧ FBv v w
  | [_, q], w => (∃ g, q = .slice (some ⟨g, 0, none⟩) 1 1 ∧ Blk w g TE mk) ∧ Pre v n xs w ∧ FBv v w
  | [_, _, r], w => Pre r (n + 1) (xs ++ mk) w ∧ FBv v w
  | [_, _, r, _], w => Pre r (n + 1) (xs ++ mk) w ∧ FBv r w
  | _, _ => False
theorem StEl.fb {Pre : Value → Nat → List Value → World → Prop} {FBv : Value → World → Prop} {TE : TypeId} {v : Value} {n : Nat} {xs : List Value} {el : Value} {mk : List Value} :
    ∀ {vals : List Value} {w : World}, vals.length < 4 → StEl Pre FBv TE v n xs el mk vals w → FBv v w
  | [], w, _, h => h.2
  | [_], w, _, h => h.2.2
  | [_, _], w, _, h => h.2.2
  | [_, _, _], w, _, h => h.2
  | _ :: _ :: _ :: _ :: _, w, hl, _ => by simp at hl; omega
/-- One of the three rows grows; the others keep. -/
structure Ap (w0 : World) (B : Nat) (T T1 T2 : TypeId) (sz k1 k2 : Nat) (v1 v2 : Value) (n1 n2 : Nat) (x1 x2 : List Value) (v : Value) (n : Nat) (xs : List Value) (W : World) : Prop where
  g : Grew w0 W
  lo : w0.heap.size ≤ B
  own : W.ownsRow B T sz v n xs
  o1 : W.ownsRow B T1 k1 v1 n1 x1
  o2 : W.ownsRow B T2 k2 v2 n2 x2
  h1 : T1 ≠ T
  h2 : T2 ≠ T
  bz : B ≤ W.heap.size
section
variable {w0 W W' : World} {B : Nat} {T T1 T2 : TypeId} {sz k1 k2 : Nat} {v1 v2 : Value} {n1 n2 : Nat} {x1 x2 : List Value} {v : Value} {n : Nat} {xs : List Value}
theorem Ap.grew (h : Ap w0 B T T1 T2 sz k1 k2 v1 v2 n1 n2 x1 x2 v n xs W) (g : Grew W W') : Ap w0 B T T1 T2 sz k1 k2 v1 v2 n1 n2 x1 x2 v n xs W' :=
  ⟨h.g.trans g, h.lo, own_move h.own fun k hk => g.1.block k (h.own.lt k hk).2, own_move h.o1 fun k hk => g.1.block k (h.o1.lt k hk).2, own_move h.o2 fun k hk => g.1.block k (h.o2.lt k hk).2, h.h1, h.h2, Nat.le_trans h.bz g.size⟩
theorem Ap.appended {v' : Value} {n' : Nat} {xs' : List Value} (h : Ap w0 B T T1 T2 sz k1 k2 v1 v2 n1 n2 x1 x2 v n xs W) (ho : W'.ownsRow B T sz v' n' xs') (hg : W.grownBy W' v.ownBlock) (hd : W.drawn ≤ W'.drawn) : Ap w0 B T T1 T2 sz k1 k2 v1 v2 n1 n2 x1 x2 v' n' xs' W' :=
  ⟨h.g.appended hg hd (fun k hk => Nat.le_trans h.lo (own_lt h.own k hk)), h.lo, ho, own_grown h.o1 h.own h.h1 hg, own_grown h.o2 h.own h.h2 hg, h.h1, h.h2, Nat.le_trans h.bz hg.size⟩
/-- The font's box keeps through an append. -/
theorem Ap.box {fb : Nat} {TF : TypeId} {vs : List Value} (h : Ap w0 B T T1 T2 sz k1 k2 v1 v2 n1 n2 x1 x2 v n xs W) (hb : Blk W fb TF vs) (ht : T ≠ TF) (hg : W.grownBy W' v.ownBlock) : Blk W' fb TF vs :=
  hb.same (hg.block fb hb.lt fun e => own_ne_blk h.own hb ht fb e.symm rfl)
/-- .. and the rows keep through a store in the box. -/
theorem Ap.set {fb i : Nat} {TF : TypeId} {vs : List Value} {u : Value} (h : Ap w0 B T T1 T2 sz k1 k2 v1 v2 n1 n2 x1 x2 v n xs W) (hb : Blk W fb TF vs) (ht : T ≠ TF) (ht1 : T1 ≠ TF) (ht2 : T2 ≠ TF) (hfb : w0.heap.size ≤ fb) : Ap w0 B T T1 T2 sz k1 k2 v1 v2 n1 n2 x1 x2 v n xs (W.setCell ⟨fb, i, none⟩ u) :=
  ⟨h.g.setCell hfb _, h.lo, own_move h.own fun k hk => heap_setCell_other W ⟨fb, i, none⟩ k u (own_ne_blk h.own hb ht k hk), own_move h.o1 fun k hk => heap_setCell_other W ⟨fb, i, none⟩ k u (own_ne_blk h.o1 hb ht1 k hk), own_move h.o2 fun k hk => heap_setCell_other W ⟨fb, i, none⟩ k u (own_ne_blk h.o2 hb ht2 k hk), h.h1, h.h2, by simpa using h.bz⟩
end
section
variable {w0 W : World} {fb B : Nat} {u a d g df : Int} {na nk nl : Nat} {av : Nat → Ad} {kv : Nat → Kn} {lv : Nat → Lg} {pa pk pl : Option Addr} {ca ck cl : Nat}
/-- The advances have grown by their element i. -/
theorem ap_tl_a (i : Nat) {v : Value} (hl : LR ⟨u, a, d, g, df, na, av, nk, kv, nl, lv⟩)
    (h : Ap w0 B 43 37 39 3 3 4 (.slice pk nk ck) (.slice pl nl cl) nk nl (flat nk 3 (knC kv)) (flat nl 4 (lgC lv)) v (na + 1) (flat na 3 (adC av) ++ [.int .i32 (av i).f, .int .i32 (av i).t, .int .i64 (av i).w]) W)
    (hb : Blk W fb 26 [.int .i64 u, .int .i64 a, .int .i64 d, .int .i64 g, .int .i64 df, v, .slice pk nk ck, .slice pl nl cl]) : Tl w0 fb W := by
  have e : flat (na + 1) 3 (adC (upd av na (av i))) = flat na 3 (adC av) ++ [.int .i32 (av i).f, .int .i32 (av i).t, .int .i64 (av i).w] := by
    rw [flat_succ]
    congr 1
    · exact flat_congr fun i hi j => by unfold adC; simp [upd, Nat.ne_of_lt hi]
    · simp [upd, adC, List.range_succ]
  have ho := h.own
  rw [← e] at ho
  obtain ⟨q1, c1, f1, _, r1⟩ := own_srow ho
  obtain ⟨q2, c2, f2, _, r2⟩ := own_srow h.o1
  obtain ⟨q3, c3, f3, _, r3⟩ := own_srow h.o2
  subst f1
  injection f2 with f2
  injection f3 with f3
  subst f2 f3
  exact ⟨⟨u, a, d, g, df, na + 1, upd av na (av i), nk, kv, nl, lv⟩, ⟨q1, c1, pk, ck, pl, cl⟩, h.g, hb, ⟨r1, r2, r3⟩, hl⟩
/-- The kerns have grown by their element i. -/
theorem ap_tl_k (i : Nat) {v : Value} (hl : LR ⟨u, a, d, g, df, na, av, nk, kv, nl, lv⟩)
    (h : Ap w0 B 37 43 39 3 3 4 (.slice pa na ca) (.slice pl nl cl) na nl (flat na 3 (adC av)) (flat nl 4 (lgC lv)) v (nk + 1) (flat nk 3 (knC kv) ++ [.int .i32 (kv i).a, .int .i32 (kv i).b, .int .i64 (kv i).d]) W)
    (hb : Blk W fb 26 [.int .i64 u, .int .i64 a, .int .i64 d, .int .i64 g, .int .i64 df, .slice pa na ca, v, .slice pl nl cl]) : Tl w0 fb W := by
  have e : flat (nk + 1) 3 (knC (upd kv nk (kv i))) = flat nk 3 (knC kv) ++ [.int .i32 (kv i).a, .int .i32 (kv i).b, .int .i64 (kv i).d] := by
    rw [flat_succ]
    congr 1
    · exact flat_congr fun i hi j => by unfold knC; simp [upd, Nat.ne_of_lt hi]
    · simp [upd, knC, List.range_succ]
  have ho := h.own
  rw [← e] at ho
  obtain ⟨q1, c1, f1, _, r1⟩ := own_srow ho
  obtain ⟨q2, c2, f2, _, r2⟩ := own_srow h.o1
  obtain ⟨q3, c3, f3, _, r3⟩ := own_srow h.o2
  subst f1
  injection f2 with f2
  injection f3 with f3
  subst f2 f3
  exact ⟨⟨u, a, d, g, df, na, av, nk + 1, upd kv nk (kv i), nl, lv⟩, ⟨pa, ca, q1, c1, pl, cl⟩, h.g, hb, ⟨r2, r1, r3⟩, hl⟩
end
end Go.Proofs.Ytfiaongnogiegaa
