/- What the loops that build a font keep: the list under way, the font's box, the reader of numbers; and that the lists are in order; no condition. -/
import Derived.Test.YtfiaongnogiegaaFoT
import Derived.Test.YtfiaongnogiegaaFoG
import Derived.Test.YtfiaongnogiegaaMixJ
namespace Go.Proofs.Ytfiaongnogiegaa
open Go.RowKit Go.Sort
set_option linter.unusedVariables false
set_option linter.unusedSimpArgs false

theorem own_move {w w' : World} {base : Nat} {e : TypeId} {size : Nat} {v : Value} {n : Nat} {xs : List Value} (h : w.ownsRow base e size v n xs) (hb : ∀ b, v.ownBlock = some b → w'.heap[b]? = w.heap[b]?) : w'.ownsRow base e size v n xs := by
  refine ⟨h.1, ?_⟩
  rcases h.2 with hn | ⟨g, cap, cur, rfl, h1, h2, h3⟩
  · exact Or.inl hn
  · exact Or.inr ⟨g, cap, cur, rfl, h1, (hb g rfl).trans h2, h3⟩
/-- Blocks sb and fb alone of the old ones may have been written. -/
structure Two (sb fb : Nat) (w w' : World) : Prop where
  os : w'.os = w.os
  tape : w'.tape = w.tape
  output : w'.output = w.output
  size : w.heap.size ≤ w'.heap.size
  drawn : w.drawn ≤ w'.drawn
  block : ∀ k, k < w.heap.size → k ≠ sb → k ≠ fb → w'.heap[k]? = w.heap[k]?
section
variable {sb fb : Nat} {a w w' : World}
theorem Two.refl (sb fb : Nat) (w : World) : Two sb fb w w := ⟨rfl, rfl, rfl, Nat.le_refl _, Nat.le_refl _, fun _ _ _ _ => rfl⟩
theorem Two.trans (h : Two sb fb a w) (k : Two sb fb w w') : Two sb fb a w' :=
  ⟨k.os.trans h.os, k.tape.trans h.tape, k.output.trans h.output, Nat.le_trans h.size k.size, Nat.le_trans h.drawn k.drawn, fun i hi h1 h2 => (k.block i (Nat.lt_of_lt_of_le hi h.size) h1 h2).trans (h.block i hi h1 h2)⟩
theorem Two.but (h : Two sb fb a w) (k : But sb w w') : Two sb fb a w' := h.trans ⟨k.os, k.tape, k.output, k.size, k.drawn, fun i hi h1 _ => k.block i hi h1⟩
theorem Two.grew (h : Two sb fb a w) (k : Grew w w') : Two sb fb a w' := h.but (But.of_grew k)
theorem Two.appended {row : Option Nat} (h : Two sb fb a w) (hg : w.grownBy w' row) (hd : w.drawn ≤ w'.drawn) (hrow : ∀ k, row = some k → a.heap.size ≤ k) : Two sb fb a w' :=
  ⟨hg.os.trans h.os, hg.tape.trans h.tape, hg.output.trans h.output, Nat.le_trans h.size hg.size, Nat.le_trans h.drawn hd, fun i hi h1 h2 => (hg.block i (Nat.lt_of_lt_of_le hi h.size) (fun e => by have := hrow i e.symm; omega)).trans (h.block i hi h1 h2)⟩
theorem Two.setCell (h : Two sb fb a w) (i : Nat) (v : Value) : Two sb fb a (w.setCell ⟨fb, i, none⟩ v) :=
  ⟨h.os, h.tape, h.output, by simpa using h.size, h.drawn, fun k hk h1 h2 => (heap_setCell_other w ⟨fb, i, none⟩ k v h2).trans (h.block k hk h1 h2)⟩
end
/-- The list under way in the world w: its slice v, n elements, their cells xs. -/
structure Lp (w0 wj : World) (sb fb : Nat) (p : Option Addr) (m c : Nat) (f : Nat → Int) (T : TypeId) (sz : Nat) (v : Value) (n : Nat) (xs : List Value) (w : World) : Prop where
  sr : SR w0 w sb p m c f
  fr : Two sb fb wj w
  own : w.ownsRow wj.heap.size T sz v n xs
  sb_lt : sb < wj.heap.size
  fb_lt : fb < wj.heap.size
  ne : fb ≠ sb
  lo : w0.heap.size ≤ fb
section
variable {w0 wj w w' : World} {sb fb m c sz n : Nat} {p : Option Addr} {f : Nat → Int} {T : TypeId} {v : Value} {xs : List Value}
theorem Lp.but (h : Lp w0 wj sb fb p m c f T sz v n xs w) (k : But sb w w') (s : SR w0 w' sb p m c f) : Lp w0 wj sb fb p m c f T sz v n xs w' :=
  ⟨s, h.fr.but k, own_move h.own fun b hb => k.block b (h.own.lt b hb).2 (by have := (h.own.lt b hb).1; have := h.sb_lt; omega), h.sb_lt, h.fb_lt, h.ne, h.lo⟩
theorem Lp.grew (h : Lp w0 wj sb fb p m c f T sz v n xs w) (k : Grew w w') : Lp w0 wj sb fb p m c f T sz v n xs w' := h.but (But.of_grew k) (h.sr.grew k)
theorem Lp.appended {v' : Value} {n' : Nat} {xs' : List Value} (h : Lp w0 wj sb fb p m c f T sz v n xs w) (ho : w'.ownsRow wj.heap.size T sz v' n' xs') (hg : w.grownBy w' v.ownBlock) (hd : w.drawn ≤ w'.drawn) : Lp w0 wj sb fb p m c f T sz v' n' xs' w' := by
  have hrow : ∀ k, v.ownBlock = some k → wj.heap.size ≤ k := own_lt h.own
  have hsb := h.sb_lt
  refine ⟨h.sr.same ?_ (hg.block sb (Nat.lt_of_lt_of_le hsb h.fr.size) fun e => by have := hrow sb e.symm; omega), h.fr.appended hg hd hrow, ho, h.sb_lt, h.fb_lt, h.ne, h.lo⟩
  have hlo := h.lo
  have hfb := h.fb_lt
  have hs := h.fr.size
  exact h.sr.g.appended hg hd fun k hk => by have := hrow k hk; omega
theorem Lp.set (h : Lp w0 wj sb fb p m c f T sz v n xs w) (i : Nat) (u : Value) : Lp w0 wj sb fb p m c f T sz v n xs (w.setCell ⟨fb, i, none⟩ u) :=
  ⟨h.sr.same (h.sr.g.setCell (p := ⟨fb, i, none⟩) h.lo u) (heap_setCell_other w ⟨fb, i, none⟩ sb u (Ne.symm h.ne)), h.fr.setCell i u, own_move h.own fun b hb => heap_setCell_other w ⟨fb, i, none⟩ b u (by have := (h.own.lt b hb).1; have := h.fb_lt; show b ≠ fb; omega), h.sb_lt, h.fb_lt, h.ne, h.lo⟩
/-- The block fb keeps its cells when the list grows. -/
theorem Lp.blk_app {TF : TypeId} {vs : List Value} (h : Lp w0 wj sb fb p m c f T sz v n xs w) (hb : Blk w fb TF vs) (hg : w.grownBy w' v.ownBlock) : Blk w' fb TF vs :=
  hb.same (hg.block fb hb.lt fun e => by have := own_lt h.own fb e.symm; have := h.fb_lt; omega)
theorem Lp.blk_but {TF : TypeId} {vs : List Value} (h : Lp w0 wj sb fb p m c f T sz v n xs w) (hb : Blk w fb TF vs) (k : But sb w w') : Blk w' fb TF vs := k.blk hb h.ne
end
/-- The cells of n structs of k cells each. -/
def flat (n k : Nat) (f : Nat → Nat → Value) : List Value := (List.range n).flatMap fun i => (List.range k).map (f i)
theorem flat_zero (k : Nat) (f : Nat → Nat → Value) : flat 0 k f = [] := rfl
theorem flat_succ (n k : Nat) (f : Nat → Nat → Value) : flat (n + 1) k f = flat n k f ++ (List.range k).map (f n) := by simp [flat, List.range_succ]
theorem flat_congr {n k : Nat} {f g : Nat → Nat → Value} (h : ∀ i, i < n → ∀ j, f i j = g i j) : flat n k f = flat n k g := by
  unfold flat
  induction n with
  | zero => rfl
  | succ n ih =>
    rw [List.range_succ, List.flatMap_append, List.flatMap_append, ih fun i hi => h i (by omega)]
    congr 1
    simp only [List.flatMap_cons, List.flatMap_nil, List.append_nil]
    exact List.map_congr_left fun j _ => h n (by omega) j
theorem flat_len (n k : Nat) (f : Nat → Nat → Value) : (flat n k f).length = n * k := by
  induction n with
  | zero => simp [flat]
  | succ n ih => rw [flat_succ, List.length_append, ih]; simp [Nat.succ_mul]
theorem flat_get {n k : Nat} {f : Nat → Nat → Value} : ∀ {i j : Nat}, i < n → j < k → (flat n k f)[i * k + j]? = some (f i j) := by
  induction n with
  | zero => intro i j hi; omega
  | succ n ih =>
    intro i j hi hj
    rw [flat_succ]
    by_cases h : i < n
    · have hlt : i * k + j < n * k := by
        have : (i + 1) * k ≤ n * k := Nat.mul_le_mul_right _ h
        rw [Nat.succ_mul] at this; omega
      rw [List.getElem?_append_left (by rw [flat_len]; exact hlt)]
      exact ih h hj
    · obtain rfl : i = n := by omega
      rw [List.getElem?_append_right (by rw [flat_len]; omega), flat_len]
      rw [show i * k + j - i * k = j by omega, List.getElem?_map, List.getElem?_range hj]
      rfl
/-- What append has made reads as a row of structs. -/
theorem own_srow {w : World} {base n k : Nat} {T : TypeId} {v : Value} {f : Nat → Nat → Value} (h : w.ownsRow base T k v n (flat n k f)) : ∃ q cap, v = .slice q n cap ∧ n ≤ cap ∧ SRow w q n k f := by
  rcases h.2 with ⟨rfl, rfl⟩ | ⟨g, cap, cur, rfl, hb, hg, hc, hm, hs, ht⟩
  · exact ⟨none, 0, rfl, Nat.le_refl _, fun h => absurd h (Nat.lt_irrefl _)⟩
  · refine ⟨some ⟨g, 0, none⟩, cap, rfl, hc, fun hn => ⟨g, 0, rfl, (Array.getElem?_eq_some_iff.1 hg).1, fun i hi j hj => ?_⟩⟩
    have := flat_get (f := f) hi hj
    rw [← ht] at this
    have hlt : i * k + j < n * k := by
      have : (i + 1) * k ≤ n * k := Nat.mul_le_mul_right _ hi
      rw [Nat.succ_mul] at this; omega
    rw [List.getElem?_take, if_pos hlt] at this
    rw [Nat.zero_add, cell_of_row w g _ _ T (0, 0) hg]
    simpa using this

/-! ### The three lists -/
structure IA (n : Nat) (av : Nat → Ad) (lim : Int) : Prop where
  ok : ∀ i, i < n → 0 ≤ (av i).f ∧ (av i).f ≤ (av i).t ∧ (av i).t ≤ 1114111 ∧ 0 ≤ (av i).w ∧ (av i).w < 200
  asc : ∀ i, i + 1 < n → (av i).t < (av (i + 1)).f
  lim0 : n = 0 → lim = -1
  lim1 : ∀ i, i + 1 = n → (av i).t = lim
theorem IA.zero (av : Nat → Ad) : IA 0 av (-1) := ⟨fun i h => by omega, fun i h => by omega, fun _ => rfl, fun i h => by omega⟩
theorem IA.push {n : Nat} {av : Nat → Ad} {lim : Int} (h : IA n av lim) (x : Ad) (h1 : lim < x.f) (h0 : 0 ≤ x.f) (h2 : x.f ≤ x.t) (h3 : x.t ≤ 1114111) (h4 : 0 ≤ x.w ∧ x.w < 200) : IA (n + 1) (upd av n x) x.t := by
  refine ⟨fun i hi => ?_, fun i hi => ?_, fun e => by omega, fun i hi => ?_⟩
  · by_cases e : i = n
    · subst e; simp only [upd, if_true]; exact ⟨h0, h2, h3, h4⟩
    · simp only [upd, if_neg e]; exact h.ok i (by omega)
  · have e : i ≠ n := by omega
    simp only [upd, if_neg e]
    by_cases e' : i + 1 = n
    · rw [if_pos e', h.lim1 i e']; exact h1
    · rw [if_neg e']; exact h.asc i (by omega)
  · obtain rfl : i = n := by omega
    simp [upd]
structure IK (n : Nat) (kv : Nat → Kn) (x y : Int) : Prop where
  ok : ∀ i, i < n → (0 ≤ (kv i).a ∧ (kv i).a ≤ 1114111) ∧ (0 ≤ (kv i).b ∧ (kv i).b ≤ 1114111) ∧ -60 ≤ (kv i).d ∧ (kv i).d ≤ 60
  asc : ∀ i, i + 1 < n → (kv i).a < (kv (i + 1)).a ∨ ((kv i).a = (kv (i + 1)).a ∧ (kv i).b < (kv (i + 1)).b)
  lim1 : ∀ i, i + 1 = n → (kv i).a = x ∧ (kv i).b = y
theorem IK.zero (kv : Nat → Kn) : IK 0 kv (-1) (-1) := ⟨fun i h => by omega, fun i h => by omega, fun i h => by omega⟩
theorem IK.push {n : Nat} {kv : Nat → Kn} {x y : Int} (h : IK n kv x y) (z : Kn) (h1 : x < z.a ∨ (z.a = x ∧ y < z.b)) (h0 : 0 ≤ z.a ∧ z.a ≤ 1114111) (h2 : 0 ≤ z.b ∧ z.b ≤ 1114111) (h4 : -60 ≤ z.d ∧ z.d ≤ 60) : IK (n + 1) (upd kv n z) z.a z.b := by
  refine ⟨fun i hi => ?_, fun i hi => ?_, fun i hi => ?_⟩
  · by_cases e : i = n
    · subst e; simp only [upd, if_true]; exact ⟨h0, h2, h4⟩
    · simp only [upd, if_neg e]; exact h.ok i (by omega)
  · have e : i ≠ n := by omega
    simp only [upd, if_neg e]
    by_cases e' : i + 1 = n
    · obtain ⟨q1, q2⟩ := h.lim1 i e'
      rw [if_pos e', q1, q2]
      rcases h1 with h1 | h1
      · exact Or.inl h1
      · exact Or.inr ⟨h1.1.symm, h1.2⟩
    · rw [if_neg e']; exact h.asc i (by omega)
  · obtain rfl : i = n := by omega
    simp [upd]
structure IL (n : Nat) (lv : Nat → Lg) (x y : Int) : Prop where
  ok : ∀ i, i < n → (0 ≤ (lv i).a ∧ (lv i).a ≤ 1114111) ∧ (0 ≤ (lv i).b ∧ (lv i).b ≤ 1114111) ∧ (1114112 ≤ (lv i).g ∧ (lv i).g ≤ 2097151) ∧ 0 ≤ (lv i).w ∧ (lv i).w < 200
  asc : ∀ i, i + 1 < n → (lv i).a < (lv (i + 1)).a ∨ ((lv i).a = (lv (i + 1)).a ∧ (lv i).b < (lv (i + 1)).b)
  lim1 : ∀ i, i + 1 = n → (lv i).a = x ∧ (lv i).b = y
theorem IL.zero (lv : Nat → Lg) : IL 0 lv (-1) (-1) := ⟨fun i h => by omega, fun i h => by omega, fun i h => by omega⟩
theorem IL.push {n : Nat} {lv : Nat → Lg} {x y : Int} (h : IL n lv x y) (z : Lg) (h1 : x < z.a ∨ (z.a = x ∧ y < z.b)) (h0 : 0 ≤ z.a ∧ z.a ≤ 1114111) (h2 : 0 ≤ z.b ∧ z.b ≤ 1114111) (h3 : 1114112 ≤ z.g ∧ z.g ≤ 2097151) (h4 : 0 ≤ z.w ∧ z.w < 200) : IL (n + 1) (upd lv n z) z.a z.b := by
  refine ⟨fun i hi => ?_, fun i hi => ?_, fun i hi => ?_⟩
  · by_cases e : i = n
    · subst e; simp only [upd, if_true]; exact ⟨h0, h2, h3, h4⟩
    · simp only [upd, if_neg e]; exact h.ok i (by omega)
  · have e : i ≠ n := by omega
    simp only [upd, if_neg e]
    by_cases e' : i + 1 = n
    · obtain ⟨q1, q2⟩ := h.lim1 i e'
      rw [if_pos e', q1, q2]
      rcases h1 with h1 | h1
      · exact Or.inl h1
      · exact Or.inr ⟨h1.1.symm, h1.2⟩
    · rw [if_neg e']; exact h.asc i (by omega)
  · obtain rfl : i = n := by omega
    simp [upd]
/-- What is known of a font that the reader of numbers builds. -/
structure Good (F : Fn) : Prop where
  u : 16 ≤ F.u ∧ F.u ≤ 200
  a : 1 ≤ F.a ∧ F.a ≤ 100
  d : 0 ≤ F.d ∧ F.d < 40
  g : 0 ≤ F.g ∧ F.g < 30
  df : 0 ≤ F.df ∧ F.df < 120
  na : F.na ≤ 4
  nk : F.nk ≤ 5
  nl : F.nl ≤ 4
  av : ∃ l, IA F.na F.av l
  kv : ∃ x y, IK F.nk F.kv x y
  lv : ∃ x y, IL F.nl F.lv x y
theorem Good.valid {F : Fn} (h : Good F) : vldF F = 0 := by
  obtain ⟨⟨u1, u2⟩, ⟨a1, a2⟩, ⟨d1, d2⟩, ⟨g1, g2⟩, ⟨f1, f2⟩, na, nk, nl, ⟨la, ha⟩, ⟨kx, ky, hk⟩, ⟨lx, ly, hl⟩⟩ := h
  unfold vldF
  rw [if_neg (by omega)]
  have hm : metB F = true := by
    unfold metB lenB
    simp only [Bool.and_eq_true, decide_eq_true_eq]
    omega
  have hr : lrB F = true := by
    unfold lrB
    simp only [Bool.and_eq_true, allK_spec]
    refine ⟨fun i _ hi => ?_, fun i _ hi => ?_, fun i _ hi => ?_⟩
    · have := ha.ok i (by omega)
      simp only [radP, runeB, lenB, Bool.and_eq_true, decide_eq_true_eq]
      omega
    · have := hk.ok i (by omega)
      simp only [rknP, runeB, Bool.and_eq_true, decide_eq_true_eq]
      omega
    · have := hl.ok i (by omega)
      simp only [rlgP, lenB, Bool.and_eq_true, decide_eq_true_eq]
      omega
  have ho : loB F = true := by
    unfold loB
    simp only [Bool.and_eq_true, allK_spec]
    refine ⟨fun i _ hi => ?_, fun i h1 hi => ?_, fun i h1 hi => ?_, fun i h1 hi => ?_⟩
    · have := ha.ok i (by omega)
      simp only [adoP, decide_eq_true_eq]
      omega
    · obtain ⟨j, rfl⟩ : ∃ j, i = j + 1 := ⟨i - 1, by omega⟩
      have := ha.asc j (by omega)
      simp only [avP, decide_eq_true_eq, Nat.add_sub_cancel]
      omega
    · obtain ⟨j, rfl⟩ : ∃ j, i = j + 1 := ⟨i - 1, by omega⟩
      have := hk.asc j (by omega)
      simp only [knP, preB, decide_eq_true_eq, Nat.add_sub_cancel]
      exact this
    · obtain ⟨j, rfl⟩ : ∃ j, i = j + 1 := ⟨i - 1, by omega⟩
      have := hl.asc j (by omega)
      simp only [lgP, preB, decide_eq_true_eq, Nat.add_sub_cancel]
      exact this
  rw [hm, hr, ho]
  rfl
end Go.Proofs.Ytfiaongnogiegaa
