/- (For seats with Share's texts.) The reader of numbers, worlds in which one or two blocks may have been written, lists under way, rows of structs that append makes; no condition but that the numbers asked for are small. -/
import Derived.Test.YtdoncogkepopiaaFxShare
import Derived.Test.YtdoncogkepopiaaSRow
import Derived.Test.YtdoncogkepopiaaApp
import Derived.Test.YtdoncogkepopiaaFlat
import Derived.Test.YtdoncogkepopiaaMixJ
import Derived.ProofKit
import Derived.OwnWalk
import Derived.Deep.LoopGhost
import Derived.Deep.Cut
namespace Go.Proofs.Ytdoncogkepopiaa
open Go.RowKit Go.Sort
set_option linter.unusedVariables false
set_option linter.unusedSimpArgs false

theorem Blk.same {w w' : World} {b : Nat} {T : TypeId} {vs : List Value} (h : Blk w b T vs) (g : w'.heap[b]? = w.heap[b]?) : Blk w' b T vs := g.trans h

/-- The slice at p reads as n integers. -/
theorem Reads.grew {w w' : World} {p : Option Addr} {n : Nat} {f : Nat → Int} (h : Reads w p n f) (g : Grew w w') : Reads w' p n f := fun hn => by
  obtain ⟨b, off, hp, hc⟩ := h hn
  exact ⟨b, off, hp, fun k hk => (g.1.cell (p := ⟨b, off + k, none⟩) (lt_of_cell (hc k hk))).trans (hc k hk)⟩
/-- Block b alone of the old ones may have been written. -/
structure But (b : Nat) (w w' : World) : Prop where
  os : w'.os = w.os
  tape : w'.tape = w.tape
  output : w'.output = w.output
  size : w.heap.size ≤ w'.heap.size
  drawn : w.drawn ≤ w'.drawn
  block : ∀ k, k < w.heap.size → k ≠ b → w'.heap[k]? = w.heap[k]?
theorem But.refl (b : Nat) (w : World) : But b w w := ⟨rfl, rfl, rfl, Nat.le_refl _, Nat.le_refl _, fun _ _ _ => rfl⟩
theorem But.trans {b : Nat} {x y z : World} (h : But b x y) (k : But b y z) : But b x z :=
  ⟨k.os.trans h.os, k.tape.trans h.tape, k.output.trans h.output, Nat.le_trans h.size k.size, Nat.le_trans h.drawn k.drawn, fun i hi hb => (k.block i (Nat.lt_of_lt_of_le hi h.size) hb).trans (h.block i hi hb)⟩
theorem But.of_grew {b : Nat} {w w' : World} (h : Grew w w') : But b w w' := ⟨h.1.os, h.1.tape, h.1.output, h.1.size, h.2, fun k hk _ => h.1.block k hk⟩
theorem But.setCell {b : Nat} {x w : World} (h : But b x w) {p : Addr} (hp : p.block = b) (u : Value) : But b x (w.setCell p u) :=
  ⟨h.os, h.tape, h.output, by simpa using h.size, h.drawn, fun k hk hb => (heap_setCell_other w p k u (by omega)).trans (h.block k hk hb)⟩
theorem But.drewN {b : Nat} {x w : World} (h : But b x w) (n : Nat) : But b x (w.drewN n) := ⟨h.os, h.tape, h.output, h.size, Nat.le_trans h.drawn (Nat.le_add_right _ _), h.block⟩
theorem But.drew {b : Nat} {x w : World} (h : But b x w) : But b x w.drew := h.drewN 1
theorem But.alloc {b : Nat} {x w : World} (h : But b x w) (o : Obj) : But b x (w.alloc o) :=
  ⟨h.os, h.tape, h.output, by have := h.size; simp; omega, h.drawn, fun k hk hb => (heap_alloc_old w o (r := k) (Nat.lt_of_lt_of_le hk h.size)).trans (h.block k hk hb)⟩
theorem But.blk {b c : Nat} {w w' : World} {T : TypeId} {vs : List Value} (h : But b w w') (k : Blk w c T vs) (hc : c ≠ b) : Blk w' c T vs := (h.block c k.lt hc).trans k
theorem But.grew {b : Nat} {x w w' : World} (h : But b w w') (g : Grew x w) (hb : x.heap.size ≤ b) : Grew x w' :=
  g.trans' ⟨rfl, rfl, rfl, rfl, rfl⟩ (fun _ _ => rfl) |>.1 |> fun q => ⟨⟨h.os.trans q.os, h.tape.trans q.tape, h.output.trans q.output, Nat.le_trans q.size h.size, fun k hk => (h.block k (Nat.lt_of_lt_of_le hk q.size) (by omega)).trans (q.block k hk)⟩, Nat.le_trans g.2 h.drawn⟩

theorem New_any (p : Option Addr) (n c : Nat) (w : World) (hnc : n ≤ c) (hp : 0 < n → ∃ a, p = some a) :
    Calls Try.prog 14 #[.slice p n c] w fun e w' => ∃ sb m c', e = .returned (.pointer (some ⟨sb, 0, none⟩)) ∧ Grew w w' ∧ w.heap.size ≤ sb ∧ (m ≤ n ∧ m ≤ 4000) ∧ Blk w' sb 57 [.slice p m c', .int .i64 0] := by
  by_cases h : n ≤ 4000
  · have hz : ¬ (4000 : Int) < (n : Int) := by omega
    clear hp
    go_enter Try.func14, Try.ntmps14
    go_wp2
    go_ret
    first
      | exact ⟨_, n, c, rfl, (Grew.refl w).alloc _, Nat.le_refl _, ⟨Nat.le_refl _, h⟩, Blk.new rfl⟩
      | exact ⟨_, rfl, (Grew.refl w).alloc _, Nat.le_refl _, n, ⟨Nat.le_refl _, h⟩, c, Blk.new rfl⟩
  · have hz : (4000 : Int) < (n : Int) := by omega
    have hc : (4000 : Int) ≤ (c : Int) := by omega
    obtain ⟨a, rfl⟩ := hp (by omega)
    go_enter Try.func14, Try.ntmps14
    go_wp2
    go_ret
    first
      | exact ⟨_, 4000, _, rfl, (Grew.refl w).alloc _, Nat.le_refl _, ⟨by omega, Nat.le_refl _⟩, Blk.new rfl⟩
      | exact ⟨_, rfl, (Grew.refl w).alloc _, Nat.le_refl _, 4000, ⟨by omega, Nat.le_refl _⟩, _, Blk.new rfl⟩

/-- The reader of numbers at block sb, made behind the world w0; it reads m numbers at p. -/
structure SR (w0 W : World) (sb : Nat) (p : Option Addr) (m c : Nat) (f : Nat → Int) : Prop where
  g : Grew w0 W
  lo : w0.heap.size ≤ sb
  rd : Reads w0 p m f
  hm : m ≤ 4000
  hf : ∀ k, -9223372036854775808 ≤ f k ∧ f k ≤ 9223372036854775807
  src : ∃ t : Nat, t ≤ m ∧ Blk W sb 57 [.slice p m c, .int .i64 (t : Int)]
theorem SR.but {w0 w w' : World} {sb m c : Nat} {p : Option Addr} {f : Nat → Int} {t : Nat} (h : SR w0 w sb p m c f) (b : But sb w w') (ht : t ≤ m) (k : Blk w' sb 57 [.slice p m c, .int .i64 (t : Int)]) : SR w0 w' sb p m c f :=
  ⟨b.grew h.g h.lo, h.lo, h.rd, h.hm, h.hf, t, ht, k⟩
theorem SR.grew {w0 w w' : World} {sb m c : Nat} {p : Option Addr} {f : Nat → Int} (h : SR w0 w sb p m c f) (b : Grew w w') : SR w0 w' sb p m c f := by
  obtain ⟨t, ht, k⟩ := h.src
  exact ⟨h.g.trans b, h.lo, h.rd, h.hm, h.hf, t, ht, k.grew b⟩
/-- Any world that has kept block sb. -/
theorem SR.same {w0 w w' : World} {sb m c : Nat} {p : Option Addr} {f : Nat → Int} (h : SR w0 w sb p m c f) (g : Grew w0 w') (hb : w'.heap[sb]? = w.heap[sb]?) : SR w0 w' sb p m c f := by
  obtain ⟨t, ht, k⟩ := h.src
  exact ⟨g, h.lo, h.rd, h.hm, h.hf, t, ht, hb.trans k⟩

theorem tmod_bd (x n : Int) (hn : 0 < n) : -n < x.tmod n ∧ x.tmod n < n := by
  have h := Int.natAbs_tmod x n
  have h2 : x.natAbs % n.natAbs < n.natAbs := Nat.mod_lt _ (by omega)
  omega

set_option maxRecDepth 100000 in
set_option maxHeartbeats 4000000 in
theorem N_any (w0 w : World) (sb m c : Nat) (p : Option Addr) (f : Nat → Int) (n : Int) (H : SR w0 w sb p m c f) (h1 : 1 ≤ n) (h2 : n ≤ 1099511627776) :
    Calls Try.prog 18 #[.pointer (some ⟨sb, 0, none⟩), .int .i64 n] w fun e w' => ∃ x : Int, e = .returned (.int .i64 x) ∧ (0 ≤ x ∧ x < n) ∧ But sb w w' ∧ SR w0 w' sb p m c f := by
  obtain ⟨t, ht, B⟩ := H.src
  have b0 := B.cell 0 rfl
  have b1 := B.cell 1 rfl
  have f1 := B.free 1
  have hm := H.hm
  by_cases htm : t < m
  · have hz : ¬ (m : Int) ≤ (t : Int) := by omega
    have hz2 : (t : Int) < (m : Int) := by omega
    have h0 : (0 : Int) ≤ (t : Int) := by omega
    have hn1 : ¬ n < 1 := by omega
    have hn0 : ¬ n = 0 := by omega
    have hn0' : (n == 0) = false := by simpa using hn0
    obtain ⟨b, off, rfl, hc⟩ := (H.rd.grew H.g) (by omega)
    have ct := hc t htm
    obtain ⟨m1, m2⟩ := tmod_bd (f t) n (by omega)
    have wt : IntKind.i64.wrap ((f t).tmod n) = (f t).tmod n := wr (by omega) (by omega)
    have wt2 : IntKind.i64.wrap ((f t).tmod n + n) = (f t).tmod n + n := wr (by omega) (by omega)
    have NX : Hid (∀ q : Nat, But sb w ((w.drewN q).setCell ⟨sb, 1, none⟩ (.int .i64 ((t : Int) + 1))) ∧ SR w0 ((w.drewN q).setCell ⟨sb, 1, none⟩ (.int .i64 ((t : Int) + 1))) sb (some ⟨b, off, none⟩) m c f) := fun q => by
      have bb : But sb w ((w.drewN q).setCell ⟨sb, 1, none⟩ (.int .i64 ((t : Int) + 1))) := ((But.refl sb w).drewN q).setCell rfl _
      exact ⟨bb, H.but bb (t := t + 1) (by omega) ((show Blk (w.drewN q) sb _ _ from B).set 1 _)⟩
    have wtt : IntKind.i64.wrap ((t : Int) + 1) = (t : Int) + 1 := wr (by omega) (by omega)
    clear H hc B
    generalize hx : (f t).tmod n = x at *
    go_enter Try.func18, Try.ntmps18
    go_wp2
    go_quiet (fail)
    go_wp2
    go_quiet (fail)
    by_cases hneg : x < 0
    · go_wp2
      go_ret
      exact ⟨x + n, rfl, by omega, (NX.out _).1, (NX.out _).2⟩
    · go_wp2
      go_ret
      exact ⟨x, rfl, by omega, (NX.out _).1, (NX.out _).2⟩
  · have hz : (m : Int) ≤ (t : Int) := by omega
    have NX : Hid (∀ q : Nat, But sb w (w.drewN q) ∧ SR w0 (w.drewN q) sb p m c f) := fun q => ⟨(But.refl sb w).drewN q, H.but ((But.refl sb w).drewN q) ht B⟩
    clear H B
    go_enter Try.func18, Try.ntmps18
    go_wp2
    go_quiet (fail)
    go_wp2
    go_ret
    exact ⟨0, rfl, by omega, (NX.out _).1, (NX.out _).2⟩

theorem own_move {w w' : World} {base : Nat} {e : TypeId} {size : Nat} {v : Value} {n : Nat} {xs : List Value} (h : w.ownsRow base e size v n xs) (hb : ∀ b, v.ownBlock = some b → w'.heap[b]? = w.heap[b]?) : w'.ownsRow base e size v n xs := by
  refine ⟨h.1, ?_⟩
  rcases h.2 with hn | ⟨g, cap, cur, rfl, h1, h2, h3⟩
  · exact Or.inl hn
  · exact Or.inr ⟨g, cap, cur, rfl, h1, (hb g rfl).trans h2, h3⟩
/-- Blocks sb and fb alone of the old ones may have been written. -/
structure Two (sb fb : Nat) (w w' : World) : Prop where
  os : w'.os = w.os
  tape : w'.tape = w.tape
  output : w'.output = w.output
  size : w.heap.size ≤ w'.heap.size
  drawn : w.drawn ≤ w'.drawn
  block : ∀ k, k < w.heap.size → k ≠ sb → k ≠ fb → w'.heap[k]? = w.heap[k]?
section
variable {sb fb : Nat} {a w w' : World}
theorem Two.refl (sb fb : Nat) (w : World) : Two sb fb w w := ⟨rfl, rfl, rfl, Nat.le_refl _, Nat.le_refl _, fun _ _ _ _ => rfl⟩
theorem Two.trans (h : Two sb fb a w) (k : Two sb fb w w') : Two sb fb a w' :=
  ⟨k.os.trans h.os, k.tape.trans h.tape, k.output.trans h.output, Nat.le_trans h.size k.size, Nat.le_trans h.drawn k.drawn, fun i hi h1 h2 => (k.block i (Nat.lt_of_lt_of_le hi h.size) h1 h2).trans (h.block i hi h1 h2)⟩
theorem Two.but (h : Two sb fb a w) (k : But sb w w') : Two sb fb a w' := h.trans ⟨k.os, k.tape, k.output, k.size, k.drawn, fun i hi h1 _ => k.block i hi h1⟩
theorem Two.grew (h : Two sb fb a w) (k : Grew w w') : Two sb fb a w' := h.but (But.of_grew k)
theorem Two.appended {row : Option Nat} (h : Two sb fb a w) (hg : w.grownBy w' row) (hd : w.drawn ≤ w'.drawn) (hrow : ∀ k, row = some k → a.heap.size ≤ k) : Two sb fb a w' :=
  ⟨hg.os.trans h.os, hg.tape.trans h.tape, hg.output.trans h.output, Nat.le_trans h.size hg.size, Nat.le_trans h.drawn hd, fun i hi h1 h2 => (hg.block i (Nat.lt_of_lt_of_le hi h.size) (fun e => by have := hrow i e.symm; omega)).trans (h.block i hi h1 h2)⟩
theorem Two.setCell (h : Two sb fb a w) (i : Nat) (v : Value) : Two sb fb a (w.setCell ⟨fb, i, none⟩ v) :=
  ⟨h.os, h.tape, h.output, by simpa using h.size, h.drawn, fun k hk h1 h2 => (heap_setCell_other w ⟨fb, i, none⟩ k v h2).trans (h.block k hk h1 h2)⟩
end
/-- The list under way in the world w: its slice v, n elements, their cells xs. -/
structure Lp (w0 wj : World) (sb fb : Nat) (p : Option Addr) (m c : Nat) (f : Nat → Int) (T : TypeId) (sz : Nat) (v : Value) (n : Nat) (xs : List Value) (w : World) : Prop where
  sr : SR w0 w sb p m c f
  fr : Two sb fb wj w
  own : w.ownsRow wj.heap.size T sz v n xs
  sb_lt : sb < wj.heap.size
  fb_lt : fb < wj.heap.size
  ne : fb ≠ sb
  lo : w0.heap.size ≤ fb
section
variable {w0 wj w w' : World} {sb fb m c sz n : Nat} {p : Option Addr} {f : Nat → Int} {T : TypeId} {v : Value} {xs : List Value}
theorem Lp.but (h : Lp w0 wj sb fb p m c f T sz v n xs w) (k : But sb w w') (s : SR w0 w' sb p m c f) : Lp w0 wj sb fb p m c f T sz v n xs w' :=
  ⟨s, h.fr.but k, own_move h.own fun b hb => k.block b (h.own.lt b hb).2 (by have := (h.own.lt b hb).1; have := h.sb_lt; omega), h.sb_lt, h.fb_lt, h.ne, h.lo⟩
theorem Lp.grew (h : Lp w0 wj sb fb p m c f T sz v n xs w) (k : Grew w w') : Lp w0 wj sb fb p m c f T sz v n xs w' := h.but (But.of_grew k) (h.sr.grew k)
theorem Lp.appended {v' : Value} {n' : Nat} {xs' : List Value} (h : Lp w0 wj sb fb p m c f T sz v n xs w) (ho : w'.ownsRow wj.heap.size T sz v' n' xs') (hg : w.grownBy w' v.ownBlock) (hd : w.drawn ≤ w'.drawn) : Lp w0 wj sb fb p m c f T sz v' n' xs' w' := by
  have hrow : ∀ k, v.ownBlock = some k → wj.heap.size ≤ k := own_lt h.own
  have hsb := h.sb_lt
  refine ⟨h.sr.same ?_ (hg.block sb (Nat.lt_of_lt_of_le hsb h.fr.size) fun e => by have := hrow sb e.symm; omega), h.fr.appended hg hd hrow, ho, h.sb_lt, h.fb_lt, h.ne, h.lo⟩
  have hlo := h.lo
  have hfb := h.fb_lt
  have hs := h.fr.size
  exact h.sr.g.appended hg hd fun k hk => by have := hrow k hk; omega
theorem Lp.set (h : Lp w0 wj sb fb p m c f T sz v n xs w) (i : Nat) (u : Value) : Lp w0 wj sb fb p m c f T sz v n xs (w.setCell ⟨fb, i, none⟩ u) :=
  ⟨h.sr.same (h.sr.g.setCell (p := ⟨fb, i, none⟩) h.lo u) (heap_setCell_other w ⟨fb, i, none⟩ sb u (Ne.symm h.ne)), h.fr.setCell i u, own_move h.own fun b hb => heap_setCell_other w ⟨fb, i, none⟩ b u (by have := (h.own.lt b hb).1; have := h.fb_lt; show b ≠ fb; omega), h.sb_lt, h.fb_lt, h.ne, h.lo⟩
/-- The block fb keeps its cells when the list grows. -/
theorem Lp.blk_app {TF : TypeId} {vs : List Value} (h : Lp w0 wj sb fb p m c f T sz v n xs w) (hb : Blk w fb TF vs) (hg : w.grownBy w' v.ownBlock) : Blk w' fb TF vs :=
  hb.same (hg.block fb hb.lt fun e => by have := own_lt h.own fb e.symm; have := h.fb_lt; omega)
theorem Lp.blk_but {TF : TypeId} {vs : List Value} (h : Lp w0 wj sb fb p m c f T sz v n xs w) (hb : Blk w fb TF vs) (k : But sb w w') : Blk w' fb TF vs := k.blk hb h.ne
end
theorem does_append {P : Program} (w : World) {o : Oper} {ev : Operand → Value} {R : Value → World → Prop} (s x : Operand) (t : TypeId)
    (ho : o.op = .call { callee := .builtin .append, args := #[s, x], argTypes := #[t, t] })
    (base : Nat) (e : TypeId) (i : TypeInfo) (z : Value) (size bytes : Nat) (ht : P.underlying t = some (.slice e)) (hi : P.info? e = some i) (hz : i.zero = some z)
    (hsize : i.size = size) (hby : i.bytes = bytes) (hzs : z.cells.size = size) (hsz : 0 < size)
    (v : Value) (n : Nat) (xs : List Value) (hs : ev s = v) (hown : w.ownsRow base e size v n xs)
    (ad : Addr) (m c : Nat) (news : List Value) (hx : ev x = .slice (some ad) m c) (hm : 0 < m) (hl : news.length = m * size) (hnews : ∀ j u, news[j]? = some u → w.cell? (ad.add j) = some u) (h1 : ∀ u ∈ news, u.oneCell' = true)
    (h63 : n + m ≤ maxLen) (hbytes : (n + m) * bytes ≤ 140737488355328) (hbase : base ≤ w.heap.size)
    (h : ∀ v' w', w'.ownsRow base e size v' (n + m) (xs ++ news) → w.grownBy w' v.ownBlock → w.drawn ≤ w'.drawn → R v' w') : does P o ev w R := by
  obtain ⟨v', w', hr, h2, h3, h4, h5⟩ := run_append_drawn (P := P) w base t o.type e i z size bytes ht hi hz hsize hby hzs hsz v n xs hown ad m c news hm hl hnews h1 h63 hbytes hbase
  unfold does execOp
  simp only [ho, resolve, invoke, builtin, Sem.run_bind, Sem.run_pure, Result.andThen_ok, List.map_toArray, List.map_cons, List.map_nil, hs, hx, hr, doesUpon]
  exact h v' w' h2 h3 h4

theorem own_val {w : World} {base : Nat} {e : TypeId} {size : Nat} {v : Value} {n : Nat} {xs : List Value} (h : w.ownsRow base e size v n xs) : ∃ q cap, v = .slice q n cap := by
  rcases h.2 with ⟨rfl, rfl⟩ | ⟨g, cap, cur, rfl, _⟩
  · exact ⟨none, 0, rfl⟩
  · exact ⟨some ⟨g, 0, none⟩, cap, rfl⟩

theorem Two.to_but {sb fb : Nat} {w w8 w' : World} (h : But sb w w8) (t : Two sb fb w8 w') (hfb : w.heap.size ≤ fb) : But sb w w' :=
  ⟨t.os.trans h.os, t.tape.trans h.tape, t.output.trans h.output, Nat.le_trans h.size t.size, Nat.le_trans h.drawn t.drawn, fun k hk hb => (t.block k (Nat.lt_of_lt_of_le hk h.size) hb (by omega)).trans (h.block k hk hb)⟩
theorem But.to_but {sb rb : Nat} {w w8 w' : World} (h : But sb w w8) (t : But rb w8 w') (hrb : w.heap.size ≤ rb) : But sb w w' :=
  ⟨t.os.trans h.os, t.tape.trans h.tape, t.output.trans h.output, Nat.le_trans h.size t.size, Nat.le_trans h.drawn t.drawn, fun k hk hb => (t.block k (Nat.lt_of_lt_of_le hk h.size) (by omega)).trans (h.block k hk hb)⟩
theorem own_base {w : World} {base base' : Nat} {e : TypeId} {size : Nat} {v : Value} {n : Nat} {xs : List Value} (h : w.ownsRow base e size v n xs) (hb : base' ≤ base) : w.ownsRow base' e size v n xs := by
  refine ⟨h.1, ?_⟩
  rcases h.2 with hn | ⟨g, cap, cur, rfl, h1, h2, h3⟩
  · exact Or.inl hn
  · exact Or.inr ⟨g, cap, cur, rfl, Nat.le_trans hb h1, h2, h3⟩
end Go.Proofs.Ytdoncogkepopiaa
