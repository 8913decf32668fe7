/- variable of package expr: the last binding with the name; a range over slices.Backward. Any number of bindings, any values. -/
import Derived.RangeFuncNested
import Derived.RangeFuncBound
import Derived.RangeFuncCalls
import Derived.RangeFuncLeaves
import Derived.Shelf.Abstract
import Derived.Shelf.RegionOpen
import Derived.OwnWalkIn
import Derived.TacticsInMore
import Derived.LoopNIn
import Derived.LoopIn
import Derived.Test.YtnhhmndnmkkhlaaDoorExD
namespace Go.Proofs.YtnhhmndnmkkhlaaDoor
open Go.RowKit Go.Sort Go.Shelf
set_option linter.unusedVariables false
set_option linter.unusedSimpArgs false
attribute [local go_sem] Oper.semAt_some

structure Bd where
  nm : ByteArray
  d : Nd
abbrev Bd.v (x : Bd) : Value := .agg #[.string x.nm, .int .i64 x.d.k, .int .i64 x.d.n, .string x.d.s, .slice x.d.p x.d.m x.d.c]
abbrev Bd.cells (x : Bd) : List Value := [.string x.nm, .int .i64 x.d.k, .int .i64 x.d.n, .string x.d.s, .slice x.d.p x.d.m x.d.c]
/-- m bindings lie at p, in a block below B. -/
def BRow (W : World) (B : Nat) (p : Option Addr) (m : Nat) (g : Nat → Bd) : Prop :=
  0 < m → ∃ b off, p = some ⟨b, off, none⟩ ∧ b < B ∧ ∀ i, i < m → W.cell? ⟨b, off + i * 5, none⟩ = some (.string (g i).nm) ∧ W.cell? ⟨b, off + i * 5 + 1, none⟩ = some (.int .i64 (g i).d.k) ∧ W.cell? ⟨b, off + i * 5 + 2, none⟩ = some (.int .i64 (g i).d.n) ∧
      W.cell? ⟨b, off + i * 5 + 3, none⟩ = some (.string (g i).d.s) ∧ W.cell? ⟨b, off + i * 5 + 4, none⟩ = some (.slice (g i).d.p (g i).d.m (g i).d.c)
theorem BRow.below {B : Nat} {x y : World} {p : Option Addr} {m : Nat} {g : Nat → Bd} (h : BRow x B p m g) (u : Below B x y) : BRow y B p m g := fun hm => by
  obtain ⟨a, off, hp, ha, hc⟩ := h hm
  refine ⟨a, off, hp, ha, fun i hi => ?_⟩
  obtain ⟨h1, h2, h3, h4, h5⟩ := hc i hi
  exact ⟨(u.cell (p := ⟨a, _, none⟩) ha).trans h1, (u.cell (p := ⟨a, _, none⟩) ha).trans h2, (u.cell (p := ⟨a, _, none⟩) ha).trans h3, (u.cell (p := ⟨a, _, none⟩) ha).trans h4, (u.cell (p := ⟨a, _, none⟩) ha).trans h5⟩
theorem blk_own {β : Type} (b : Nat) (T : TypeId) (f : β → List Value) : Own (fun s W => Blk W b T (f s)) := fun s X Y row hs hg hrow =>
  (hg.block b hs.lt (fun e => by
    obtain ⟨o, ho, hc⟩ := hrow b e.symm
    rw [show X.heap[b]? = _ from hs] at ho
    cases ho
    simp [Obj.isCells] at hc)).trans hs
/-- What has come when k rounds are over, of n bindings, from the last one. -/
def upB (n : Nat) (g : Nat → Bd) (k : Nat) : List (Nat × Bd) := (List.range k).map fun j => (n - 1 - j, g (n - 1 - j))
theorem upB_succ (n : Nat) (g : Nat → Bd) (k : Nat) : upB n g (k + 1) = upB n g k ++ [(n - 1 - k, g (n - 1 - k))] := by simp [upB, List.range_succ]
theorem upB_length (n : Nat) (g : Nat → Bd) (k : Nat) : (upB n g k).length = k := by simp [upB]
/-- The last binding with a name. -/
def lkF (g : Nat → Bd) (nm : ByteArray) : Nat → Option Nd
  | 0 => none
  | n + 1 => if (g n).nm = nm then some (g n).d else lkF g nm n

set_option maxRecDepth 100000 in
set_option maxHeartbeats 4000000 in
theorem back1_in (F : Fence) (n : Nat) (h8 : F.fn 80) (hro : F.round = none) (hn : 1 ≤ n) (l Bs n₀ m cap : Nat) (p : Option Addr) (g : Nat → Bd) (hm : m ≤ 1000000) (J Jx : List (Nat × Bd) → World → Prop)
    (hY : ∀ pre x W, J pre W → pre.length < m → YieldAt F (n - 1) Tryd.prog l #[.int .i64 (x.1 : Int), Bd.v x.2] W fun e W' =>
      (e = .returned (.bool true) ∧ J (pre ++ [x]) W' ∧ Below n₀ W W') ∨ (e = .returned (.bool false) ∧ Jx (pre ++ [x]) W'))
    (W : World) (hBs : W.cell? ⟨Bs, 0, none⟩ = some (.slice p m cap)) (hBl : Bs < n₀) (hc : BRow W n₀ p m g) (h0 : J [] W) :
    CallsIn F n Tryd.prog 80 #[.func (.yield l) #[] #[], .pointer (some ⟨Bs, 0, none⟩)] W fun e W' => (∃ v, e = .returned v) ∧
      ((∃ ys, ys = upB m g m ∧ J ys W') ∨ (∃ pre, (∃ k, k ≤ m ∧ pre = upB m g k) ∧ Jx pre W')) := by
  refine callsIn_of_wp Tryd.func80 rfl h8 ?_ hro
  simp only [Tryd.ntmps80, List.size_toArray, List.length_cons, List.length_nil, Nat.reduceAdd, Nat.reduceSub, Array.replicate_succ, Array.replicate_zero, List.push_toArray, List.append_toArray, List.nil_append, List.cons_append]
  have HC := hide hc
  have wr1 : IntKind.i64.wrap ((m : Int) - 1) = (m : Int) - 1 := wr (by omega) (by omega)
  clear hc
  gi_wp2
  gi_loopw [3] (fun i wr => ∃ j k : Nat, j + k = m ∧ i = .int .i64 ((j : Int) - 1) ∧ J (upB m g k) wr ∧ Below n₀ W wr)
    (fun i _ => (intOf i + 1).toNat)
  case atStart => exact ⟨m, 0, by omega, rfl, h0, Below.refl _ _⟩
  case round =>
    obtain ⟨j, k, hjk, rfl, hJs, hnx⟩ := hrel
    have hBs' : wr.cell? ⟨Bs, 0, none⟩ = some (.slice p m cap) := (hnx.cell (p := ⟨Bs, 0, none⟩) hBl).trans hBs
    by_cases hlt : 0 < j
    · obtain ⟨j', rfl⟩ : ∃ j', j = j' + 1 := ⟨j - 1, by omega⟩
      obtain ⟨b, off, rfl, hb, hcs⟩ := (HC.out.below hnx) (by omega)
      obtain ⟨fn, tmps, assign, body, hy, hR⟩ := hY _ (m - 1 - k, g (m - 1 - k)) wr hJs (by rw [upB_length]; omega)
      have hjj : m - 1 - k = j' := by omega
      have hup := upB_succ m g k
      rw [hjj] at hy hR hup
      dsimp only at hy
      obtain ⟨c0, c1, c2, c3, c4⟩ := hcs j' (by omega)
      clear hcs
      generalize g j' = x at *
      obtain ⟨xn, xk, xi, xs, xm, xp, xc⟩ := x
      dsimp only [Bd.v] at *
      have e1 : ((j' + 1 : Nat) : Int) - 1 = (j' : Int) := by omega
      have hj1 : (j' : Int) < (m : Int) := by omega
      have wr2 : IntKind.i64.wrap ((j' : Int) - 1) = (j' : Int) - 1 := wr' (by omega) (by omega)
      rw [e1]
      gi_wp2
      refine hR.mono ?_
      rintro e W3 (⟨rfl, hJ3, hk3⟩ | ⟨rfl, hJx3⟩)
      · gi_wp2
        go_roundw
        case rel => exact ⟨j', k + 1, by omega, rfl, by rw [hup]; exact hJ3, hnx.trans hk3⟩
        case measure => simp [intOf]
      · gi_wp2
        refine bodyPost_ret (results_none rfl _ _ _) rfl ?_
        exact ⟨⟨_, rfl⟩, .inr ⟨_, ⟨k + 1, by omega, hup.symm⟩, hJx3⟩⟩
    · obtain rfl : j = 0 := by omega
      obtain rfl : k = m := by omega
      gi_wp2
      go_end0
      exact ⟨⟨_, rfl⟩, .inl ⟨_, rfl, hJs⟩⟩

set_option maxHeartbeats 1000000 in
theorem back_in (F : Fence) (n : Nat) (h6 : F.fn 69) (hro : F.round = none) (a : Option Addr) (len cap : Nat) (w : World) :
    CallsIn F n Tryd.prog 69 #[.slice a len cap] w fun e w' => e = .returned (.func (.func 80) #[] #[.pointer (some ⟨w.heap.size, 0, none⟩)]) ∧ w' = w.alloc (.cells #[.slice a len cap] 55) := by
  refine callsIn_of_wp Tryd.func69 rfl h6 ?_ hro
  simp only [Tryd.ntmps69, List.size_toArray, List.length_cons, List.length_nil, Nat.reduceAdd, Nat.reduceSub, Array.replicate_succ, Array.replicate_zero, List.push_toArray, List.append_toArray, List.nil_append, List.cons_append]
  gi_wp2
  go_ret
  exact ⟨rfl, rfl⟩

theorem name_wpIn {F : Fence} {n : Nat} {P : Program} {c : Code} {Q : Exit → Act → World → Prop} {a : Act} {w : World} (h : ∀ w2, w2 = w → c.wpIn F n P Q a w2) : c.wpIn F n P Q a w := h w rfl
theorem name_bpm {F : Fence} {n : Nat} {P : Program} {f : Func} {R : Ending → World → Prop} {e : Exit} {a : Act} {w : World} (h : ∀ w2, w2 = w → bodyPostM F n P f R e a w2) : bodyPostM F n P f R e a w := h w rfl
theorem bytes_inj {x y : ByteArray} (h : (x.toList == y.toList) = true) : x = y := by
  have h := eq_of_beq h
  rw [ByteArray.toList_eq, ByteArray.toList_eq] at h
  cases x; cases y
  simp only at h
  rw [Array.toList_inj.1 h]
theorem BRow.mono {W : World} {B C : Nat} {p : Option Addr} {m : Nat} {g : Nat → Bd} (h : BRow W B p m g) (hB : B ≤ C) : BRow W C p m g := fun hm => by
  obtain ⟨a, off, hp, ha, hc⟩ := h hm
  exact ⟨a, off, hp, by omega, hc⟩
theorem back_stops (F : Fence) (n : Nat) (h8 : F.fn 80) (hro : F.round = none) (hn : 1 ≤ n) (Bs n₀ m cap : Nat) (p : Option Addr) (g : Nat → Bd) (hm : m ≤ 1000000) (w : World) (hBs : Bs < n₀) (hn₀ : n₀ ≤ w.heap.size)
    (hc : w.cell? ⟨Bs, 0, none⟩ = some (.slice p m cap)) (hI : BRow w n₀ p m g) :
    SeqStopsK F n Tryd.prog 80 #[.pointer (some ⟨Bs, 0, none⟩)] (fun x : Nat × Bd => #[.int .i64 (x.1 : Int), Bd.v x.2]) (Below n₀) (fun ys => ys = upB m g m)
      (fun pre => ∃ k, k ≤ m ∧ pre = upB m g k) m w := fun l J Jx W hW _ _ hY h0 =>
  back1_in F n h8 hro hn l Bs n₀ m cap p g hm J Jx hY W ((hW.cell (p := ⟨Bs, 0, none⟩) (Nat.lt_of_lt_of_le hBs hn₀)).trans hc) hBs (hI.below (hW.mono hn₀)) h0

theorem lk_none {n : Nat} {g : Nat → Bd} {nm : ByteArray} : ∀ {k : Nat}, k ≤ n → (∀ y ∈ upB n g k, y.2.nm ≠ nm) → lkF g nm n = lkF g nm (n - k)
  | 0, _, _ => rfl
  | k + 1, hk, h => by
    rw [upB_succ] at h
    rw [lk_none (k := k) (by omega) (fun y hy => h y (by simp [hy]))]
    have := h (n - 1 - k, g (n - 1 - k)) (by simp)
    dsimp only at this
    rw [show n - k = n - (k + 1) + 1 by omega, lkF, if_neg (by rw [show n - (k + 1) = n - 1 - k by omega]; exact this)]
theorem lk_found {n : Nat} {g : Nat → Bd} {nm : ByteArray} {k : Nat} (hk : k ≤ n) {l : List (Nat × Bd)} {x : Nat × Bd} (e : l ++ [x] = upB n g k) (hx : x.2.nm = nm) (h : ∀ y ∈ l, y.2.nm ≠ nm) : lkF g nm n = some x.2.d := by
  cases k with
  | zero => simp [upB] at e
  | succ k =>
    rw [upB_succ] at e
    obtain ⟨e1, e2⟩ := List.append_inj' e rfl
    subst e1
    obtain rfl : x = (n - 1 - k, g (n - 1 - k)) := by simpa using e2
    rw [lk_none (k := k) (by omega) h, show n - k = n - 1 - k + 1 by omega, lkF, if_pos hx]

/-- What variable returns. -/
def vrR (o : Option Nd) : Value := match o with
  | some d => .tuple #[d.v, .int .i64 0]
  | none => .tuple #[nv 0 0, .int .i64 4]
set_option maxRecDepth 100000 in
set_option maxHeartbeats 4000000 in
theorem variable_any (p : Option Addr) (m cap : Nat) (g : Nat → Bd) (nm : ByteArray) (hm : m ≤ 1000000) (w : World) (hL : BRow w w.heap.size p m g) :
    Calls Tryd.prog 58 #[.agg #[.slice p m cap], .string nm] w fun e w' => e = .returned (vrR (lkF g nm m)) ∧ Grew w w' := by
  have HL := hide hL
  have hK83 := fun W => hide (back_in Fence.wide (9 - 1) trivial rfl p m cap W)
  refine callsIn_wide (n := 9).1 ?_
  refine callsIn_of_wp_marks Tryd.func58 rfl trivial ?_ rfl
  simp only [Tryd.ntmps58, List.size_toArray, List.length_cons, List.length_nil, Nat.reduceAdd, Nat.reduceSub, Array.replicate_succ, Array.replicate_zero, List.push_toArray, List.append_toArray, List.nil_append, List.cons_append]
  clear hL
  gi_wp2_with (refine ⟨trivial, ?_⟩; gi_at_call 69; refine (hK83 _).out.mono ?_; rintro e w' ⟨rfl, rfl⟩)
  refine name_wpIn fun W0 hW0 => ?_
  have bN : Blk W0 (w.heap.size + 1) 9 [.string nm] := by
    rw [hW0]; repeat' (first | (with_reducible assumption) | ((with_reducible refine Blk.new ?_); (first | (with_reducible rfl) | (simp only [World.size_alloc, World.size_setCell, size_drewN]; done))) | (with_reducible refine Blk.alloc ?_ _) | (refine Blk.other ?_ (by omega) _) | fail)
  have bR : Blk W0 (w.heap.size + 1 + 1) 24 [.int .i64 0, .int .i64 0, .string ⟨#[]⟩, .slice none 0 0] := by
    rw [hW0]; repeat' (first | (with_reducible assumption) | ((with_reducible refine Blk.new ?_); (first | (with_reducible rfl) | (simp only [World.size_alloc, World.size_setCell, size_drewN]; done))) | (with_reducible refine Blk.alloc ?_ _) | (refine Blk.other ?_ (by omega) _) | fail)
  have bE : Blk W0 (w.heap.size + 1 + 1 + 1) 29 [.int .i64 0] := by
    rw [hW0]; repeat' (first | (with_reducible assumption) | ((with_reducible refine Blk.new ?_); (first | (with_reducible rfl) | (simp only [World.size_alloc, World.size_setCell, size_drewN]; done))) | (with_reducible refine Blk.alloc ?_ _) | (refine Blk.other ?_ (by omega) _) | fail)
  have bS : Blk W0 (w.heap.size + 1 + 1 + 1 + 1) 55 [.slice p m cap] := by
    rw [hW0]; repeat' (first | (with_reducible assumption) | ((with_reducible refine Blk.new ?_); (first | (with_reducible rfl) | (simp only [World.size_alloc, World.size_setCell, size_drewN]; done))) | (with_reducible refine Blk.alloc ?_ _) | (refine Blk.other ?_ (by omega) _) | fail)
  have hB0 : Below w.heap.size w W0 := by rw [hW0]; exact (((((Grew.refl w).alloc _).alloc _).alloc _).alloc _).alloc _ |>.1
  have hsz : W0.heap.size = w.heap.size + 5 := by rw [hW0]; simp
  clear hW0
  refine wpIn_rangeFunc_ownH rfl (by decide) (gf := 80) (lb := #[.pointer (some ⟨w.heap.size + 1 + 1 + 1 + 1, 0, none⟩)]) rfl trivial (enters_of Tryd.func80 (by kernel_rfl) rfl)
    (back_stops Fence.wide (9 - 1) trivial rfl (by decide) (w.heap.size + 1 + 1 + 1 + 1) (w.heap.size + 5) m cap p g hm W0 (by omega) (by omega) (bS.cell 0 rfl) ((HL.out.below hB0).mono (by omega))) belowK_t (belowK_b (by omega)) (Below.refl _ _) (fun _ => rfl)
    (fun pre W => (((Blk W (w.heap.size + 1) 9 [.string nm] ∧ Blk W (w.heap.size + 1 + 1) 24 [.int .i64 0, .int .i64 0, .string ⟨#[]⟩, .slice none 0 0]) ∧ Blk W (w.heap.size + 1 + 1 + 1) 29 [.int .i64 0]) ∧ (∀ y ∈ pre, y.2.nm ≠ nm)) ∧ (Below w.heap.size w W ∧ Below W0.heap.size W0 W))
    (fun c pre W => (∃ l x, c = .ret ∧ pre = l ++ [x] ∧ x.2.nm = nm ∧ (∀ y ∈ l, y.2.nm ≠ nm) ∧ Blk W (w.heap.size + 1 + 1) 24 [.int .i64 x.2.d.k, .int .i64 x.2.d.n, .string x.2.d.s, .slice x.2.d.p x.2.d.m x.2.d.c] ∧ Blk W (w.heap.size + 1 + 1 + 1) 29 [.int .i64 0]) ∧ Below w.heap.size w W)
    (OwnFrom.and (OwnFrom.and (OwnFrom.and (OwnFrom.and (Own.from (blk_own _ _ _) _) (Own.from (blk_own _ _ _) _)) (Own.from (blk_own _ _ _) _)) (fun _ _ _ _ hs _ _ => hs)) (OwnFrom.and (ownFrom_below (Nat.le_refl _) (by omega)) (ownFrom_below (Nat.le_refl _) (Nat.le_refl _))))
    (fun c => OwnFrom.and (fun s X Y row hs hg hr => by
      obtain ⟨l, x, h1, h2, h3, h4, h5, h6⟩ := hs
      exact ⟨l, x, h1, h2, h3, h4, blk_own _ _ (fun (_ : Unit) => _) () X Y row h5 hg (fun r e => (hr r e).2), blk_own _ _ (fun (_ : Unit) => _) () X Y row h6 hg (fun r e => (hr r e).2)⟩) (ownFrom_below (Nat.le_refl _) (by omega)))
    ⟨⟨⟨⟨bN, bR⟩, bE⟩, by simp⟩, hB0, Below.refl _ _⟩
    (fun x a' W => ∃ Bx, w.heap.size + 1 + 1 + 1 + 1 < Bx ∧ Blk W Bx 54 x.2.cells ∧ a' = { tmps := #[.agg #[.slice p m cap], .string nm, .pointer (some ⟨w.heap.size, 0, none⟩), .pointer (some ⟨w.heap.size + 1, 0, none⟩), .pointer (some ⟨w.heap.size + 1 + 1, 0, none⟩), .pointer (some ⟨w.heap.size + 1 + 1 + 1, 0, none⟩), undef, .pointer (some ⟨Bx, 0, none⟩), .pointer (some ⟨w.heap.size, 0, none⟩), .slice p m cap, .func (.func 80) #[] #[.pointer (some ⟨w.heap.size + 1 + 1 + 1 + 1, 0, none⟩)], .int .i64 (x.1 : Int), Bd.v x.2, undef, undef, undef, undef, undef, undef, undef], defers := [] })
    (fun x a' _ X Y row hs hg hr => by obtain ⟨Bx, h1, h2, h3⟩ := hs; exact ⟨Bx, h1, blk_own Bx _ (fun (_ : Unit) => x.2.cells) () X Y row h2 hg (fun r e => (hr r e).2), h3⟩)
    ?assign ?body ?done ?stop
  case assign =>
    rintro l pre ⟨ix, ⟨xn, xk, xi, xs, xm, xp, xc⟩⟩ W K ⟨⟨⟨⟨i1, i2⟩, i3⟩, i4⟩, i5, i6⟩ hK
    dsimp only [Bd.v]
    gi_wp2
    have hsW := i6.size
    exact hK _ _ ((KeepsOthers.alloc _ _).from _) ((Below.refl _ W).alloc (by omega) _) ⟨⟨⟨⟨i1.alloc _, i2.alloc _⟩, i3.alloc _⟩, i4⟩, i5.alloc (by omega) _, i6.alloc (by omega) _⟩ ⟨W.heap.size, by omega, Blk.new rfl, rfl⟩
  case body =>
    rintro l pre ⟨ix, ⟨xn, xk, xi, xs, xm, xp, xc⟩⟩ a' W hl ⟨r, hr⟩ ⟨⟨⟨⟨i1, i2⟩, i3⟩, i4⟩, i5, i6⟩ ⟨Bx, hBx, bX, rfl⟩ hlt
    have cN := i1.cell 0 rfl
    have x0 := bX.cell 0 rfl
    have x1 := bX.cell 1 rfl
    have x2 := bX.cell 2 rfl
    have x3 := bX.cell 3 rfl
    have x4 := bX.cell 4 rfl
    have r0 := i2.cell 0 rfl
    have r1 := i2.cell 1 rfl
    have r2 := i2.cell 2 rfl
    have r3 := i2.cell 3 rfl
    have s0 := i2.free 0
    have s1 := i2.free 1
    have s2 := i2.free 2
    have s3 := i2.free 3
    have q0 := i3.cell 0 rfl
    have q1 := i3.free 0
    dsimp only [Bd.v, Bd.cells] at *
    gi_wp2
    · rename_i hx
      have e := bytes_inj hx
      subst e
      refine ⟨(((((KeepsOthers.setCell _ _ _).trans (KeepsOthers.setCell _ _ _)).trans (KeepsOthers.setCell _ _ _)).trans (KeepsOthers.setCell _ _ _)).trans (KeepsOthers.setCell _ _ _)).from _, ⟨pre, (ix, ⟨xn, xk, xi, xs, xm, xp, xc⟩), rfl, rfl, rfl, i4, ?_, ?_⟩, ?_⟩
      · exact ((((i2.set' 0 _ rfl).set' 1 _ rfl).set' 2 _ rfl).set' 3 _ rfl).other (by omega) _
      · exact ((((i3.other (by omega) _).other (by omega) _).other (by omega) _).other (by omega) _).set' 0 _ rfl
      · exact ((((i5.setCell (by dsimp only; omega) _).setCell (by dsimp only; omega) _).setCell (by dsimp only; omega) _).setCell (by dsimp only; omega) _).setCell (by dsimp only; omega) _
    · rename_i hx
      refine ⟨KeepsFrom.refl _ _, Below.refl _ _, ⟨⟨⟨i1, i2⟩, i3⟩, fun y hy => ?_⟩, i5, i6⟩
      rcases List.mem_append.1 hy with h | h
      · exact i4 y h
      · simp only [List.mem_singleton] at h
        subst h
        rintro rfl
        simp at hx
  case done =>
    rintro D ys W hD rfl ⟨⟨⟨⟨i1, i2⟩, i3⟩, i4⟩, i5, i6⟩ hK
    have r0 := i2.cell 0 rfl
    have r1 := i2.cell 1 rfl
    have r2 := i2.cell 2 rfl
    have r3 := i2.cell 3 rfl
    have s0 := i2.free 0
    have s1 := i2.free 1
    have s2 := i2.free 2
    have s3 := i2.free 3
    have q0 := i3.cell 0 rfl
    have q1 := i3.free 0
    have hlk : lkF g nm m = none := by
      rw [lk_none (Nat.le_refl m) i4, Nat.sub_self]
      rfl
    gi_wp2
    refine name_bpm fun W2 hW2 => ?_
    have hK2 : W2.heap[D]? = some (.deferred (some [])) := by
      rw [hW2]
      exact (((((KeepsOthers.setCell _ _ _).trans (KeepsOthers.setCell _ _ _)).trans (KeepsOthers.setCell _ _ _)).trans (KeepsOthers.setCell _ _ _)).trans (KeepsOthers.setCell _ _ _)).same D _ hK rfl
    have bV : Blk W2 (w.heap.size + 1 + 1) 24 [.int .i64 0, .int .i64 0, .string ⟨#[]⟩, .slice none 0 0] := by
      rw [hW2]
      exact ((((i2.set' 0 _ rfl).set' 1 _ rfl).set' 2 _ rfl).set' 3 _ rfl).other (by omega) _
    have bE2 : Blk W2 (w.heap.size + 1 + 1 + 1) 29 [.int .i64 4] := by
      rw [hW2]
      exact ((((i3.other (by omega) _).other (by omega) _).other (by omega) _).other (by omega) _).set' 0 _ rfl
    have hB2 : Below w.heap.size w W2 := by
      rw [hW2]
      exact ((((i5.setCell (by dsimp only; omega) _).setCell (by dsimp only; omega) _).setCell (by dsimp only; omega) _).setCell (by dsimp only; omega) _).setCell (by dsimp only; omega) _
    clear hW2
    have v1 := blk_own _ _ (fun (_ : Unit) => _) () W2 _ (some D) bV (grownBy_putObj' W2 D (.deferred none)) (fun r e => by cases e; exact ⟨_, hK2, rfl⟩)
    have v2 := blk_own _ _ (fun (_ : Unit) => _) () W2 _ (some D) bE2 (grownBy_putObj' W2 D (.deferred none)) (fun r e => by cases e; exact ⟨_, hK2, rfl⟩)
    have a0 := v1.cell 0 rfl
    have a1 := v1.cell 1 rfl
    have a2 := v1.cell 2 rfl
    have a3 := v1.cell 3 rfl
    have a4 := v2.cell 0 rfl
    refine ⟨by simp, .inl ⟨_, _, rfl, run_takeDeferred hK2, .tuple #[nv 0 0, .int .i64 4], ?_, by rw [hlk]; rfl, ?_⟩⟩
    · simp [results, Tryd.f58, go_sem, a0, a1, a2, a3, a4]
    · exact ⟨hB2.trans (belowK_b (w := w) (Nat.le_refl _) W2 D _ _ (by omega) hK2 rfl rfl), trivial⟩
  case stop =>
    rintro D c pre W hD ⟨k, hk, hpre⟩ ⟨⟨l, x, rfl, h2, h3, h4, h5, h6⟩, hB⟩ hK
    have hlk : lkF g nm m = some x.2.d := lk_found hk (h2 ▸ hpre) h3 h4
    gi_wp2
    have v1 := blk_own _ _ (fun (_ : Unit) => _) () W _ (some D) h5 (grownBy_putObj' W D (.deferred none)) (fun r e => by cases e; exact ⟨_, hK, rfl⟩)
    have v2 := blk_own _ _ (fun (_ : Unit) => _) () W _ (some D) h6 (grownBy_putObj' W D (.deferred none)) (fun r e => by cases e; exact ⟨_, hK, rfl⟩)
    have a0 := v1.cell 0 rfl
    have a1 := v1.cell 1 rfl
    have a2 := v1.cell 2 rfl
    have a3 := v1.cell 3 rfl
    have a4 := v2.cell 0 rfl
    refine ⟨by simp, .inl ⟨_, _, rfl, run_takeDeferred hK, .tuple #[x.2.d.v, .int .i64 0], ?_, by rw [hlk]; rfl, ?_⟩⟩
    · simp [results, Tryd.f58, go_sem, a0, a1, a2, a3, a4]
    · exact ⟨hB.trans (belowK_b (w := w) (Nat.le_refl _) W D _ _ (by omega) hK rfl rfl), trivial⟩
end Go.Proofs.YtnhhmndnmkkhlaaDoor
