/- The tracks and items that the laws on grids build from a list of numbers: all in range; no condition. -/
import Derived.Test.YtdoenkngmgclmaaGdM
import Derived.Test.YtdoenkngmgclmaaRdB
namespace Go.Proofs.Ytdoenkngmgclmaa
open Go.RowKit Go.Sort
set_option linter.unusedVariables false
set_option linter.unusedSimpArgs false

theorem info_tk : (Try.prog.info? 42).map (fun i => (i.zero, i.size, i.bytes)) = some (some (.agg #[.int .i64 0, .int .i64 0]), 2, 16) := by kernel_rfl
theorem info_it : (Try.prog.info? 44).map (fun i => (i.zero, i.size, i.bytes)) = some (some (.agg #[.int .i64 0, .int .i64 0, .int .i64 0, .int .i64 0]), 4, 32) := by kernel_rfl
theorem info_partsU {i : Option TypeInfo} {z : Value} {n m : Nat} (h : i.map (fun i => (i.zero, i.size, i.bytes)) = some (some z, n, m)) : ∃ j, i = some j ∧ j.zero = some z ∧ j.size = n ∧ j.bytes = m := by
  cases i with
  | none => simp at h
  | some j => simp at h; exact ⟨j, rfl, h.1, h.2.1, h.2.2⟩
theorem Range_any (w0 w : World) (sb m c : Nat) (p : Option Addr) (f : Nat → Int) (lo hi : Int) (H : SR w0 w sb p m c f) (h1 : 0 ≤ lo) (h2 : lo ≤ hi) (h3 : hi ≤ 1048576) :
    Calls Try.prog 28 #[.pointer (some ⟨sb, 0, none⟩), .int .i64 lo, .int .i64 hi] w fun e w' => ∃ x : Int, e = .returned (.int .i64 x) ∧ (lo ≤ x ∧ x ≤ hi) ∧ But sb w w' ∧ SR w0 w' sb p m c f := by
  have KN := hide (N_any w0 w sb m c p f (hi - lo + 1) H (by omega) (by omega))
  have wa : IntKind.i64.wrap (hi - lo) = hi - lo := wr (by omega) (by omega)
  have wb : IntKind.i64.wrap (hi - lo + 1) = hi - lo + 1 := wr (by omega) (by omega)
  clear H
  go_enter Try.func28, Try.ntmps28
  go_wp2_with fail
  refine KN.out.mono ?_
  rintro e w' ⟨x, rfl, ⟨x1, x2⟩, q, SS⟩
  have wc : IntKind.i64.wrap (lo + x) = lo + x := wr (by omega) (by omega)
  have q := hide q
  have SS := hide SS
  go_wp2_with fail
  go_ret
  exact ⟨lo + x, rfl, by omega, q.out, SS.out⟩
/-- What stands behind the reader's number, the sum, the store. -/
def stM (A0 : World → Prop) (A1 : Int → World → Prop) (b : Int) : List Value → World → Prop
  | [], W => A0 W
  | [v], W => ∃ z : Int, (0 ≤ z ∧ z < 60) ∧ v = .int .i64 z ∧ A0 W
  | [_, v], W => ∃ z : Int, (0 ≤ z ∧ z < 60) ∧ v = .int .i64 (b + z) ∧ A0 W
  | _ :: _ :: _ :: _, W => ∃ z : Int, (0 ≤ z ∧ z < 60) ∧ A1 z W
theorem stM_J {A0 J : World → Prop} {A1 : Int → World → Prop} {b : Int} (h0 : ∀ W, A0 W → J W) (h1 : ∀ z W, A1 z W → J W) : ∀ (vals : List Value) (W : World), stM A0 A1 b vals W → J W
  | [], W, h => h0 W h
  | [_], W, ⟨_, _, _, h⟩ => h0 W h
  | [_, _], W, ⟨_, _, _, h⟩ => h0 W h
  | _ :: _ :: _ :: _, W, ⟨z, _, h⟩ => h1 z W h
structure Lq (w0 wj W : World) (sb : Nat) (p : Option Addr) (m c : Nat) (f : Nat → Int) (T : TypeId) (sz : Nat) (v : Value) (n : Nat) (xs : List Value) : Prop where
  sr : SR w0 W sb p m c f
  fr : But sb wj W
  own : W.ownsRow wj.heap.size T sz v n xs
  lt : sb < wj.heap.size
section
variable {w0 wj W W' : World} {sb m c : Nat} {p : Option Addr} {f : Nat → Int} {T : TypeId} {sz n : Nat} {v : Value} {xs : List Value}
theorem Lq.but (h : Lq w0 wj W sb p m c f T sz v n xs) (k : But sb W W') (s : SR w0 W' sb p m c f) : Lq w0 wj W' sb p m c f T sz v n xs :=
  ⟨s, h.fr.trans k, own_move h.own fun b hb => k.block b (h.own.lt b hb).2 (by have := (h.own.lt b hb).1; have := h.lt; omega), h.lt⟩
theorem Lq.grew (h : Lq w0 wj W sb p m c f T sz v n xs) (k : Grew W W') : Lq w0 wj W' sb p m c f T sz v n xs := h.but (But.of_grew k) (h.sr.grew k)
theorem Lq.setf (h : Lq w0 wj W sb p m c f T sz v n xs) {tb : Nat} (i : Nat) (u : Value) (h1 : wj.heap.size ≤ tb) (h2 : v.ownBlock ≠ some tb) : Lq w0 wj (W.setCell ⟨tb, i, none⟩ u) sb p m c f T sz v n xs := by
  have hlt := h.lt
  have hlo := h.sr.lo
  refine ⟨h.sr.same (h.sr.g.setCell (p := ⟨tb, i, none⟩) (by show w0.heap.size ≤ tb; omega) u) (heap_setCell_other W ⟨tb, i, none⟩ sb u (by show sb ≠ tb; omega)), ⟨h.fr.os, h.fr.tape, h.fr.output, by simpa using h.fr.size, h.fr.drawn, fun k hk hb => (heap_setCell_other W ⟨tb, i, none⟩ k u (by show k ≠ tb; omega)).trans (h.fr.block k hk hb)⟩, own_move h.own fun b hb => heap_setCell_other W ⟨tb, i, none⟩ b u (by show b ≠ tb; intro e; subst e; exact h2 hb), hlt⟩
theorem Lq.appended {v' : Value} {n' : Nat} {xs' : List Value} (h : Lq w0 wj W sb p m c f T sz v n xs) (ho : W'.ownsRow wj.heap.size T sz v' n' xs') (hg : W.grownBy W' v.ownBlock) (hd : W.drawn ≤ W'.drawn) : Lq w0 wj W' sb p m c f T sz v' n' xs' := by
  have hrow : ∀ k, v.ownBlock = some k → wj.heap.size ≤ k := own_lt h.own
  have hlt := h.lt
  have hlo := h.sr.lo
  have hsz := h.fr.size
  refine ⟨h.sr.same (h.sr.g.appended hg hd fun k hk => by have := hrow k hk; omega) (hg.block sb (by omega) fun e => by have := hrow sb e.symm; omega), ⟨hg.os.trans h.fr.os, hg.tape.trans h.fr.tape, hg.output.trans h.fr.output, Nat.le_trans h.fr.size hg.size, Nat.le_trans h.fr.drawn hd, fun k hk hb => (hg.block k (by omega) fun e => by have := hrow k e.symm; omega).trans (h.fr.block k hk hb)⟩, ho, hlt⟩
end
set_option maxRecDepth 100000 in
set_option maxHeartbeats 16000000 in
theorem build_any (w0 w : World) (sb m c : Nat) (p : Option Addr) (f : Nat → Int) (H : SR w0 w sb p m c f) :
    Calls Try.prog 14 #[.pointer (some ⟨sb, 0, none⟩)] w fun e w' => ∃ (v u : Value) (n k : Nat) (x : Nat → Tk) (I : Nat → It), e = .returned (.tuple #[v, u]) ∧ (1 ≤ n ∧ n ≤ 5) ∧ k ≤ 6 ∧ (∀ j, j < n → okT (x j)) ∧ (∀ j, j < k → okI n (I j)) ∧ w'.ownsRow w.heap.size 42 2 v n (flat n 2 (trC x)) ∧ w'.ownsRow w.heap.size 44 4 u k (flat k 4 (itC I)) ∧ But sb w w' ∧ SR w0 w' sb p m c f := by
  obtain ⟨it, i1, i2, i3, i4⟩ := info_partsU info_tk
  have HS := hide H
  have hsb : Hid (sb < w.heap.size) := by obtain ⟨t, _, k⟩ := H.src; exact k.lt
  have KR := hide (Range_any w0 w sb m c p f 1 5 H (by decide) (by decide) (by decide))
  clear H
  go_enter Try.func14, Try.ntmps14
  go_wp2_with fail
  refine KR.out.mono ?_
  rintro e wj ⟨y, rfl, ⟨y1, y2⟩, q, SS⟩
  obtain ⟨i0, rfl⟩ : ∃ i0 : Nat, y = (i0 : Int) := ⟨y.toNat, by omega⟩
  have hi0 : 1 ≤ i0 ∧ i0 ≤ 5 := by omega
  obtain ⟨hi1, hi2⟩ := hi0
  have BJ := hide q
  have L0 : Hid (Lq w0 wj wj sb p m c f 42 2 (.slice none 0 0) 0 (flat 0 2 (trC (fun _ => ⟨0, 0⟩)))) := ⟨SS, But.refl _ _, World.ownsRow_nil _ _ _ _, Nat.lt_of_lt_of_le hsb.out q.size⟩
  clear SS q KR y1 y2
  go_wp2_with fail
  go_loopg [4, 5] 7 (fun gh va vi wr => ∃ (i n : Nat) (v : Value) (x : Nat → Tk), vi = .int .i64 (i : Int) ∧ v = va ∧ i + n = i0 ∧ i < gh ∧ Hid (∀ j, j < n → okT (x j)) ∧ Hid (Lq w0 wj wr sb p m c f 42 2 v n (flat n 2 (trC x))))
  case atStart => exact ⟨i0, 0, _, _, by go_num, rfl, by omega, by omega, fun j hj => absurd hj (by omega), L0⟩
  case round =>
    clear L0
    obtain ⟨wo, rfl⟩ : ∃ wo : World, wo = wr := ⟨_, rfl⟩
    obtain ⟨i, n, va, x, rfl, rfl, hi, hg, HX, S⟩ := hrel
    by_cases hlt : 0 < i
    · have hltz : (0 : Int) < (i : Int) := by omega
      obtain ⟨i', rfl⟩ : ∃ i', i = i' + 1 := ⟨i - 1, by omega⟩
      have hi1 : ((i' + 1 : Nat) : Int) - 1 = (i' : Int) := by omega
      have KN := hide (N_any w0 wo sb m c p f 3 S.out.sr (by decide) (by decide))
      go_wp2_with fail
      refine KN.out.mono ?_
      rintro e w1 ⟨z, rfl, hz', q, SS⟩
      have L1 := hide (S.out.but q SS)
      clear q SS KN S
      have NT : Hid (wj.heap.size ≤ w1.heap.size ∧ va.ownBlock ≠ some w1.heap.size ∧ w1.heap.size ≠ sb) := ⟨L1.out.fr.size, fun e => by have := (L1.out.own.lt _ e).2; omega, by have := L1.out.lt; have := L1.out.fr.size; omega⟩
      rcases (show z = 0 ∨ z = 1 ∨ z = 2 by omega) with rfl | rfl | rfl
      · have T2 : Hid (Blk (w1.alloc (.cells #[.int .i64 0, .int .i64 0] 42)) w1.heap.size 42 [.int .i64 0, .int .i64 0]) := Blk.new rfl
        have L2 := hide (L1.out.grew ((Grew.refl _).alloc (.cells #[.int .i64 0, .int .i64 0] 42)))
        have K2 := hide (N_any w0 _ sb m c p f 60 L2.out.sr (by decide) (by decide))
        clear hz' L1
        go_wp2_with fail
        refine K2.out.mono ?_
        rintro e w3 ⟨nn, rfl, ⟨nn1, nn2⟩, q, SS⟩
        have L3 := hide (L2.out.but q SS)
        have T3 := hide (q.blk T2.out NT.out.2.2)
        clear q SS K2 L2 T2
        generalize w1.heap.size = tb at *
        have y1 := T3.out.cell 1 rfl
        have y2 := T3.out.free 1
        have L4 := hide (L3.out.setf 1 (.int .i64 nn) NT.out.1 NT.out.2.1)
        have T4 : Hid (Blk (w3.setCell ⟨tb, 1, none⟩ (.int .i64 nn)) tb 42 [.int .i64 0, .int .i64 nn]) := T3.out.set_as 1 _ rfl
        clear L3 T3
        have ev : flat (n + 1) 2 (trC (upd x n ⟨0, nn⟩)) = flat n 2 (trC x) ++ [.int .i64 0, .int .i64 nn] := by
          rw [flat_succ]
          congr 1
          · exact flat_congr fun i' hi' j => by
              have : upd x n ⟨0, nn⟩ i' = x i' := by simp [upd, Nat.ne_of_lt hi']
              unfold trC; rw [this]
          · simp [upd, trC, List.range_succ]
        have EV := hide ev
        have NO : Hid (∀ j, j < n + 1 → okT (upd x n ⟨0, nn⟩ j)) := fun j hj => by
          by_cases h : j = n
          · subst h; simp only [upd, if_true]; exact ⟨by dsimp only; omega, fun _ => by dsimp only; omega, fun h => by dsimp only at h; omega, fun h => by dsimp only at h; omega⟩
          · simp only [upd, if_neg h]; exact HX.out j (by omega)
        have t0 := T4.out.cell 0 rfl
        have t1 := T4.out.cell 1 rfl
        have LG := hide (L4.out.grew ((Grew.refl _).alloc (.cells #[.int .i64 0, .int .i64 nn] 42)))
        have OO := LG.out.own
        have OS := LG.out.fr.size
        clear ev
        go_wp2_with (at_builtin; refine wpList_append_drawn _ rfl _ _ 29 rfl wj.heap.size 42 it _ 2 16 Try.underlying29 i1 i2 i3 i4 rfl (by decide) va n _ rfl OO ⟨_, 0, none⟩ 1 1 [.int .i64 0, .int .i64 nn] rfl (by decide) rfl ?c1 ?c2 ?c3 ?c4 ?c5 ?_)
        case c1 =>
          intro j u hj
          rw [addr_add]
          exact (Blk.new (vs := [.int .i64 0, .int .i64 nn]) (by simp [World.size_alloc])).cell j hj
        case c2 => intro u hu; simp at hu; rcases hu with rfl | rfl <;> rfl
        case c3 => unfold maxLen; omega
        case c4 => omega
        case c5 => exact OS
        intro v' w6 ho hgr hd
        have L6 : Hid (Lq w0 wj w6 sb p m c f 42 2 v' (n + 1) (flat (n + 1) 2 (trC (upd x n ⟨0, nn⟩)))) := by
          show Lq _ _ _ _ _ _ _ _ _ _ _ _ _
          rw [EV.out]; exact LG.out.appended ho hgr hd
        clear ho hgr hd LG OO EV t0 t1
        go_wp2_with fail
        go_roundg (i' + 1)
        case measure => omega
        case rel => exact ⟨i', n + 1, _, _, by go_num, rfl, by omega, by omega, NO, L6⟩
      · have T4 : Hid (Blk (w1.alloc (.cells #[.int .i64 1, .int .i64 0] 42)) w1.heap.size 42 [.int .i64 1, .int .i64 0]) := Blk.new rfl
        have L4 := hide (L1.out.grew ((Grew.refl _).alloc (.cells #[.int .i64 1, .int .i64 0] 42)))
        clear hz' L1
        have ev : flat (n + 1) 2 (trC (upd x n ⟨1, 0⟩)) = flat n 2 (trC x) ++ [.int .i64 1, .int .i64 0] := by
          rw [flat_succ]
          congr 1
          · exact flat_congr fun i' hi' j => by
              have : upd x n ⟨1, 0⟩ i' = x i' := by simp [upd, Nat.ne_of_lt hi']
              unfold trC; rw [this]
          · simp [upd, trC, List.range_succ]
        have EV := hide ev
        have NO : Hid (∀ j, j < n + 1 → okT (upd x n ⟨1, 0⟩ j)) := fun j hj => by
          by_cases h : j = n
          · subst h; simp only [upd, if_true]; exact ⟨by dsimp only; omega, fun h => by dsimp only at h; omega, fun _ => rfl, fun h => by dsimp only at h; omega⟩
          · simp only [upd, if_neg h]; exact HX.out j (by omega)
        have t0 := T4.out.cell 0 rfl
        have t1 := T4.out.cell 1 rfl
        have LG := hide (L4.out.grew ((Grew.refl _).alloc (.cells #[.int .i64 1, .int .i64 0] 42)))
        have OO := LG.out.own
        have OS := LG.out.fr.size
        clear ev
        go_wp2_with (at_builtin; refine wpList_append_drawn _ rfl _ _ 29 rfl wj.heap.size 42 it _ 2 16 Try.underlying29 i1 i2 i3 i4 rfl (by decide) va n _ rfl OO ⟨_, 0, none⟩ 1 1 [.int .i64 1, .int .i64 0] rfl (by decide) rfl ?c1 ?c2 ?c3 ?c4 ?c5 ?_)
        case c1 =>
          intro j u hj
          rw [addr_add]
          exact (Blk.new (vs := [.int .i64 1, .int .i64 0]) (by simp [World.size_alloc])).cell j hj
        case c2 => intro u hu; simp at hu; rcases hu with rfl | rfl <;> rfl
        case c3 => unfold maxLen; omega
        case c4 => omega
        case c5 => exact OS
        intro v' w6 ho hgr hd
        have L6 : Hid (Lq w0 wj w6 sb p m c f 42 2 v' (n + 1) (flat (n + 1) 2 (trC (upd x n ⟨1, 0⟩)))) := by
          show Lq _ _ _ _ _ _ _ _ _ _ _ _ _
          rw [EV.out]; exact LG.out.appended ho hgr hd
        clear ho hgr hd LG OO EV t0 t1
        go_wp2_with fail
        go_roundg (i' + 1)
        case measure => omega
        case rel => exact ⟨i', n + 1, _, _, by go_num, rfl, by omega, by omega, NO, L6⟩
      · have T2 : Hid (Blk (w1.alloc (.cells #[.int .i64 2, .int .i64 0] 42)) w1.heap.size 42 [.int .i64 2, .int .i64 0]) := Blk.new rfl
        have L2 := hide (L1.out.grew ((Grew.refl _).alloc (.cells #[.int .i64 2, .int .i64 0] 42)))
        have K2 := hide (Range_any w0 _ sb m c p f 1 4 L2.out.sr (by decide) (by decide) (by decide))
        clear hz' L1
        go_wp2_with fail
        refine K2.out.mono ?_
        rintro e w3 ⟨nn, rfl, ⟨nn1, nn2⟩, q, SS⟩
        have L3 := hide (L2.out.but q SS)
        have T3 := hide (q.blk T2.out NT.out.2.2)
        clear q SS K2 L2 T2
        generalize w1.heap.size = tb at *
        have y1 := T3.out.cell 1 rfl
        have y2 := T3.out.free 1
        have L4 := hide (L3.out.setf 1 (.int .i64 nn) NT.out.1 NT.out.2.1)
        have T4 : Hid (Blk (w3.setCell ⟨tb, 1, none⟩ (.int .i64 nn)) tb 42 [.int .i64 2, .int .i64 nn]) := T3.out.set_as 1 _ rfl
        clear L3 T3
        have ev : flat (n + 1) 2 (trC (upd x n ⟨2, nn⟩)) = flat n 2 (trC x) ++ [.int .i64 2, .int .i64 nn] := by
          rw [flat_succ]
          congr 1
          · exact flat_congr fun i' hi' j => by
              have : upd x n ⟨2, nn⟩ i' = x i' := by simp [upd, Nat.ne_of_lt hi']
              unfold trC; rw [this]
          · simp [upd, trC, List.range_succ]
        have EV := hide ev
        have NO : Hid (∀ j, j < n + 1 → okT (upd x n ⟨2, nn⟩ j)) := fun j hj => by
          by_cases h : j = n
          · subst h; simp only [upd, if_true]; exact ⟨by dsimp only; omega, fun h => by dsimp only at h; omega, fun h => by dsimp only at h; omega, fun _ => by dsimp only; omega⟩
          · simp only [upd, if_neg h]; exact HX.out j (by omega)
        have t0 := T4.out.cell 0 rfl
        have t1 := T4.out.cell 1 rfl
        have LG := hide (L4.out.grew ((Grew.refl _).alloc (.cells #[.int .i64 2, .int .i64 nn] 42)))
        have OO := LG.out.own
        have OS := LG.out.fr.size
        clear ev
        go_wp2_with (at_builtin; refine wpList_append_drawn _ rfl _ _ 29 rfl wj.heap.size 42 it _ 2 16 Try.underlying29 i1 i2 i3 i4 rfl (by decide) va n _ rfl OO ⟨_, 0, none⟩ 1 1 [.int .i64 2, .int .i64 nn] rfl (by decide) rfl ?c1 ?c2 ?c3 ?c4 ?c5 ?_)
        case c1 =>
          intro j u hj
          rw [addr_add]
          exact (Blk.new (vs := [.int .i64 2, .int .i64 nn]) (by simp [World.size_alloc])).cell j hj
        case c2 => intro u hu; simp at hu; rcases hu with rfl | rfl <;> rfl
        case c3 => unfold maxLen; omega
        case c4 => omega
        case c5 => exact OS
        intro v' w6 ho hgr hd
        have L6 : Hid (Lq w0 wj w6 sb p m c f 42 2 v' (n + 1) (flat (n + 1) 2 (trC (upd x n ⟨2, nn⟩)))) := by
          show Lq _ _ _ _ _ _ _ _ _ _ _ _ _
          rw [EV.out]; exact LG.out.appended ho hgr hd
        clear ho hgr hd LG OO EV t0 t1
        go_wp2_with fail
        go_roundg (i' + 1)
        case measure => omega
        case rel => exact ⟨i', n + 1, _, _, by go_num, rfl, by omega, by omega, NO, L6⟩
    · have hltz : ¬ (0 : Int) < (i : Int) := by omega
      obtain rfl : i0 = n := by omega
      obtain ⟨tq, tcap, htv⟩ := own_val S.out.own
      have SO := S.out.own
      rw [htv] at SO
      have OT := hide SO
      have BO := hide S.out.fr
      have SW := hide S.out.sr
      have LW : Hid (sb < wo.heap.size) := Nat.lt_of_lt_of_le S.out.lt S.out.fr.size
      have hn5 : i0 ≤ 5 := hi2
      subst htv
      obtain ⟨iu, u1, u2, u3, u4⟩ := info_partsU info_it
      have K7 := hide (N_any w0 wo sb m c p f 7 SW.out (by decide) (by decide))
      have HTX := hide HX.out
      clear S SO hi hg HX it i1 i2 i3 i4
      go_wp2_with fail
      refine K7.out.mono ?_
      intro e wk hh
      have ⟨y, he, hy, q, SS⟩ := hh
      have ⟨y1, y2⟩ := hy
      clear hh
      have ⟨k0, hk⟩ : ∃ k0 : Nat, y = (k0 : Int) := ⟨y.toNat, (Int.toNat_of_nonneg y1).symm⟩
      rw [hk] at he y2
      have hk0 : k0 < 7 := Int.ofNat_lt.1 y2
      rw [he]
      clear he hk hy
      have L0 : Hid (Lq w0 wk wk sb p m c f 44 4 (.slice none 0 0) 0 (flat 0 4 (itC (fun _ => ⟨0, 0, 0, 0⟩)))) := ⟨SS, But.refl _ _, World.ownsRow_nil _ _ _ _, Nat.lt_of_lt_of_le LW.out q.size⟩
      have BK := hide q
      clear SS q K7 y1 y2
      go_wp2_with fail
      go_loopg [7, 8] 8 (fun gh va vi wr => ∃ (i r : Nat) (v : Value) (I : Nat → It), vi = .int .i64 (i : Int) ∧ v = va ∧ i + r = k0 ∧ i < gh ∧ Hid (∀ j, j < r → okI i0 (I j)) ∧ Hid (Lq w0 wk wr sb p m c f 44 4 v r (flat r 4 (itC I))))
      case atStart => exact ⟨k0, 0, _, _, by go_num, rfl, by omega, by omega, fun j hj => absurd hj (by omega), L0⟩
      case round =>
        clear L0
        obtain ⟨wz, rfl⟩ : ∃ wz : World, wz = wr := ⟨_, rfl⟩
        obtain ⟨i, r, va, I, rfl, rfl, hi, hg, HX, S⟩ := hrel
        by_cases hlt : 0 < i
        · have hltz : (0 : Int) < (i : Int) := by omega
          obtain ⟨i', rfl⟩ : ∃ i', i = i' + 1 := ⟨i - 1, by omega⟩
          have hi1 : ((i' + 1 : Nat) : Int) - 1 = (i' : Int) := by omega
          have KA := hide (N_any w0 wz sb m c p f (i0 : Int) S.out.sr (by omega) (by omega))
          go_wp2_with fail
          refine KA.out.mono ?_
          rintro e w1 ⟨a, rfl, ⟨a1, a2⟩, q, SS⟩
          have L1 := hide (S.out.but q SS)
          have KB := hide (N_any w0 w1 sb m c p f 50 L1.out.sr (by decide) (by decide))
          clear q SS KA S
          go_wp2_with fail
          refine KB.out.mono ?_
          rintro e w2 ⟨b, rfl, ⟨b1, b2⟩, q, SS⟩
          have L2 := hide (L1.out.but q SS)
          have NT : Hid (wk.heap.size ≤ w2.heap.size ∧ va.ownBlock ≠ some w2.heap.size ∧ w2.heap.size ≠ sb) := ⟨L2.out.fr.size, fun e => by have := (L2.out.own.lt _ e).2; omega, by have := L2.out.lt; have := L2.out.fr.size; omega⟩
          have T3 : Hid (Blk (w2.alloc (.cells #[.int .i64 a, .int .i64 0, .int .i64 b, .int .i64 0] 44)) w2.heap.size 44 [.int .i64 a, .int .i64 0, .int .i64 b, .int .i64 0]) := Blk.new rfl
          have L3 := hide (L2.out.grew ((Grew.refl _).alloc (.cells #[.int .i64 a, .int .i64 0, .int .i64 b, .int .i64 0] 44)))
          have wna : IntKind.i64.wrap ((i0 : Int) - a) = i0 - a := wr (by omega) (by omega)
          have KC := hide (N_any w0 _ sb m c p f ((i0 : Int) - a) L3.out.sr (by omega) (by omega))
          clear q SS KB L1 L2
          go_wp2_with fail
          refine KC.out.mono ?_
          rintro e w4 ⟨d, rfl, ⟨d1, d2⟩, q, SS⟩
          have L4 := hide (L3.out.but q SS)
          have T4 := hide (q.blk T3.out NT.out.2.2)
          clear q SS KC L3 T3
          generalize w2.heap.size = tb at *
          have y1 := T4.out.cell 1 rfl
          have y2 := T4.out.free 1
          have wd : IntKind.i64.wrap (1 + d) = 1 + d := wr (by omega) (by omega)
          have L5 := hide (L4.out.setf 1 (.int .i64 (1 + d)) NT.out.1 NT.out.2.1)
          have T5 : Hid (Blk (w4.setCell ⟨tb, 1, none⟩ (.int .i64 (1 + d))) tb 44 [.int .i64 a, .int .i64 (1 + d), .int .i64 b, .int .i64 0]) := T4.out.set_as 1 _ rfl
          clear L4 T4
          go_wp2_with fail
          clear y1 y2
          generalize w4.setCell ⟨tb, 1, none⟩ (.int .i64 (1 + d)) = w5 at *
          refine MJ.wp_region_chain (fun W' => W'.cell? ⟨tb, 2, none⟩ = some (.int .i64 b)) [3, 4, 6] [(60, 3), (61, 4)] (stM (fun W' => Lq w0 wk W' sb p m c f 44 4 va r (flat r 4 (itC I)) ∧ Blk W' tb 44 [.int .i64 a, .int .i64 (1 + d), .int .i64 b, .int .i64 0]) (fun z W' => Lq w0 wk W' sb p m c f 44 4 va r (flat r 4 (itC I)) ∧ Blk W' tb 44 [.int .i64 a, .int .i64 (1 + d), .int .i64 b, .int .i64 (b + z)]) b) (by kernel_rfl) (by kernel_rfl) (by simp) ?h0 ?hJ ?_
          case h0 => exact ⟨L5.out.grew ((Grew.refl _).drew), T5.out.drew⟩
          case hJ =>
            rintro vals W' _ hS'
            exact stM_J (J := fun W' => W'.cell? ⟨tb, 2, none⟩ = some (.int .i64 b)) (fun W h => h.2.cell 2 rfl) (fun _ W h => h.2.cell 2 rfl) vals W' hS'
          repeat (refine MJ.lex_calm rfl (by rfl) (fun K hK => ?_); apply Exists.intro; refine ⟨fun W' hW => ?_, ?_⟩; (dsimp only at hW; go_simp; exact rfl); go_simp; refine hK _ ?_; clear hK K)
          refine MJ.lex_chain 0 rfl (by kernel_rfl) rfl ?_ ?_
          · rintro vs W ⟨hL, hT⟩
            have KD := hide (N_any w0 W sb m c p f 60 hL.sr (by decide) (by decide))
            have hL := hide hL
            have hT := hide hT
            simp [go_sem, evS, List.lookup]
            refine KD.out.mono ?_
            rintro e w' ⟨z, rfl, hz', q, SS⟩
            exact ⟨_, rfl, z, hz', rfl, hL.out.but q SS, q.blk hT.out NT.out.2.2⟩
          refine MJ.lex_chain 1 rfl (by kernel_rfl) rfl ?_ ?_
          · rintro vs W ⟨z, hz', e, h⟩
            replace e : vs 3 = .int .i64 z := e
            have h' := hide h
            have wz' : IntKind.i64.wrap (b + z) = b + z := wr (by omega) (by omega)
            clear h
            simp [go_sem, evS, List.lookup, e, wz']
            exact ⟨z, hz', rfl, h'.out⟩
          repeat (refine MJ.lex_calm rfl (by rfl) (fun K hK => ?_); apply Exists.intro; refine ⟨fun W' hW => ?_, ?_⟩; (dsimp only at hW; go_simp; exact rfl); go_simp; refine hK _ ?_; clear hK K)
          refine MJ.lex_chain 2 rfl (by kernel_rfl) rfl ?_ ?_
          · rintro vs W ⟨z, hz', e, hL, hT⟩
            replace e : vs 4 = .int .i64 (b + z) := e
            have y1 := hT.cell 3 rfl
            have y2 := hT.free 3
            have FIN : Hid (Lq w0 wk (W.setCell ⟨tb, 3, none⟩ (.int .i64 (b + z))) sb p m c f 44 4 va r (flat r 4 (itC I)) ∧ Blk (W.setCell ⟨tb, 3, none⟩ (.int .i64 (b + z))) tb 44 [.int .i64 a, .int .i64 (1 + d), .int .i64 b, .int .i64 (b + z)]) := ⟨hL.setf 3 _ NT.out.1 NT.out.2.1, hT.set_as 3 _ rfl⟩
            clear hL hT
            simp [go_sem, evS, List.lookup, e, y1, y2]
            exact ⟨z, hz', FIN.out⟩
          refine MJ.lex_nil ?_
          rintro vs w6 ⟨z, ⟨z1, z2⟩, hL, hT⟩
          have L6 := hide hL
          have T6 := hide hT
          have KE := hide (N_any w0 w6 sb m c p f 8 hL.sr (by decide) (by decide))
          clear hL hT L5 T5
          simp only [fillS, List.foldl_cons, List.foldl_nil]
          go_wp2_with fail
          refine KE.out.mono ?_
          rintro e w7 ⟨o, rfl, ⟨o1, o2⟩, q, SS⟩
          have L7 := hide (L6.out.but q SS)
          have T7 := hide (q.blk T6.out NT.out.2.2)
          clear q SS KE L6 T6
          by_cases ho : o = 0
          · have d0 : (o == 0) = true := by simpa using ho
            have KF := hide (N_any w0 w7 sb m c p f 20 L7.out.sr (by decide) (by decide))
            clear ho
            go_wp2_with fail
            refine KF.out.mono ?_
            rintro e w8 ⟨mx, rfl, ⟨mx1, mx2⟩, q, SS⟩
            have L8 := hide (L7.out.but q SS)
            have T8 := hide (q.blk T7.out NT.out.2.2)
            clear q SS KF L7 T7
            have y1 := T8.out.cell 3 rfl
            have y2 := T8.out.free 3
            have L9 := hide (L8.out.setf 3 (.int .i64 mx) NT.out.1 NT.out.2.1)
            have T9 : Hid (Blk (w8.setCell ⟨tb, 3, none⟩ (.int .i64 mx)) tb 44 [.int .i64 a, .int .i64 (1 + d), .int .i64 b, .int .i64 mx]) := T8.out.set_as 3 _ rfl
            clear L8 T8
            have ev : flat (r + 1) 4 (itC (upd I r ⟨a, 1 + d, b, mx⟩)) = flat r 4 (itC I) ++ [.int .i64 a, .int .i64 (1 + d), .int .i64 b, .int .i64 mx] := by
              rw [flat_succ]
              congr 1
              · exact flat_congr fun i' hi' j => by
                  have : upd I r ⟨a, 1 + d, b, mx⟩ i' = I i' := by simp [upd, Nat.ne_of_lt hi']
                  unfold itC; rw [this]
              · simp [upd, itC, List.range_succ]
            have EV := hide ev
            have NO : Hid (∀ j, j < r + 1 → okI i0 (upd I r ⟨a, 1 + d, b, mx⟩ j)) := fun j hj => by
              by_cases h : j = r
              · subst h; simp only [upd, if_true]; exact ⟨by dsimp only; omega, by dsimp only; omega, by dsimp only; omega, by dsimp only; omega, by dsimp only; omega⟩
              · simp only [upd, if_neg h]; exact HX.out j (by omega)
            have t0 := T9.out.cell 0 rfl
            have t1 := T9.out.cell 1 rfl
            have t2 := T9.out.cell 2 rfl
            have t3 := T9.out.cell 3 rfl
            have LG := hide (L9.out.grew ((Grew.refl _).alloc (.cells #[.int .i64 a, .int .i64 (1 + d), .int .i64 b, .int .i64 mx] 44)))
            have OO := LG.out.own
            have OS := LG.out.fr.size
            clear ev
            go_wp2_with (at_builtin; refine wpList_append_drawn _ rfl _ _ 30 rfl wk.heap.size 44 iu _ 4 32 Try.underlying30 u1 u2 u3 u4 rfl (by decide) va r _ rfl OO ⟨_, 0, none⟩ 1 1 [.int .i64 a, .int .i64 (1 + d), .int .i64 b, .int .i64 mx] rfl (by decide) rfl ?c1 ?c2 ?c3 ?c4 ?c5 ?_)
            case c1 =>
              intro j u hj
              rw [addr_add]
              exact (Blk.new (vs := [.int .i64 a, .int .i64 (1 + d), .int .i64 b, .int .i64 mx]) (by simp [World.size_alloc])).cell j hj
            case c2 => intro u hu; simp at hu; rcases hu with rfl | rfl | rfl | rfl <;> rfl
            case c3 => unfold maxLen; omega
            case c4 => omega
            case c5 => exact OS
            intro v' w9 ho hgr hd
            have LL : Hid (Lq w0 wk w9 sb p m c f 44 4 v' (r + 1) (flat (r + 1) 4 (itC (upd I r ⟨a, 1 + d, b, mx⟩)))) := by
              show Lq _ _ _ _ _ _ _ _ _ _ _ _ _
              rw [EV.out]; exact LG.out.appended ho hgr hd
            clear ho hgr hd LG OO EV t0 t1 t2 t3
            go_wp2_with fail
            go_roundg (i' + 1)
            case measure => omega
            case rel => exact ⟨i', r + 1, _, _, by go_num, rfl, by omega, by omega, NO, LL⟩
          · have d0 : (o == 0) = false := by simpa using ho
            have mx1 : 0 ≤ b + z ∧ b + z < 110 := by omega
            obtain ⟨mx1, mx2⟩ := mx1
            have L9 := L7
            have T9 := T7
            clear ho L7 T7
            have ev : flat (r + 1) 4 (itC (upd I r ⟨a, 1 + d, b, (b + z)⟩)) = flat r 4 (itC I) ++ [.int .i64 a, .int .i64 (1 + d), .int .i64 b, .int .i64 (b + z)] := by
              rw [flat_succ]
              congr 1
              · exact flat_congr fun i' hi' j => by
                  have : upd I r ⟨a, 1 + d, b, (b + z)⟩ i' = I i' := by simp [upd, Nat.ne_of_lt hi']
                  unfold itC; rw [this]
              · simp [upd, itC, List.range_succ]
            have EV := hide ev
            have NO : Hid (∀ j, j < r + 1 → okI i0 (upd I r ⟨a, 1 + d, b, (b + z)⟩ j)) := fun j hj => by
              by_cases h : j = r
              · subst h; simp only [upd, if_true]; exact ⟨by dsimp only; omega, by dsimp only; omega, by dsimp only; omega, by dsimp only; omega, by dsimp only; omega⟩
              · simp only [upd, if_neg h]; exact HX.out j (by omega)
            have t0 := T9.out.cell 0 rfl
            have t1 := T9.out.cell 1 rfl
            have t2 := T9.out.cell 2 rfl
            have t3 := T9.out.cell 3 rfl
            have LG := hide (L9.out.grew ((Grew.refl _).alloc (.cells #[.int .i64 a, .int .i64 (1 + d), .int .i64 b, .int .i64 (b + z)] 44)))
            have OO := LG.out.own
            have OS := LG.out.fr.size
            clear ev
            go_wp2_with (at_builtin; refine wpList_append_drawn _ rfl _ _ 30 rfl wk.heap.size 44 iu _ 4 32 Try.underlying30 u1 u2 u3 u4 rfl (by decide) va r _ rfl OO ⟨_, 0, none⟩ 1 1 [.int .i64 a, .int .i64 (1 + d), .int .i64 b, .int .i64 (b + z)] rfl (by decide) rfl ?e1 ?e2 ?e3 ?e4 ?e5 ?_)
            case e1 =>
              intro j u hj
              rw [addr_add]
              exact (Blk.new (vs := [.int .i64 a, .int .i64 (1 + d), .int .i64 b, .int .i64 (b + z)]) (by simp [World.size_alloc])).cell j hj
            case e2 => intro u hu; simp at hu; rcases hu with rfl | rfl | rfl | rfl <;> rfl
            case e3 => unfold maxLen; omega
            case e4 => omega
            case e5 => exact OS
            intro v' w9 ho hgr hd
            have LL : Hid (Lq w0 wk w9 sb p m c f 44 4 v' (r + 1) (flat (r + 1) 4 (itC (upd I r ⟨a, 1 + d, b, (b + z)⟩)))) := by
              show Lq _ _ _ _ _ _ _ _ _ _ _ _ _
              rw [EV.out]; exact LG.out.appended ho hgr hd
            clear ho hgr hd LG OO EV t0 t1 t2 t3
            go_wp2_with fail
            go_roundg (i' + 1)
            case measure => omega
            case rel => exact ⟨i', r + 1, _, _, by go_num, rfl, by omega, by omega, NO, LL⟩
        · have hltz : ¬ (0 : Int) < (i : Int) := by omega
          obtain rfl : k0 = r := by omega
          have BF : Hid (But sb w wz) := BJ.out.trans (BO.out.trans (BK.out.trans S.out.fr))
          have OF : Hid (wz.ownsRow w.heap.size 42 2 (.slice tq i0 tcap) i0 (flat i0 2 (trC x))) := own_base (own_move OT.out fun b hb => (BK.out.trans S.out.fr).block b (OT.out.lt b hb).2 (by have := (OT.out.lt b hb).1; have := hsb.out; have := BJ.out.size; omega)) BJ.out.size
          have OU : Hid (wz.ownsRow w.heap.size 44 4 va k0 (flat k0 4 (itC I))) := own_base S.out.own (Nat.le_trans BJ.out.size (Nat.le_trans BO.out.size BK.out.size))
          have SF := hide S.out.sr
          have HXI := hide HX.out
          clear S HX
          go_wp2_with fail
          go_ret2
          exact ⟨_, _, rfl, i0, ⟨by omega, by omega⟩, k0, by omega, x, HTX.out, I, HXI.out, OF.out, OU.out, BF.out, SF.out⟩
end Go.Proofs.Ytdoenkngmgclmaa
