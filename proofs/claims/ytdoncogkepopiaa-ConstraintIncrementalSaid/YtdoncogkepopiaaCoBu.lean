/- The constraints that the laws build from a list of numbers: all in range; no condition. -/
import Derived.Test.YtdoncogkepopiaaCoM
import Derived.Test.YtdoncogkepopiaaRdB
import Derived.Test.YtdoncogkepopiaaMixF
namespace Go.Proofs.Ytdoncogkepopiaa
open Go.RowKit Go.Sort
set_option linter.unusedVariables false
set_option linter.unusedSimpArgs false

theorem info_cnB : (Try.prog.info? 40).map (fun i => (i.zero, i.size, i.bytes)) = some (some (.agg #[.int .i64 0, .int .i64 0, .int .i64 0, .int .i64 0, .int .i64 0]), 5, 40) := by kernel_rfl
theorem info_partsU {i : Option TypeInfo} {z : Value} {n m : Nat} (h : i.map (fun i => (i.zero, i.size, i.bytes)) = some (some z, n, m)) : ∃ j, i = some j ∧ j.zero = some z ∧ j.size = n ∧ j.bytes = m := by
  cases i with
  | none => simp at h
  | some j => simp at h; exact ⟨j, rfl, h.1, h.2.1, h.2.2⟩
def czL : List Value := [.int .i64 0, .int .i64 1, .int .i64 5, .int .i64 10, .int .i64 10, .int .i64 (-10), .int .i64 20, .int .i64 (-3), .int .i64 1048576, .int .i64 (-1048576)]
def czF (k : Nat) : Int := match k with
  | 0 => 0
  | 1 => 1
  | 2 => 5
  | 3 => 10
  | 4 => 10
  | 5 => -10
  | 6 => 20
  | 7 => -3
  | 8 => 1048576
  | _ => -1048576
theorem cz_get {k : Nat} (h : k < 10) : czL[k]? = some (.int .i64 (czF k)) := by
  rcases (show k = 0 ∨ k = 1 ∨ k = 2 ∨ k = 3 ∨ k = 4 ∨ k = 5 ∨ k = 6 ∨ k = 7 ∨ k = 8 ∨ k = 9 by omega) with rfl | rfl | rfl | rfl | rfl | rfl | rfl | rfl | rfl | rfl <;> rfl
theorem cz_bd (k : Nat) : -1048576 ≤ czF k ∧ czF k ≤ 1048576 := by
  unfold czF
  split <;> decide
theorem Range_neg (w0 w : World) (sb m c : Nat) (p : Option Addr) (f : Nat → Int) (lo hi : Int) (H : SR w0 w sb p m c f) (h1 : -4 ≤ lo) (h2 : lo ≤ hi) (h3 : hi ≤ 1048570) :
    Calls Try.prog 15 #[.pointer (some ⟨sb, 0, none⟩), .int .i64 lo, .int .i64 hi] w fun e w' => ∃ x : Int, e = .returned (.int .i64 x) ∧ (lo ≤ x ∧ x ≤ hi) ∧ But sb w w' ∧ SR w0 w' sb p m c f := by
  have KN := hide (N_any w0 w sb m c p f (hi - lo + 1) H (by omega) (by omega))
  have wa : IntKind.i64.wrap (hi - lo) = hi - lo := wr (by omega) (by omega)
  have wb : IntKind.i64.wrap (hi - lo + 1) = hi - lo + 1 := wr (by omega) (by omega)
  clear H
  go_enter Try.func15, Try.ntmps15
  go_wp2_with fail
  refine KN.out.mono ?_
  rintro e w' ⟨x, rfl, ⟨x1, x2⟩, q, SS⟩
  have wc : IntKind.i64.wrap (lo + x) = lo + x := wr (by omega) (by omega)
  have q := hide q
  have SS := hide SS
  go_wp2_with fail
  go_ret
  exact ⟨lo + x, rfl, by omega, q.out, SS.out⟩
structure Lq (w0 wj W : World) (sb : Nat) (p : Option Addr) (m c : Nat) (f : Nat → Int) (T : TypeId) (sz : Nat) (v : Value) (n : Nat) (xs : List Value) : Prop where
  sr : SR w0 W sb p m c f
  fr : But sb wj W
  own : W.ownsRow wj.heap.size T sz v n xs
  lt : sb < wj.heap.size
section
variable {w0 wj W W' : World} {sb m c : Nat} {p : Option Addr} {f : Nat → Int} {T : TypeId} {sz n : Nat} {v : Value} {xs : List Value}
theorem Lq.but (h : Lq w0 wj W sb p m c f T sz v n xs) (k : But sb W W') (s : SR w0 W' sb p m c f) : Lq w0 wj W' sb p m c f T sz v n xs :=
  ⟨s, h.fr.trans k, own_move h.own fun b hb => k.block b (h.own.lt b hb).2 (by have := (h.own.lt b hb).1; have := h.lt; omega), h.lt⟩
theorem Lq.grew (h : Lq w0 wj W sb p m c f T sz v n xs) (k : Grew W W') : Lq w0 wj W' sb p m c f T sz v n xs := h.but (But.of_grew k) (h.sr.grew k)
theorem Lq.setf (h : Lq w0 wj W sb p m c f T sz v n xs) {tb : Nat} (i : Nat) (u : Value) (h1 : wj.heap.size ≤ tb) (h2 : v.ownBlock ≠ some tb) : Lq w0 wj (W.setCell ⟨tb, i, none⟩ u) sb p m c f T sz v n xs := by
  have hlt := h.lt
  have hlo := h.sr.lo
  refine ⟨h.sr.same (h.sr.g.setCell (p := ⟨tb, i, none⟩) (by show w0.heap.size ≤ tb; omega) u) (heap_setCell_other W ⟨tb, i, none⟩ sb u (by show sb ≠ tb; omega)), ⟨h.fr.os, h.fr.tape, h.fr.output, by simpa using h.fr.size, h.fr.drawn, fun k hk hb => (heap_setCell_other W ⟨tb, i, none⟩ k u (by show k ≠ tb; omega)).trans (h.fr.block k hk hb)⟩, own_move h.own fun b hb => heap_setCell_other W ⟨tb, i, none⟩ b u (by show b ≠ tb; intro e; subst e; exact h2 hb), hlt⟩
theorem Lq.appended {v' : Value} {n' : Nat} {xs' : List Value} (h : Lq w0 wj W sb p m c f T sz v n xs) (ho : W'.ownsRow wj.heap.size T sz v' n' xs') (hg : W.grownBy W' v.ownBlock) (hd : W.drawn ≤ W'.drawn) : Lq w0 wj W' sb p m c f T sz v' n' xs' := by
  have hrow : ∀ k, v.ownBlock = some k → wj.heap.size ≤ k := own_lt h.own
  have hlt := h.lt
  have hlo := h.sr.lo
  have hsz := h.fr.size
  refine ⟨h.sr.same (h.sr.g.appended hg hd fun k hk => by have := hrow k hk; omega) (hg.block sb (by omega) fun e => by have := hrow sb e.symm; omega), ⟨hg.os.trans h.fr.os, hg.tape.trans h.fr.tape, hg.output.trans h.fr.output, Nat.le_trans h.fr.size hg.size, Nat.le_trans h.fr.drawn hd, fun k hk hb => (hg.block k (by omega) fun e => by have := hrow k e.symm; omega).trans (h.fr.block k hk hb)⟩, ho, hlt⟩
end
set_option maxRecDepth 100000 in
set_option maxHeartbeats 16000000 in
theorem cbuild_any (w0 w : World) (sb m c vars nn : Nat) (p : Option Addr) (f : Nat → Int) (H : SR w0 w sb p m c f) (hv : 1 ≤ vars ∧ vars ≤ 64) (hnn : nn ≤ 100) :
    Calls Try.prog 16 #[.pointer (some ⟨sb, 0, none⟩), .int .i64 (vars : Int), .int .i64 (nn : Int)] w fun e w' => ∃ (v : Value) (n : Nat) (l : Nat → Cn), e = .returned v ∧ n ≤ nn ∧ (∀ j, j < n → okC vars (l j)) ∧ w'.ownsRow w.heap.size 40 5 v n (flat n 5 (cnC l)) ∧ But sb w w' ∧ SR w0 w' sb p m c f := by
  obtain ⟨it, i1, i2, i3, i4⟩ := info_partsU info_cnB
  have HS := hide H
  have hsb : Hid (sb < w.heap.size) := by obtain ⟨t, _, k⟩ := H.src; exact k.lt
  obtain ⟨hv1, hv2⟩ := hv
  have wn : IntKind.i64.wrap ((nn : Int) + 1) = (nn : Int) + 1 := wr (by omega) (by omega)
  have wv : IntKind.i64.wrap ((vars : Int) - 1) = (vars : Int) - 1 := wr (by omega) (by omega)
  have KR := hide (N_any w0 w sb m c p f ((nn : Int) + 1) H (by omega) (by omega))
  clear H
  go_enter Try.func16, Try.ntmps16
  go_wp2_with fail
  refine KR.out.mono ?_
  rintro e wj ⟨y, rfl, ⟨y1, y2⟩, q, SS⟩
  obtain ⟨i0, rfl⟩ : ∃ i0 : Nat, y = (i0 : Int) := ⟨y.toNat, by omega⟩
  have hi2 : i0 ≤ nn := by omega
  have BJ := hide q
  have L0 : Hid (Lq w0 wj wj sb p m c f 40 5 (.slice none 0 0) 0 (flat 0 5 (cnC (fun _ => ⟨0, 0, 0, 0, 0⟩)))) := ⟨SS, But.refl _ _, World.ownsRow_nil _ _ _ _, Nat.lt_of_lt_of_le hsb.out q.size⟩
  clear SS q KR y1 y2 wn
  go_wp2_with fail
  go_loopg [7, 8] 102 (fun gh va vi wr => ∃ (i n : Nat) (v : Value) (x : Nat → Cn), vi = .int .i64 (i : Int) ∧ v = va ∧ i + n = i0 ∧ i < gh ∧ Hid (∀ j, j < n → okC vars (x j)) ∧ Hid (Lq w0 wj wr sb p m c f 40 5 v n (flat n 5 (cnC x))))
  case atStart => exact ⟨i0, 0, _, _, by go_num, rfl, by omega, by omega, fun j hj => absurd hj (by omega), L0⟩
  case round =>
    clear L0
    obtain ⟨wo, rfl⟩ : ∃ wo : World, wo = wr := ⟨_, rfl⟩
    obtain ⟨i, n, va, x, rfl, rfl, hi, hg, HX, S⟩ := hrel
    by_cases hlt : 0 < i
    case neg =>
      have hltz : ¬ (0 : Int) < (i : Int) := by omega
      obtain rfl : i0 = n := by omega
      have BF : Hid (But sb w wo) := BJ.out.trans S.out.fr
      have OU : Hid (wo.ownsRow w.heap.size 40 5 va i0 (flat i0 5 (cnC x))) := own_base S.out.own BJ.out.size
      have SF := hide S.out.sr
      have HXI := hide HX.out
      clear S HX
      go_wp2_with fail
      go_ret
      exact ⟨_, rfl, i0, hi2, x, HXI.out, OU.out, BF.out, SF.out⟩
    have hltz : (0 : Int) < (i : Int) := by omega
    obtain ⟨i', rfl⟩ : ∃ i', i = i' + 1 := ⟨i - 1, by omega⟩
    have hi1 : ((i' + 1 : Nat) : Int) - 1 = (i' : Int) := by omega
    have KA := hide (Range_neg w0 wo sb m c p f (-1) ((vars : Int) - 1) S.out.sr (by decide) (by omega) (by omega))
    go_wp2_with fail
    refine KA.out.mono ?_
    rintro e w1 ⟨a, rfl, ⟨a1, a2⟩, q, SS⟩
    have L1 := hide (S.out.but q SS)
    have KB := hide (Range_neg w0 w1 sb m c p f (-1) ((vars : Int) - 1) L1.out.sr (by decide) (by omega) (by omega))
    clear q SS KA S
    go_wp2_with fail
    refine KB.out.mono ?_
    rintro e w2 ⟨b, rfl, ⟨b1, b2⟩, q, SS⟩
    have L2 := hide (L1.out.but q SS)
    have KC := hide (N_any w0 w2 sb m c p f 3 L2.out.sr (by decide) (by decide))
    clear q SS KB L1
    go_wp2_with fail
    refine KC.out.mono ?_
    rintro e w3 ⟨r, rfl, ⟨r1, r2⟩, q, SS⟩
    have L3 := hide (L2.out.but q SS)
    have KD := hide (N_any w0 w3 sb m c p f 4 L3.out.sr (by decide) (by decide))
    clear q SS KC L2
    go_wp2_with fail
    refine KD.out.mono ?_
    rintro e w4 ⟨s, rfl, ⟨s1, s2⟩, q, SS⟩
    have L4 := hide (L3.out.but q SS)
    clear q SS KD L3
    have NT : Hid (wj.heap.size ≤ w4.heap.size ∧ va.ownBlock ≠ some w4.heap.size ∧ w4.heap.size ≠ sb) := ⟨L4.out.fr.size, fun e => by have := (L4.out.own.lt _ e).2; omega, by have := L4.out.lt; have := L4.out.fr.size; omega⟩
    have T5 : Hid (Blk (w4.alloc (.cells #[.int .i64 a, .int .i64 b, .int .i64 r, .int .i64 0, .int .i64 s] 40)) w4.heap.size 40 [.int .i64 a, .int .i64 b, .int .i64 r, .int .i64 0, .int .i64 s]) := Blk.new rfl
    have L5 := hide (L4.out.grew ((Grew.refl _).alloc (.cells #[.int .i64 a, .int .i64 b, .int .i64 r, .int .i64 0, .int .i64 s] 40)))
    have KE := hide (N_any w0 _ sb m c p f 4 L5.out.sr (by decide) (by decide))
    clear L4
    go_wp2_with fail
    refine KE.out.mono ?_
    generalize w4.alloc (.cells #[.int .i64 a, .int .i64 b, .int .i64 r, .int .i64 0, .int .i64 s] 40) = w5 at *
    generalize w4.heap.size = tb at *
    rintro e w6 ⟨o, rfl, ⟨o1, o2⟩, q, SS⟩
    have L6 := hide (L5.out.but q SS)
    have T6 := hide (q.blk T5.out NT.out.2.2)
    clear q SS KE L5 T5
    by_cases ho : 0 < o
    · have KF := hide (Range_neg w0 w6 sb m c p f 1 3 L6.out.sr (by decide) (by decide) (by decide))
      go_wp2_with fail
      refine KF.out.mono ?_
      rintro e w7 ⟨st, rfl, ⟨st1, st2⟩, q, SS⟩
      have L7 := hide (L6.out.but q SS)
      have T7 := hide (q.blk T6.out NT.out.2.2)
      clear q SS KF L6 T6
      have y1 := T7.out.cell 4 rfl
      have y2 := T7.out.free 4
      have L8 := hide (L7.out.setf 4 (.int .i64 st) NT.out.1 NT.out.2.1)
      have T8 : Hid (Blk (w7.setCell ⟨tb, 4, none⟩ (.int .i64 st)) tb 40 [.int .i64 a, .int .i64 b, .int .i64 r, .int .i64 0, .int .i64 st]) := T7.out.set_as 4 _ rfl
      have Z8 : Hid ((w7.setCell ⟨tb, 4, none⟩ (.int .i64 st)).heap.size = w7.heap.size) := by
        show _ = _
        simp [World.setCell]
      clear L7 T7
      have L9 := hide (L8.out.grew ((Grew.refl _).alloc (.cells #[.int .i64 0, .int .i64 1, .int .i64 5, .int .i64 10, .int .i64 10, .int .i64 (-10), .int .i64 20, .int .i64 (-3), .int .i64 1048576, .int .i64 (-1048576)] 3)))
      have T9 := hide (T8.out.alloc (.cells #[.int .i64 0, .int .i64 1, .int .i64 5, .int .i64 10, .int .i64 10, .int .i64 (-10), .int .i64 20, .int .i64 (-3), .int .i64 1048576, .int .i64 (-1048576)] 3))
      have X9 : Hid (Blk ((w7.setCell ⟨tb, 4, none⟩ (.int .i64 st)).alloc (.cells #[.int .i64 0, .int .i64 1, .int .i64 5, .int .i64 10, .int .i64 10, .int .i64 (-10), .int .i64 20, .int .i64 (-3), .int .i64 1048576, .int .i64 (-1048576)] 3)) w7.heap.size 3 czL) := by
        rw [← Z8.out]
        exact Blk.new rfl
      have KG := hide (N_any w0 _ sb m c p f 10 L9.out.sr (by decide) (by decide))
      have XN : Hid (w7.heap.size ≠ sb ∧ w7.heap.size ≠ tb) := by
        have a1 := L8.out.lt
        have a2 := L8.out.fr.size
        have a3 := T8.out.lt
        rw [Z8.out] at a2 a3
        exact ⟨by omega, by omega⟩
      clear L8 T8
      go_wp2_with fail
      refine KG.out.mono ?_
      generalize (w7.setCell ⟨tb, 4, none⟩ (.int .i64 st)).alloc (.cells #[.int .i64 0, .int .i64 1, .int .i64 5, .int .i64 10, .int .i64 10, .int .i64 (-10), .int .i64 20, .int .i64 (-3), .int .i64 1048576, .int .i64 (-1048576)] 3) = w9 at *
      clear Z8
      generalize w7.heap.size = xb at *
      rintro e w10 ⟨y, rfl, ⟨y1, y2⟩, q, SS⟩
      obtain ⟨k0, rfl⟩ : ∃ k0 : Nat, y = (k0 : Int) := ⟨y.toNat, by omega⟩
      have hk0 : k0 < 10 := by omega
      have hk1 : (0 : Int) ≤ (k0 : Int) := by omega
      have LA := hide (L9.out.but q SS)
      have TA := hide (q.blk T9.out NT.out.2.2)
      have XA := hide (q.blk X9.out XN.out.1)
      clear q SS KG L9 T9 X9
      have x1 := XA.out.cell k0 (cz_get hk0)
      have CB := hide (cz_bd k0)
      generalize czF k0 = cc at *
      have t3 := TA.out.cell 3 rfl
      have f3 := TA.out.free 3
      have LB := hide (LA.out.setf 3 (.int .i64 cc) NT.out.1 NT.out.2.1)
      have TB : Hid (Blk (w10.setCell ⟨tb, 3, none⟩ (.int .i64 cc)) tb 40 [.int .i64 a, .int .i64 b, .int .i64 r, .int .i64 cc, .int .i64 st]) := TA.out.set_as 3 _ rfl
      have ev : flat (n + 1) 5 (cnC (upd x n ⟨a, b, r, cc, st⟩)) = flat n 5 (cnC x) ++ [.int .i64 a, .int .i64 b, .int .i64 r, .int .i64 cc, .int .i64 st] := by
        rw [flat_succ]
        congr 1
        · exact flat_congr fun i' hi' j => by
            have : upd x n ⟨a, b, r, cc, st⟩ i' = x i' := by simp [upd, Nat.ne_of_lt hi']
            unfold cnC; rw [this]
        · simp [upd, cnC, List.range_succ]
      have EV := hide ev
      have NO : Hid (∀ j, j < n + 1 → okC vars (upd x n ⟨a, b, r, cc, st⟩ j)) := fun j hj => by
        by_cases h : j = n
        · subst h
          have := CB.out
          simp only [upd, if_true]
          refine ⟨⟨⟨?_, ?_⟩, ?_, ?_⟩, ⟨?_, ?_⟩, ⟨?_, ?_⟩, ?_, ?_⟩ <;> dsimp only <;> omega
        · simp only [upd, if_neg h]; exact HX.out j (by omega)
      clear LA TA XA ev
      have t0 := TB.out.cell 0 rfl
      have t1 := TB.out.cell 1 rfl
      have t2 := TB.out.cell 2 rfl
      have u3 := TB.out.cell 3 rfl
      have t4 := TB.out.cell 4 rfl
      have LG := hide (LB.out.grew ((Grew.refl _).alloc (.cells #[.int .i64 a, .int .i64 b, .int .i64 r, .int .i64 cc, .int .i64 st] 40)))
      have OO := LG.out.own
      have OS := LG.out.fr.size
      go_wp2_with (at_builtin; refine wpList_append_drawn _ rfl _ _ 22 rfl wj.heap.size 40 it _ 5 40 Try.underlying22 i1 i2 i3 i4 rfl (by decide) va n _ rfl OO ⟨_, 0, none⟩ 1 1 [.int .i64 a, .int .i64 b, .int .i64 r, .int .i64 cc, .int .i64 st] rfl (by decide) rfl ?c1 ?c2 ?c3 ?c4 ?c5 ?_)
      case c1 =>
        intro j u hj
        rw [addr_add]
        exact (Blk.new (vs := [.int .i64 a, .int .i64 b, .int .i64 r, .int .i64 cc, .int .i64 st]) (by simp [World.size_alloc])).cell j hj
      case c2 => intro u hu; simp at hu; rcases hu with rfl | rfl | rfl | rfl | rfl <;> rfl
      case c3 => unfold maxLen; omega
      case c4 => omega
      case c5 => exact OS
      intro v' wc ho' hgr hd
      have L6 : Hid (Lq w0 wj wc sb p m c f 40 5 v' (n + 1) (flat (n + 1) 5 (cnC (upd x n ⟨a, b, r, cc, st⟩)))) := by
        show Lq _ _ _ _ _ _ _ _ _ _ _ _ _
        rw [EV.out]; exact LG.out.appended ho' hgr hd
      clear ho' hgr hd LG OO EV t0 t1 t2 u3 t4 t3 f3 x1 OS LB TB
      go_wp2_with fail
      go_roundg (i' + 1)
      case measure => omega
      case rel => exact ⟨i', n + 1, _, _, by go_num, rfl, by omega, by omega, NO, L6⟩
    · have Z8 : Hid (w6.heap.size = w6.heap.size) := rfl
      have L9 := hide (L6.out.grew ((Grew.refl _).alloc (.cells #[.int .i64 0, .int .i64 1, .int .i64 5, .int .i64 10, .int .i64 10, .int .i64 (-10), .int .i64 20, .int .i64 (-3), .int .i64 1048576, .int .i64 (-1048576)] 3)))
      have T9 := hide (T6.out.alloc (.cells #[.int .i64 0, .int .i64 1, .int .i64 5, .int .i64 10, .int .i64 10, .int .i64 (-10), .int .i64 20, .int .i64 (-3), .int .i64 1048576, .int .i64 (-1048576)] 3))
      have X9 : Hid (Blk (w6.alloc (.cells #[.int .i64 0, .int .i64 1, .int .i64 5, .int .i64 10, .int .i64 10, .int .i64 (-10), .int .i64 20, .int .i64 (-3), .int .i64 1048576, .int .i64 (-1048576)] 3)) w6.heap.size 3 czL) := by
        rw [← Z8.out]
        exact Blk.new rfl
      have KG := hide (N_any w0 _ sb m c p f 10 L9.out.sr (by decide) (by decide))
      have XN : Hid (w6.heap.size ≠ sb ∧ w6.heap.size ≠ tb) := by
        have a1 := L6.out.lt
        have a2 := L6.out.fr.size
        have a3 := T6.out.lt
        rw [Z8.out] at a2 a3
        exact ⟨by omega, by omega⟩
      clear L6 T6
      go_wp2_with fail
      refine KG.out.mono ?_
      generalize w6.alloc (.cells #[.int .i64 0, .int .i64 1, .int .i64 5, .int .i64 10, .int .i64 10, .int .i64 (-10), .int .i64 20, .int .i64 (-3), .int .i64 1048576, .int .i64 (-1048576)] 3) = w9 at *
      clear Z8
      generalize w6.heap.size = xb at *
      rintro e w10 ⟨y, rfl, ⟨y1, y2⟩, q, SS⟩
      obtain ⟨k0, rfl⟩ : ∃ k0 : Nat, y = (k0 : Int) := ⟨y.toNat, by omega⟩
      have hk0 : k0 < 10 := by omega
      have hk1 : (0 : Int) ≤ (k0 : Int) := by omega
      have LA := hide (L9.out.but q SS)
      have TA := hide (q.blk T9.out NT.out.2.2)
      have XA := hide (q.blk X9.out XN.out.1)
      clear q SS KG L9 T9 X9
      have x1 := XA.out.cell k0 (cz_get hk0)
      have CB := hide (cz_bd k0)
      generalize czF k0 = cc at *
      have t3 := TA.out.cell 3 rfl
      have f3 := TA.out.free 3
      have LB := hide (LA.out.setf 3 (.int .i64 cc) NT.out.1 NT.out.2.1)
      have TB : Hid (Blk (w10.setCell ⟨tb, 3, none⟩ (.int .i64 cc)) tb 40 [.int .i64 a, .int .i64 b, .int .i64 r, .int .i64 cc, .int .i64 s]) := TA.out.set_as 3 _ rfl
      have ev : flat (n + 1) 5 (cnC (upd x n ⟨a, b, r, cc, s⟩)) = flat n 5 (cnC x) ++ [.int .i64 a, .int .i64 b, .int .i64 r, .int .i64 cc, .int .i64 s] := by
        rw [flat_succ]
        congr 1
        · exact flat_congr fun i' hi' j => by
            have : upd x n ⟨a, b, r, cc, s⟩ i' = x i' := by simp [upd, Nat.ne_of_lt hi']
            unfold cnC; rw [this]
        · simp [upd, cnC, List.range_succ]
      have EV := hide ev
      have NO : Hid (∀ j, j < n + 1 → okC vars (upd x n ⟨a, b, r, cc, s⟩ j)) := fun j hj => by
        by_cases h : j = n
        · subst h
          have := CB.out
          simp only [upd, if_true]
          refine ⟨⟨⟨?_, ?_⟩, ?_, ?_⟩, ⟨?_, ?_⟩, ⟨?_, ?_⟩, ?_, ?_⟩ <;> dsimp only <;> omega
        · simp only [upd, if_neg h]; exact HX.out j (by omega)
      clear LA TA XA ev
      have t0 := TB.out.cell 0 rfl
      have t1 := TB.out.cell 1 rfl
      have t2 := TB.out.cell 2 rfl
      have u3 := TB.out.cell 3 rfl
      have t4 := TB.out.cell 4 rfl
      have LG := hide (LB.out.grew ((Grew.refl _).alloc (.cells #[.int .i64 a, .int .i64 b, .int .i64 r, .int .i64 cc, .int .i64 s] 40)))
      have OO := LG.out.own
      have OS := LG.out.fr.size
      go_wp2_with (at_builtin; refine wpList_append_drawn _ rfl _ _ 22 rfl wj.heap.size 40 it _ 5 40 Try.underlying22 i1 i2 i3 i4 rfl (by decide) va n _ rfl OO ⟨_, 0, none⟩ 1 1 [.int .i64 a, .int .i64 b, .int .i64 r, .int .i64 cc, .int .i64 s] rfl (by decide) rfl ?c1 ?c2 ?c3 ?c4 ?c5 ?_)
      case c1 =>
        intro j u hj
        rw [addr_add]
        exact (Blk.new (vs := [.int .i64 a, .int .i64 b, .int .i64 r, .int .i64 cc, .int .i64 s]) (by simp [World.size_alloc])).cell j hj
      case c2 => intro u hu; simp at hu; rcases hu with rfl | rfl | rfl | rfl | rfl <;> rfl
      case c3 => unfold maxLen; omega
      case c4 => omega
      case c5 => exact OS
      intro v' wc ho' hgr hd
      have L6 : Hid (Lq w0 wj wc sb p m c f 40 5 v' (n + 1) (flat (n + 1) 5 (cnC (upd x n ⟨a, b, r, cc, s⟩)))) := by
        show Lq _ _ _ _ _ _ _ _ _ _ _ _ _
        rw [EV.out]; exact LG.out.appended ho' hgr hd
      clear ho' hgr hd LG OO EV t0 t1 t2 u3 t4 t3 f3 x1 OS LB TB
      go_wp2_with fail
      go_roundg (i' + 1)
      case measure => omega
      case rel => exact ⟨i', n + 1, _, _, by go_num, rfl, by omega, by omega, NO, L6⟩
end Go.Proofs.Ytdoncogkepopiaa
