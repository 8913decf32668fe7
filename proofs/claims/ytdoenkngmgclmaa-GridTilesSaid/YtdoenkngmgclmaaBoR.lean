/- What Resolve of the reference of package box returns where all numbers are in range: the sizes that the rounds give; no other condition. -/
import Derived.Test.YtdoenkngmgclmaaBoBa
import Derived.Deep.Cut
import Derived.Deep.CutRange
import Derived.Deep.CutBlock
namespace Go.Proofs.Ytdoenkngmgclmaa
open Go.RowKit Go.Sort
set_option linter.unusedVariables false
set_option linter.unusedSimpArgs false

theorem wanted_free {o : Oper} {y : Nat → Option Bool} (hg : o.guard = none) : Region.wanted o y = true := by unfold Region.wanted; rw [hg]
theorem wanted_no {o : Oper} {ops : Array Oper} {tmps : Array Value} {j d : Nat} {b : Bool} (hg : o.guard = some (j, b)) (hd : (ops[j]?).bind (·.dst) = some d) (hv : tmps[d]? = some (.bool (!b))) : Region.wanted o (yielded ops tmps) = false := by
  unfold Region.wanted yielded
  rw [hg]
  simp only [hd, Option.bind_some, hv]
  cases b <;> rfl
theorem wanted_yes {o : Oper} {ops : Array Oper} {tmps : Array Value} {j d : Nat} {b : Bool} (hg : o.guard = some (j, b)) (hd : (ops[j]?).bind (·.dst) = some d) (hv : tmps[d]? = some (.bool b)) : Region.wanted o (yielded ops tmps) = true := by
  unfold Region.wanted yielded
  rw [hg]
  simp only [hd, Option.bind_some, hv]
  cases b <;> rfl
theorem wanted_un {o : Oper} {ops : Array Oper} {tmps : Array Value} {j d : Nat} {b : Bool} (hg : o.guard = some (j, b)) (hd : (ops[j]?).bind (·.dst) = some d) (hv : tmps[d]? = some undef) : Region.wanted o (yielded ops tmps) = false := by
  unfold Region.wanted yielded
  rw [hg]
  simp only [hd, Option.bind_some, hv]
  rfl
theorem cut_same {α : Type} {a b : Nat → α} {i : Nat} (h : a i = b i) : (fun j => if j < i + 1 then a j else b j) = (fun j => if j < i then a j else b j) := by
  funext j
  by_cases h1 : j = i
  · subst h1; simp [h]
  · by_cases h2 : j < i
    · simp [h2, show j < i + 1 by omega]
    · simp [h2, show ¬ j < i + 1 by omega]
theorem cut_set {α : Type} {a b : Nat → α} {i : Nat} : (fun j => if j < i + 1 then a j else b j) = (fun j => if j = i then a i else if j < i then a j else b j) := by
  funext j
  by_cases h1 : j = i
  · subst h1; simp
  · by_cases h2 : j < i
    · simp [h1, h2, show j < i + 1 by omega]
    · simp [h1, h2, show ¬ j < i + 1 by omega]
theorem rk_congr {y z : Nat → Bool} : ∀ {n : Nat}, (∀ i, i < n → y i = z i) → rk y n = rk z n
  | 0, _ => rfl
  | n + 1, h => by simp only [rk, rk_congr (n := n) fun i hi => h i (by omega), h n (by omega)]
theorem rk_set {z : Nat → Bool} : ∀ {n i : Nat}, i < n → z i = false → rk (fun j => if j = i then true else z j) n + 1 = rk z n
  | n + 1, i, hi, hz => by
    simp only [rk]
    by_cases h : i = n
    · subst h
      rw [rk_congr (y := fun j => if j = i then true else z j) (z := z) fun j hj => by simp [show j ≠ i by omega]]
      simp [hz]
    · have := rk_set (n := n) (i := i) (by omega) hz
      simp only [show (n = i) = False by simp; omega, if_false]
      omega
set_option maxHeartbeats 40000000 in
set_option maxRecDepth 100000 in
theorem rResolve_ok (av gap : Int) (p : Option Addr) (n c : Nat) (x : Nat → Fx) (w : World) (hr : SRow w p n 5 (fxC x)) (hn : n ≤ 100) (hav : 0 ≤ av ∧ av ≤ 1048576) (hgap : 0 ≤ gap ∧ gap ≤ 1048576) (hx : ∀ i, i < n → okF (x i)) :
    Calls Try.prog 40 #[.int .i64 av, .int .i64 gap, .slice p n c] w fun e w' => ∃ b, e = .returned (.tuple #[.slice (some ⟨b, 0, none⟩) n n, .int .i64 0]) ∧ w.heap.size ≤ b ∧ IRow w' b n (resF av gap x n) ∧ Below w.heap.size w w' := by
  have HR := hide hr
  have HX := hide hx
  have L1 := fun W => hide (rlength_any av W)
  have L2 := fun W => hide (rlength_any gap W)
  have e1 : lenB av = true := decide_eq_true hav
  have e2 : lenB gap = true := decide_eq_true hgap
  rw [e1] at L1
  rw [e2] at L2
  have hz : ¬ (100 : Int) < (n : Int) := by omega
  clear hr hx e1 e2
  go_enter Try.func40, Try.ntmps40
  go_wp2_with fail
  refine (L1 _).out.mono ?_
  rintro e w' ⟨rfl, rfl⟩
  go_wp2_with fail
  refine (L2 _).out.mono ?_
  rintro e w' ⟨rfl, rfl⟩
  go_wp2_with fail
  clear L1 L2
  go_loopg [8] (n + 1) (fun g1 vk wr => ∃ k : Nat, vk = .int .i64 (k : Int) ∧ k ≤ n ∧ n - k < g1 ∧ Hid (Below w.heap.size w wr))
  case atStart => exact ⟨0, by go_num, by omega, by omega, Below.refl _ _⟩
  case round =>
    obtain ⟨wo, rfl⟩ : ∃ wo : World, wo = wr := ⟨_, rfl⟩
    obtain ⟨k, rfl, hk, hg, B⟩ := hrel
    by_cases hlt : k < n
    · as_aux_lemma =>
      have hltz : (k : Int) < (n : Int) := by omega
      obtain ⟨b, off, rfl, hb, hc⟩ := (HR.out.below B.out) (by omega)
      have o0 := HX.out k hlt
      have M1 := fun W => hide (rlength_any (x k).ba W)
      have M2 := fun W => hide (rlength_any (x k).mn W)
      have M3 := fun W => hide (rlength_any (x k).mx W)
      have e1 : lenB (x k).ba = true := decide_eq_true o0.1
      have e2 : lenB (x k).mn = true := decide_eq_true o0.2.1
      have e3 : lenB (x k).mx = true := decide_eq_true o0.2.2.1
      rw [e1] at M1
      rw [e2] at M2
      rw [e3] at M3
      have o4 := o0.2.2.2.1
      have o5 := o0.2.2.2.2
      have c0 : wo.cell? ⟨b, off + k * 5, none⟩ = some (.int .i64 (x k).ba) := hc k hlt 0 (by decide)
      have c1 : wo.cell? ⟨b, off + k * 5 + 1, none⟩ = some (.int .i64 (x k).mn) := hc k hlt 1 (by decide)
      have c2 : wo.cell? ⟨b, off + k * 5 + 2, none⟩ = some (.int .i64 (x k).mx) := hc k hlt 2 (by decide)
      have c3 : wo.cell? ⟨b, off + k * 5 + 3, none⟩ = some (.int .i64 (x k).gr) := hc k hlt 3 (by decide)
      have c4 : wo.cell? ⟨b, off + k * 5 + 4, none⟩ = some (.int .i64 (x k).sh) := hc k hlt 4 (by decide)
      have B' : Hid (∀ o, Below w.heap.size w (wo.alloc o)) := fun o => B.out.alloc B.out.size o
      clear e1 e2 e3 o0 hc hb B
      generalize (x k).ba = x0 at *
      generalize (x k).mn = x1 at *
      generalize (x k).mx = x2 at *
      generalize (x k).gr = x3 at *
      generalize (x k).sh = x4 at *
      obtain ⟨o41, o42⟩ := o4
      obtain ⟨o51, o52⟩ := o5
      go_wp2_with fail
      refine (M1 _).out.mono ?_
      rintro e w' ⟨rfl, rfl⟩
      go_wp2_with fail
      refine (M2 _).out.mono ?_
      rintro e w' ⟨rfl, rfl⟩
      go_wp2_with fail
      refine (M3 _).out.mono ?_
      rintro e w' ⟨rfl, rfl⟩
      go_wp2_with fail
      go_roundg (n - k)
      case measure => omega
      case rel => exact ⟨k + 1, by go_num, by omega, by omega, B'.out _⟩
    · as_aux_lemma =>
      have hltz : ¬ (k : Int) < (n : Int) := by omega
      obtain rfl : n = k := by omega
      have B1 := hide B.out
      clear B hk hg hlt
      generalize wo = w1 at *
      have hmk : ∀ W : World, (Instr.makeSlice 22 (.int .i64 (n : Int)) (.int .i64 (n : Int))).run Try.prog W = .ok (.slice (some ⟨W.heap.size, 0, none⟩) n n) (W.alloc (.cells (ints n (fun _ => 0)) 3)) := make_ints n (by omega)
      have B2 : Hid (Below w.heap.size w (w1.alloc (.cells (ints n fun _ => 0) 3))) := B1.out.alloc B1.out.size _
      have R2 : Hid (IRow (w1.alloc (.cells (ints n fun _ => 0) 3)) w1.heap.size n (fun j => if j < 0 then natF x j else 0)) := IRow.new w1 n _
      have hsb : w.heap.size ≤ w1.heap.size := B1.out.size
      go_wp2_with fail
      clear hmk B1
      generalize w1.alloc (.cells (ints n fun _ => 0) 3) = w2 at *
      generalize w1.heap.size = sb at *
      clear w1
      go_loopg [10, 12, 13] (n + 1) (fun g1 va vb vk wr => ∃ (k : Nat) (sp sm : Int), va = .int .i64 sp ∧ vb = .int .i64 sm ∧ vk = .int .i64 (k : Int) ∧ k ≤ n ∧ n - k < g1 ∧ (-(k : Int) * 1048576 ≤ sp ∧ sp ≤ 1048576) ∧ (0 ≤ sm ∧ sm ≤ k * 1048576) ∧ Hid (sp = spcF av gap k) ∧ Hid (sm = sumF (natF x) k) ∧ Hid (Below w.heap.size w wr) ∧ Hid (IRow wr sb n (fun j => if j < k then natF x j else 0)))
      case atStart => exact ⟨0, av, 0, rfl, rfl, by go_num, by omega, by omega, by omega, by omega, rfl, rfl, B2, R2⟩
      case round =>
        clear B2 R2
        obtain ⟨wo, rfl⟩ : ∃ wo : World, wo = wr := ⟨_, rfl⟩
        obtain ⟨k, sp, sm, rfl, rfl, rfl, hk, hg, ⟨a1, a2⟩, ⟨a3, a4⟩, E1, E2, B, R⟩ := hrel
        by_cases hlt : k < n
        · as_aux_lemma =>
          have hltz : (k : Int) < (n : Int) := by omega
          obtain ⟨b, off, rfl, hb, hc⟩ := (HR.out.below B.out) (by omega)
          have o0 := HX.out k hlt
          have hbl : b < w.heap.size := by obtain ⟨b', off', e', hb', _⟩ := HR.out (by omega); cases e'; exact hb'
          have hne : sb ≠ b := by omega
          have KC : ∀ W, Hid (Calls Try.prog 22 #[.int .i64 (x k).ba, .int .i64 (x k).mn, .int .i64 (x k).mx] W fun e w' => e = .returned (.int .i64 (natF x k)) ∧ Grew W w') := fun W => (rClamp_any (x k).ba (x k).mn (x k).mx W).mono (by rintro e w' ⟨rfl, rfl⟩; exact ⟨rfl, Grew.refl _⟩)
          have hgr : Hid (∀ q os, Grew wo (grow (wo.drewN q) os)) := fun q os => ((Grew.refl wo).drewN q).grow os
          have c0 : ∀ q os, (grow (wo.drewN q) os).cell? ⟨b, off + k * 5, none⟩ = some (.int .i64 (x k).ba) := fun q os => ((hgr.out q os).1.cell (p := ⟨b, off + k * 5, none⟩) hb).trans (hc k hlt 0 (by decide))
          have c1 : ∀ q os, (grow (wo.drewN q) os).cell? ⟨b, off + k * 5 + 1, none⟩ = some (.int .i64 (x k).mn) := fun q os => ((hgr.out q os).1.cell (p := ⟨b, off + k * 5 + 1, none⟩) hb).trans (hc k hlt 1 (by decide))
          have c2 : ∀ q os, (grow (wo.drewN q) os).cell? ⟨b, off + k * 5 + 2, none⟩ = some (.int .i64 (x k).mx) := fun q os => ((hgr.out q os).1.cell (p := ⟨b, off + k * 5 + 2, none⟩) hb).trans (hc k hlt 2 (by decide))
          have nb : 0 ≤ natF x k ∧ natF x k ≤ 1048576 := it_ok (g := true) (sp := 0) HX.out 0 hlt
          have S1 : Hid (∀ W, Grew wo W → Below w.heap.size w (W.setCell ⟨sb, k, none⟩ (.int .i64 (natF x k))) ∧ IRow (W.setCell ⟨sb, k, none⟩ (.int .i64 (natF x k))) sb n (fun j => if j < k + 1 then natF x j else 0)) := fun W hG => by
            refine ⟨(B.out.trans (hG.1.mono B.out.size)).setCell (by exact hsb) _, ?_⟩
            have r := (R.out.below hG.1 R.out.lt).set_ k (natF x k)
            refine r.congr fun j hj => ?_
            by_cases h1 : j = k
            · subst h1; simp
            · by_cases h2 : j < k
              · simp [h1, h2, show j < k + 1 by omega]
              · simp [h1, h2, show ¬ j < k + 1 by omega]
          have fz : Hid (∀ W, Grew wo W → W.frozen? ⟨sb, k, none⟩ = false ∧ W.cell? ⟨sb, k, none⟩ = some (.int .i64 0)) := fun W hG => by
            have r := R.out.below hG.1 R.out.lt
            have q := r.cell hlt
            simp at q
            exact ⟨r.frozen k, q⟩
          have E1' : Hid (((if (k : Int) > 0 then sp - gap else sp) : Int) = spcF av gap (k + 1)) := by
            show _ = _
            rw [E1.out]
            unfold spcF
            by_cases h0 : k = 0
            · subst h0; simp
            · rw [if_pos (by omega), if_neg h0, if_neg (by omega), Int.natCast_succ, show ((k : Int) + 1 - 1) = (k - 1) + 1 by omega, Int.mul_add]
              omega
          have E2' : Hid (sm + natF x k = sumF (natF x) (k + 1)) := by show _ = _; rw [E2.out]; rfl
          clear hc hb hgr B R E1 E2 o0
          generalize hv : natF x k = v at *
          replace hv := hide hv
          generalize (x k).ba = x0 at *
          generalize (x k).mn = x1 at *
          generalize (x k).mx = x2 at *
          obtain ⟨nb1, nb2⟩ := nb
          by_cases h0 : (k : Int) > 0
          · rw [if_pos h0] at E1'
            go_wp2_with fail
            refine wp_region_stores 19 [fun W => W.setCell ⟨sb, k, none⟩ (.int .i64 v)] (by decide +kernel) rfl (by show mixB _ (storeIdx 19 1) _ = true; decide +kernel) (by decide +kernel) (by show chainUp _ 19 1 = true; decide +kernel) ?_
            simp only [List.take_succ_cons, List.take_zero, List.drop_succ_cons, List.drop_zero]
            repeat (first | (refine lex_skip rfl (by rfl) ?_) | (refine lex_calm rfl (by rfl) (fun K hK => ?_); go_simp; first | (refine hK _ ?_; clear hK K) | (apply Exists.intro; refine ⟨fun _ _ => ?_, hK _ ?_⟩; (first | (with_reducible exact (KC _).out)); clear hK K)))
            refine lex_nil ?_
            refine stores_cons rfl ?_ ?_
            · intro wn Gn
              have ⟨z1, z2⟩ := fz.out wn Gn
              go_simp
            refine stores_nil ?_
            intro wn Gn
            go_simp
            have ⟨z3, z4⟩ := S1.out wn Gn
            have z5 := z4.cell hlt
            simp only [show k < k + 1 by omega, if_true] at z5
            rw [hv.out] at z5
            replace z3 := hide z3
            replace z4 := hide z4
            generalize wn.setCell ⟨sb, k, none⟩ (.int .i64 v) = w3 at *
            clear Gn S1 fz KC c0 c1 c2
            go_wp2_with fail
            go_roundg (n - k)
            case measure => omega
            case rel => exact ⟨k + 1, _, _, rfl, rfl, by go_num, by omega, by omega, by omega, by omega, E1', E2', z3, z4⟩
          · rw [if_neg h0] at E1'
            go_wp2_with fail
            refine wp_region_stores 19 [fun W => W.setCell ⟨sb, k, none⟩ (.int .i64 v)] (by decide +kernel) rfl (by show mixB _ (storeIdx 19 1) _ = true; decide +kernel) (by decide +kernel) (by show chainUp _ 19 1 = true; decide +kernel) ?_
            simp only [List.take_succ_cons, List.take_zero, List.drop_succ_cons, List.drop_zero]
            repeat (first | (refine lex_skip rfl (by rfl) ?_) | (refine lex_calm rfl (by rfl) (fun K hK => ?_); go_simp; first | (refine hK _ ?_; clear hK K) | (apply Exists.intro; refine ⟨fun _ _ => ?_, hK _ ?_⟩; (first | (with_reducible exact (KC _).out)); clear hK K)))
            refine lex_nil ?_
            refine stores_cons rfl ?_ ?_
            · intro wn Gn
              have ⟨z1, z2⟩ := fz.out wn Gn
              go_simp
            refine stores_nil ?_
            intro wn Gn
            go_simp
            have ⟨z3, z4⟩ := S1.out wn Gn
            have z5 := z4.cell hlt
            simp only [show k < k + 1 by omega, if_true] at z5
            rw [hv.out] at z5
            replace z3 := hide z3
            replace z4 := hide z4
            generalize wn.setCell ⟨sb, k, none⟩ (.int .i64 v) = w3 at *
            clear Gn S1 fz KC c0 c1 c2
            go_wp2_with fail
            go_roundg (n - k)
            case measure => omega
            case rel => exact ⟨k + 1, _, _, rfl, rfl, by go_num, by omega, by omega, by omega, by omega, E1', E2', z3, z4⟩
        · as_aux_lemma =>
          have hltz : ¬ (k : Int) < (n : Int) := by omega
          obtain rfl : n = k := by omega
          have R3 : IRow wo sb n (natF x) := R.out.congr fun j hj => by simp [hj]
          have hmk : ∀ W : World, (Instr.makeSlice 22 (.int .i64 (n : Int)) (.int .i64 (n : Int))).run Try.prog W = .ok (.slice (some ⟨W.heap.size, 0, none⟩) n n) (W.alloc (.cells (ints n (fun _ => 0)) 3)) := make_ints n (by omega)
          have hmb : ∀ W : World, (Instr.makeSlice 78 (.int .i64 (n : Int)) (.int .i64 (n : Int))).run Try.prog W = .ok (.slice (some ⟨W.heap.size, 0, none⟩) n n) (W.alloc (.cells (bools n (fun _ => false)) 4)) := make_bools n (by omega)
          have hgv : growB (spcF av gap n) x n = decide (sm ≤ sp) := by unfold growB; rw [← E1.out, ← E2.out]
          have hsw : sb < wo.heap.size := R3.lt
          have B4 : Hid (Below w.heap.size w ((wo.alloc (.cells (bools n fun _ => false) 4)).alloc (.cells (ints n fun _ => 0) 3))) := (B.out.alloc B.out.size _).alloc (B.out.alloc B.out.size _).size _
          have R4 : Hid (IRow ((wo.alloc (.cells (bools n fun _ => false) 4)).alloc (.cells (ints n fun _ => 0) 3)) sb n (natF x)) := (R3.alloc _).alloc _
          have F4 : Hid (BRow ((wo.alloc (.cells (bools n fun _ => false) 4)).alloc (.cells (ints n fun _ => 0) 3)) wo.heap.size n (fun j => if j < 0 then fr0 (decide (sm ≤ sp)) x j else false)) := (BRow.new wo n _).alloc _
          have W4 : Hid (IRow ((wo.alloc (.cells (bools n fun _ => false) 4)).alloc (.cells (ints n fun _ => 0) 3)) (wo.heap.size + 1) n (fun j => if j < 0 then wtF (decide (sm ≤ sp)) x j else 0)) := by
            have := IRow.new (wo.alloc (.cells (bools n fun _ => false) 4)) n (fun j => if j < 0 then wtF (decide (sm ≤ sp)) x j else 0)
            rw [World.size_alloc] at this
            exact this
          replace hgv := hide hgv
          clear R R3 E2 B hk hg hlt a3 a4
          go_wp2_with fail
          clear hmb hmk
          generalize ((wo.alloc (.cells (bools n fun _ => false) 4)).alloc (.cells (ints n fun _ => 0) 3)) = w4 at *
          generalize wo.heap.size = fb at *
          generalize decide (sm ≤ sp) = gv at *
          go_loopg [17, 18] (n + 1) (fun g1 vl vk wr => ∃ (k : Nat), vl = .int .i64 (rk (fr0 gv x) k : Int) ∧ vk = .int .i64 (k : Int) ∧ k ≤ n ∧ n - k < g1 ∧ Hid (Below w.heap.size w wr) ∧ Hid (IRow wr sb n (natF x)) ∧ Hid (BRow wr fb n (fun j => if j < k then fr0 gv x j else false)) ∧ Hid (IRow wr (fb + 1) n (fun j => if j < k then wtF gv x j else 0)))
          case atStart => exact ⟨0, by go_num, by go_num, by omega, by omega, B4, R4, F4, W4⟩
          case round =>
            clear B4 R4 F4 W4
            obtain ⟨wo, rfl⟩ : ∃ wo : World, wo = wr := ⟨_, rfl⟩
            obtain ⟨k, rfl, rfl, hk, hg, B, R, F, W⟩ := hrel
            by_cases hlt : k < n
            · have hltz : (k : Int) < (n : Int) := by omega
              obtain ⟨b, off, rfl, hb, hc⟩ := (HR.out.below B.out) (by omega)
              have m3 : n - (k + 1) < n - k := by omega
              replace m3 := hide m3
              have o0 := HX.out k hlt
              have hbl : b < w.heap.size := by obtain ⟨b', off', e', hb', _⟩ := HR.out (by omega); cases e'; exact hb'
              have nb : 0 ≤ natF x k ∧ natF x k ≤ 1048576 := it_ok (g := true) (sp := 0) HX.out 0 hlt
              have wb := wt_bd (g := gv) o0
              have rb := rk_le (fr0 gv x) k
              -- what a store of the weight, then of the flag, leaves
              have S5 : Hid (∀ W', Grew wo W' → ∀ v, Below w.heap.size w (W'.setCell ⟨fb + 1, k, none⟩ (.int .i64 v)) ∧ IRow (W'.setCell ⟨fb + 1, k, none⟩ (.int .i64 v)) sb n (natF x) ∧ BRow (W'.setCell ⟨fb + 1, k, none⟩ (.int .i64 v)) fb n (fun j => if j < k then fr0 gv x j else false) ∧ IRow (W'.setCell ⟨fb + 1, k, none⟩ (.int .i64 v)) (fb + 1) n (fun j => if j = k then v else if j < k then wtF gv x j else 0)) := fun W' hG v =>
                ⟨(B.out.trans (hG.1.mono B.out.size)).setCell (by show w.heap.size ≤ fb + 1; omega) _, (R.out.below hG.1 R.out.lt).far (by show sb ≠ fb + 1; omega) _, (F.out.below hG.1 F.out.lt).far (by show fb ≠ fb + 1; omega) _, (W.out.below hG.1 W.out.lt).set_ k v⟩
              have fz5 : Hid (∀ W', Grew wo W' → W'.frozen? ⟨fb + 1, k, none⟩ = false ∧ W'.cell? ⟨fb + 1, k, none⟩ = some (.int .i64 0)) := fun W' hG => by
                have r := W.out.below hG.1 W.out.lt
                have q := r.cell hlt
                simp at q
                exact ⟨r.frozen k, q⟩
              have S6 : Hid (∀ W1 W', Below w.heap.size w W1 → IRow W1 sb n (natF x) → BRow W1 fb n (fun j => if j < k then fr0 gv x j else false) → IRow W1 (fb + 1) n (fun j => if j < k + 1 then wtF gv x j else 0) → Grew W1 W' → W'.frozen? ⟨fb, k, none⟩ = false ∧ W'.cell? ⟨fb, k, none⟩ = some (.bool false) ∧ Below w.heap.size w (W'.setCell ⟨fb, k, none⟩ (.bool (fr0 gv x k))) ∧ IRow (W'.setCell ⟨fb, k, none⟩ (.bool (fr0 gv x k))) sb n (natF x) ∧ BRow (W'.setCell ⟨fb, k, none⟩ (.bool (fr0 gv x k))) fb n (fun j => if j < k + 1 then fr0 gv x j else false) ∧ IRow (W'.setCell ⟨fb, k, none⟩ (.bool (fr0 gv x k))) (fb + 1) n (fun j => if j < k + 1 then wtF gv x j else 0)) := fun W1 W' B1 R1 F1 I1 hG => by
                have r := F1.below hG.1 F1.lt
                have q := r.cell hlt
                simp at q
                refine ⟨r.frozen k, q, (B1.trans (hG.1.mono B1.size)).setCell (by show w.heap.size ≤ fb; omega) _, (R1.below hG.1 R1.lt).far (by show sb ≠ fb; omega) _, (r.set_ k _).congr fun j hj => ?_, (I1.below hG.1 I1.lt).far (by show fb + 1 ≠ fb; omega) _⟩
                by_cases h1 : j = k
                · subst h1; simp
                · by_cases h2 : j < k
                  · simp [h1, h2, show j < k + 1 by omega]
                  · simp [h1, h2, show ¬ j < k + 1 by omega]
              have CC : Hid (∀ W1, Below w.heap.size w W1 → IRow W1 sb n (natF x) → IRow W1 (fb + 1) n (fun j => if j < k + 1 then wtF gv x j else 0) → ∀ q os, (grow (W1.drewN q) os).cell? ⟨b, off + k * 5, none⟩ = some (.int .i64 (x k).ba) ∧ (grow (W1.drewN q) os).cell? ⟨sb, k, none⟩ = some (.int .i64 (natF x k)) ∧ (grow (W1.drewN q) os).cell? ⟨fb + 1, k, none⟩ = some (.int .i64 (wtF gv x k))) := fun W1 B1 R1 I1 q os => by
                have hG : Grew W1 (grow (W1.drewN q) os) := ((Grew.refl W1).drewN q).grow os
                obtain ⟨b', off', e', hb', hc'⟩ := HR.out (by omega)
                cases e'
                have z := hc' k hlt 0 (by decide)
                refine ⟨(hG.1.cell (p := ⟨b, off + k * 5, none⟩) (by have := B1.size; show b < _; omega)).trans ((B1.cell (p := ⟨b, off + k * 5, none⟩) hb').trans z), (hG.1.cell (p := ⟨sb, k, none⟩) R1.lt).trans (R1.cell hlt), ?_⟩
                have y := I1.cell hlt
                simp only [show k < k + 1 by omega, if_true] at y
                exact (hG.1.cell (p := ⟨fb + 1, k, none⟩) I1.lt).trans y
              have c3 : wo.cell? ⟨b, off + k * 5 + 3, none⟩ = some (.int .i64 (x k).gr) := hc k hlt 3 (by decide)
              have ⟨f1, q1⟩ := fz5.out wo (Grew.refl _)
              have hgr : Hid (∀ q os, Grew wo (grow (wo.drewN q) os)) := fun q os => ((Grew.refl wo).drewN q).grow os
              cases gv with
              | true =>
                as_aux_lemma =>
                have S7 := S5.out wo (Grew.refl _) (x k).gr
                have e7 : wtF true x k = (x k).gr := rfl
                clear S5 fz5 hc hb hgr B R F W
                go_wp2_with fail
                obtain ⟨B7, R7, F7, W7⟩ := S7
                replace W7 : Hid (IRow (wo.setCell ⟨fb + 1, k, none⟩ (.int .i64 (x k).gr)) (fb + 1) n (fun j => if j < k + 1 then wtF true x j else 0)) := W7.congr fun j hj => by
                  by_cases h1 : j = k
                  · subst h1; simp [e7]
                  · by_cases h2 : j < k
                    · simp [h1, h2, show j < k + 1 by omega]
                    · simp [h1, h2, show ¬ j < k + 1 by omega]
                have C7 := hide (CC.out _ B7 R7 W7.out)
                have S8 := hide (fun W' => S6.out _ W' B7 R7 F7 W7.out)
                clear S6 CC c3 f1 q1
                generalize wo.setCell ⟨fb + 1, k, none⟩ (.int .i64 (x k).gr) = w7 at *
                replace S8 : Hid (∀ W', Grew w7 W' → _) := S8
                by_cases hw : (x k).gr = 0
                · as_aux_lemma =>
                  have ef : fr0 true x k = true := by simp [fr0, e7, hw]
                  have hwb : ((x k).gr == 0) = true := by simpa using hw
                  rw [ef] at S8
                  have g0 : ∀ q os, (grow (w7.drewN q) os).cell? ⟨b, off + k * 5, none⟩ = some (.int .i64 (x k).ba) := fun q os => (C7.out q os).1
                  have g1 : ∀ q os, (grow (w7.drewN q) os).cell? ⟨sb, k, none⟩ = some (.int .i64 (natF x k)) := fun q os => (C7.out q os).2.1
                  have g2 : ∀ q os, (grow (w7.drewN q) os).cell? ⟨fb + 1, k, none⟩ = some (.int .i64 ((x k).gr)) := fun q os => by rw [← e7]; exact (C7.out q os).2.2
                  clear C7
                  have EF := hide ef
                  clear ef
                  have er : rk (fr0 true x) (k + 1) = rk (fr0 true x) k := by simp [rk, EF.out]
                  replace er := hide er
                  refine wp_region_stores 39 [fun W => W.setCell ⟨fb, k, none⟩ (.bool true)] (by decide +kernel) rfl (by show mixB _ (storeIdx 39 1) _ = true; decide +kernel) (by decide +kernel) (by show chainUp _ 39 1 = true; decide +kernel) ?_
                  simp only [List.take_succ_cons, List.take_zero, List.drop_succ_cons, List.drop_zero]
                  iterate 8 ((with_reducible refine lex_calm ?_ ?_ ?_); exact rfl; (first | exact wanted_free rfl | exact wanted_yes rfl rfl rfl); intro K hK; go_simp; first | (refine hK _ ?_; clear hK K) | (apply Exists.intro; refine ⟨fun _ _ => ?_, hK _ ?_⟩; (fail); clear hK K))
                  iterate 13 ((with_reducible refine lex_skip ?_ ?_ ?_); exact rfl; (first | exact wanted_no rfl rfl rfl | exact wanted_un rfl rfl rfl); go_simp)
                  iterate 2 ((with_reducible refine lex_calm ?_ ?_ ?_); exact rfl; (first | exact wanted_free rfl | exact wanted_yes rfl rfl rfl); intro K hK; go_simp; first | (refine hK _ ?_; clear hK K) | (apply Exists.intro; refine ⟨fun _ _ => ?_, hK _ ?_⟩; (fail); clear hK K))
                  iterate 14 ((with_reducible refine lex_skip ?_ ?_ ?_); exact rfl; (first | exact wanted_no rfl rfl rfl | exact wanted_un rfl rfl rfl); go_simp)
                  iterate 2 ((with_reducible refine lex_calm ?_ ?_ ?_); exact rfl; (first | exact wanted_free rfl | exact wanted_yes rfl rfl rfl); intro K hK; go_simp; first | (refine hK _ ?_; clear hK K) | (apply Exists.intro; refine ⟨fun _ _ => ?_, hK _ ?_⟩; (fail); clear hK K))
                  refine lex_nil ?_
                  refine stores_cons rfl ?_ ?_
                  · intro wn Gn
                    have z := S8.out wn Gn
                    have z1 := z.1
                    have z2 := z.2.1
                    clear z
                    go_simp
                  refine stores_nil ?_
                  intro wn Gn
                  go_simp
                  have ⟨y1, y2, B9, R9, F9, W9⟩ := S8.out wn Gn
                  clear y1 y2
                  have z5 := F9.cell hlt
                  simp only [show k < k + 1 by omega, if_true] at z5
                  rw [EF.out] at z5
                  replace B9 := hide B9
                  replace R9 := hide R9
                  replace F9 := hide F9
                  replace W9 := hide W9
                  generalize wn.setCell ⟨fb, k, none⟩ (.bool true) = w9 at *
                  clear Gn S8 g0 g1 g2
                  go_wp2_with fail
                  go_roundg (n - k)
                  case measure => exact hg
                  case rel => exact ⟨k + 1, by rw [er.out], by go_num, hlt, m3.out, B9, R9, F9, W9⟩
                · by_cases hv : natF x k < (x k).ba
                  · as_aux_lemma =>
                    have ef : fr0 true x k = true := by simp [fr0, e7, hw, hv]
                    have hwb : ((x k).gr == 0) = false := by simpa using hw
                    rw [ef] at S8
                    have g0 : ∀ q os, (grow (w7.drewN q) os).cell? ⟨b, off + k * 5, none⟩ = some (.int .i64 (x k).ba) := fun q os => (C7.out q os).1
                    have g1 : ∀ q os, (grow (w7.drewN q) os).cell? ⟨sb, k, none⟩ = some (.int .i64 (natF x k)) := fun q os => (C7.out q os).2.1
                    have g2 : ∀ q os, (grow (w7.drewN q) os).cell? ⟨fb + 1, k, none⟩ = some (.int .i64 ((x k).gr)) := fun q os => by rw [← e7]; exact (C7.out q os).2.2
                    clear C7
                    have EF := hide ef
                    clear ef
                    have er : rk (fr0 true x) (k + 1) = rk (fr0 true x) k := by simp [rk, EF.out]
                    replace er := hide er
                    refine wp_region_stores 39 [fun W => W.setCell ⟨fb, k, none⟩ (.bool true)] (by decide +kernel) rfl (by show mixB _ (storeIdx 39 1) _ = true; decide +kernel) (by decide +kernel) (by show chainUp _ 39 1 = true; decide +kernel) ?_
                    simp only [List.take_succ_cons, List.take_zero, List.drop_succ_cons, List.drop_zero]
                    iterate 23 ((with_reducible refine lex_calm ?_ ?_ ?_); exact rfl; (first | exact wanted_free rfl | exact wanted_yes rfl rfl rfl); intro K hK; go_simp; first | (refine hK _ ?_; clear hK K) | (apply Exists.intro; refine ⟨fun _ _ => ?_, hK _ ?_⟩; (fail); clear hK K))
                    iterate 14 ((with_reducible refine lex_skip ?_ ?_ ?_); exact rfl; (first | exact wanted_no rfl rfl rfl | exact wanted_un rfl rfl rfl); go_simp)
                    iterate 2 ((with_reducible refine lex_calm ?_ ?_ ?_); exact rfl; (first | exact wanted_free rfl | exact wanted_yes rfl rfl rfl); intro K hK; go_simp; first | (refine hK _ ?_; clear hK K) | (apply Exists.intro; refine ⟨fun _ _ => ?_, hK _ ?_⟩; (fail); clear hK K))
                    refine lex_nil ?_
                    refine stores_cons rfl ?_ ?_
                    · intro wn Gn
                      have z := S8.out wn Gn
                      have z1 := z.1
                      have z2 := z.2.1
                      clear z
                      go_simp
                    refine stores_nil ?_
                    intro wn Gn
                    go_simp
                    have ⟨y1, y2, B9, R9, F9, W9⟩ := S8.out wn Gn
                    clear y1 y2
                    have z5 := F9.cell hlt
                    simp only [show k < k + 1 by omega, if_true] at z5
                    rw [EF.out] at z5
                    replace B9 := hide B9
                    replace R9 := hide R9
                    replace F9 := hide F9
                    replace W9 := hide W9
                    generalize wn.setCell ⟨fb, k, none⟩ (.bool true) = w9 at *
                    clear Gn S8 g0 g1 g2
                    go_wp2_with fail
                    go_roundg (n - k)
                    case measure => exact hg
                    case rel => exact ⟨k + 1, by rw [er.out], by go_num, hlt, m3.out, B9, R9, F9, W9⟩
                  · as_aux_lemma =>
                    have ef : fr0 true x k = false := by simp [fr0, e7, hw, hv]
                    have hwb : ((x k).gr == 0) = false := by simpa using hw
                    rw [ef] at S8
                    have g0 : ∀ q os, (grow (w7.drewN q) os).cell? ⟨b, off + k * 5, none⟩ = some (.int .i64 (x k).ba) := fun q os => (C7.out q os).1
                    have g1 : ∀ q os, (grow (w7.drewN q) os).cell? ⟨sb, k, none⟩ = some (.int .i64 (natF x k)) := fun q os => (C7.out q os).2.1
                    have g2 : ∀ q os, (grow (w7.drewN q) os).cell? ⟨fb + 1, k, none⟩ = some (.int .i64 ((x k).gr)) := fun q os => by rw [← e7]; exact (C7.out q os).2.2
                    clear C7
                    have EF := hide ef
                    clear ef
                    have er : rk (fr0 true x) (k + 1) = rk (fr0 true x) k + 1 := by simp [rk, EF.out]
                    replace er := hide er
                    refine wp_region_stores 39 [fun W => W.setCell ⟨fb, k, none⟩ (.bool false)] (by decide +kernel) rfl (by show mixB _ (storeIdx 39 1) _ = true; decide +kernel) (by decide +kernel) (by show chainUp _ 39 1 = true; decide +kernel) ?_
                    simp only [List.take_succ_cons, List.take_zero, List.drop_succ_cons, List.drop_zero]
                    iterate 26 ((with_reducible refine lex_calm ?_ ?_ ?_); exact rfl; (first | exact wanted_free rfl | exact wanted_yes rfl rfl rfl); intro K hK; go_simp; first | (refine hK _ ?_; clear hK K) | (apply Exists.intro; refine ⟨fun _ _ => ?_, hK _ ?_⟩; (fail); clear hK K))
                    iterate 10 ((with_reducible refine lex_skip ?_ ?_ ?_); exact rfl; (first | exact wanted_no rfl rfl rfl | exact wanted_un rfl rfl rfl); go_simp)
                    iterate 3 ((with_reducible refine lex_calm ?_ ?_ ?_); exact rfl; (first | exact wanted_free rfl | exact wanted_yes rfl rfl rfl); intro K hK; go_simp; first | (refine hK _ ?_; clear hK K) | (apply Exists.intro; refine ⟨fun _ _ => ?_, hK _ ?_⟩; (fail); clear hK K))
                    refine lex_nil ?_
                    refine stores_cons rfl ?_ ?_
                    · intro wn Gn
                      have z := S8.out wn Gn
                      have z1 := z.1
                      have z2 := z.2.1
                      clear z
                      go_simp
                    refine stores_nil ?_
                    intro wn Gn
                    go_simp
                    have ⟨y1, y2, B9, R9, F9, W9⟩ := S8.out wn Gn
                    clear y1 y2
                    have z5 := F9.cell hlt
                    simp only [show k < k + 1 by omega, if_true] at z5
                    rw [EF.out] at z5
                    replace B9 := hide B9
                    replace R9 := hide R9
                    replace F9 := hide F9
                    replace W9 := hide W9
                    generalize wn.setCell ⟨fb, k, none⟩ (.bool false) = w9 at *
                    clear Gn S8 g0 g1 g2
                    go_wp2_with fail
                    go_roundg (n - k)
                    case measure => exact hg
                    case rel => exact ⟨k + 1, by rw [er.out]; push_cast; rfl, by go_num, hlt, m3.out, B9, R9, F9, W9⟩
              | false =>
                as_aux_lemma =>
                have S7 := S5.out wo (Grew.refl _) (x k).gr
                have e7 : wtF false x k = (x k).sh * (x k).ba := rfl
                clear S5 fz5 hc hb hgr B R F W
                go_wp2_with fail
                obtain ⟨B7, R7, F7, W7⟩ := S7
                have D7 : Hid (∀ W', Grew (wo.setCell ⟨fb + 1, k, none⟩ (.int .i64 (x k).gr)) W' → W'.frozen? ⟨fb + 1, k, none⟩ = false ∧ W'.cell? ⟨fb + 1, k, none⟩ = some (.int .i64 (x k).gr) ∧ Below w.heap.size w (W'.setCell ⟨fb + 1, k, none⟩ (.int .i64 ((x k).sh * (x k).ba))) ∧ IRow (W'.setCell ⟨fb + 1, k, none⟩ (.int .i64 ((x k).sh * (x k).ba))) sb n (natF x) ∧ BRow (W'.setCell ⟨fb + 1, k, none⟩ (.int .i64 ((x k).sh * (x k).ba))) fb n (fun j => if j < k then fr0 false x j else false) ∧ IRow (W'.setCell ⟨fb + 1, k, none⟩ (.int .i64 ((x k).sh * (x k).ba))) (fb + 1) n (fun j => if j < k + 1 then wtF false x j else 0)) := fun W' hG => by
                  have r := W7.below hG.1 W7.lt
                  have q := r.cell hlt
                  simp at q
                  refine ⟨r.frozen k, q, (B7.trans (hG.1.mono B7.size)).setCell (by show w.heap.size ≤ fb + 1; omega) _, (R7.below hG.1 R7.lt).far (by show sb ≠ fb + 1; omega) _, (F7.below hG.1 F7.lt).far (by show fb ≠ fb + 1; omega) _, (r.set_ k _).congr fun j hj => ?_⟩
                  by_cases h1 : j = k
                  · subst h1; simp [e7]
                  · by_cases h2 : j < k
                    · simp [h1, h2, show j < k + 1 by omega]
                    · simp [h1, h2, show ¬ j < k + 1 by omega]
                have g7 : ∀ q os, (grow ((wo.setCell ⟨fb + 1, k, none⟩ (.int .i64 (x k).gr)).drewN q) os).cell? ⟨b, off + k * 5, none⟩ = some (.int .i64 (x k).ba) ∧ (grow ((wo.setCell ⟨fb + 1, k, none⟩ (.int .i64 (x k).gr)).drewN q) os).cell? ⟨b, off + k * 5 + 4, none⟩ = some (.int .i64 (x k).sh) := fun q os => by
                  have hG : Grew (wo.setCell ⟨fb + 1, k, none⟩ (.int .i64 (x k).gr)) (grow ((wo.setCell ⟨fb + 1, k, none⟩ (.int .i64 (x k).gr)).drewN q) os) := ((Grew.refl _).drewN q).grow os
                  obtain ⟨b', off', e', hb', hc'⟩ := HR.out (by omega)
                  cases e'
                  have hl : b < (wo.setCell ⟨fb + 1, k, none⟩ (.int .i64 (x k).gr)).heap.size := by have := B7.size; omega
                  exact ⟨(hG.1.cell (p := ⟨b, off + k * 5, none⟩) hl).trans ((B7.cell (p := ⟨b, off + k * 5, none⟩) hb').trans (hc' k hlt 0 (by decide))), (hG.1.cell (p := ⟨b, off + k * 5 + 4, none⟩) hl).trans ((B7.cell (p := ⟨b, off + k * 5 + 4, none⟩) hb').trans (hc' k hlt 4 (by decide)))⟩
                replace g7 := hide g7
                rw [e7] at wb
                obtain ⟨wb1, wb2⟩ := wb
                clear B7 R7 F7 W7 c3 f1 q1
                generalize wo.setCell ⟨fb + 1, k, none⟩ (.int .i64 (x k).gr) = w6 at *
                have g0 : ∀ q os, (grow (w6.drewN q) os).cell? ⟨b, off + k * 5, none⟩ = some (.int .i64 (x k).ba) := fun q os => (g7.out q os).1
                have g4 : ∀ q os, (grow (w6.drewN q) os).cell? ⟨b, off + k * 5 + 4, none⟩ = some (.int .i64 (x k).sh) := fun q os => (g7.out q os).2
                have ew : IntKind.i64.wrap ((x k).sh * (x k).ba) = (x k).sh * (x k).ba := wr (by omega) (by omega)
                clear g7
                refine wp_region_stores 14 [fun W => W.setCell ⟨fb + 1, k, none⟩ (.int .i64 ((x k).sh * (x k).ba))] (by decide +kernel) rfl (by show mixB _ (storeIdx 14 1) _ = true; decide +kernel) (by decide +kernel) (by show chainUp _ 14 1 = true; decide +kernel) ?_
                simp only [List.take_succ_cons, List.take_zero, List.drop_succ_cons, List.drop_zero]
                iterate 14 ((with_reducible refine lex_calm ?_ ?_ ?_); exact rfl; (first | exact wanted_free rfl | exact wanted_yes rfl rfl rfl); intro K hK; go_simp; first | (refine hK _ ?_; clear hK K) | (apply Exists.intro; refine ⟨fun _ _ => ?_, hK _ ?_⟩; (fail); clear hK K))
                refine lex_nil ?_
                refine stores_cons rfl ?_ ?_
                · intro wn Gn
                  have z := D7.out wn Gn
                  have z1 := z.1
                  have z2 := z.2.1
                  clear z
                  go_simp
                refine stores_nil ?_
                intro wn Gn
                go_simp
                have ⟨y1, y2, B7, R7, F7, W7⟩ := D7.out wn Gn
                clear y1 y2
                have C7 := hide (CC.out _ B7 R7 W7)
                have S8 := hide (fun W' => S6.out _ W' B7 R7 F7 W7)
                clear S6 CC D7 Gn B7 R7 F7 W7 g0 g4 ew
                generalize wn.setCell ⟨fb + 1, k, none⟩ (.int .i64 ((x k).sh * (x k).ba)) = w7 at *
                replace S8 : Hid (∀ W', Grew w7 W' → _) := S8
                go_wp2_with fail
                by_cases hw : (x k).sh * (x k).ba = 0
                · as_aux_lemma =>
                  have ef : fr0 false x k = true := by simp [fr0, e7, hw]
                  have hwb : ((x k).sh * (x k).ba == 0) = true := by simpa using hw
                  rw [ef] at S8
                  have g0 : ∀ q os, (grow (w7.drewN q) os).cell? ⟨b, off + k * 5, none⟩ = some (.int .i64 (x k).ba) := fun q os => (C7.out q os).1
                  have g1 : ∀ q os, (grow (w7.drewN q) os).cell? ⟨sb, k, none⟩ = some (.int .i64 (natF x k)) := fun q os => (C7.out q os).2.1
                  have g2 : ∀ q os, (grow (w7.drewN q) os).cell? ⟨fb + 1, k, none⟩ = some (.int .i64 ((x k).sh * (x k).ba)) := fun q os => by rw [← e7]; exact (C7.out q os).2.2
                  clear C7
                  have EF := hide ef
                  clear ef
                  have er : rk (fr0 false x) (k + 1) = rk (fr0 false x) k := by simp [rk, EF.out]
                  replace er := hide er
                  refine wp_region_stores 39 [fun W => W.setCell ⟨fb, k, none⟩ (.bool true)] (by decide +kernel) rfl (by show mixB _ (storeIdx 39 1) _ = true; decide +kernel) (by decide +kernel) (by show chainUp _ 39 1 = true; decide +kernel) ?_
                  simp only [List.take_succ_cons, List.take_zero, List.drop_succ_cons, List.drop_zero]
                  iterate 8 ((with_reducible refine lex_calm ?_ ?_ ?_); exact rfl; (first | exact wanted_free rfl | exact wanted_yes rfl rfl rfl); intro K hK; go_simp; first | (refine hK _ ?_; clear hK K) | (apply Exists.intro; refine ⟨fun _ _ => ?_, hK _ ?_⟩; (fail); clear hK K))
                  iterate 13 ((with_reducible refine lex_skip ?_ ?_ ?_); exact rfl; (first | exact wanted_no rfl rfl rfl | exact wanted_un rfl rfl rfl); go_simp)
                  iterate 2 ((with_reducible refine lex_calm ?_ ?_ ?_); exact rfl; (first | exact wanted_free rfl | exact wanted_yes rfl rfl rfl); intro K hK; go_simp; first | (refine hK _ ?_; clear hK K) | (apply Exists.intro; refine ⟨fun _ _ => ?_, hK _ ?_⟩; (fail); clear hK K))
                  iterate 14 ((with_reducible refine lex_skip ?_ ?_ ?_); exact rfl; (first | exact wanted_no rfl rfl rfl | exact wanted_un rfl rfl rfl); go_simp)
                  iterate 2 ((with_reducible refine lex_calm ?_ ?_ ?_); exact rfl; (first | exact wanted_free rfl | exact wanted_yes rfl rfl rfl); intro K hK; go_simp; first | (refine hK _ ?_; clear hK K) | (apply Exists.intro; refine ⟨fun _ _ => ?_, hK _ ?_⟩; (fail); clear hK K))
                  refine lex_nil ?_
                  refine stores_cons rfl ?_ ?_
                  · intro wn Gn
                    have z := S8.out wn Gn
                    have z1 := z.1
                    have z2 := z.2.1
                    clear z
                    go_simp
                  refine stores_nil ?_
                  intro wn Gn
                  go_simp
                  have ⟨y1, y2, B9, R9, F9, W9⟩ := S8.out wn Gn
                  clear y1 y2
                  have z5 := F9.cell hlt
                  simp only [show k < k + 1 by omega, if_true] at z5
                  rw [EF.out] at z5
                  replace B9 := hide B9
                  replace R9 := hide R9
                  replace F9 := hide F9
                  replace W9 := hide W9
                  generalize wn.setCell ⟨fb, k, none⟩ (.bool true) = w9 at *
                  clear Gn S8 g0 g1 g2
                  go_wp2_with fail
                  go_roundg (n - k)
                  case measure => exact hg
                  case rel => exact ⟨k + 1, by rw [er.out], by go_num, hlt, m3.out, B9, R9, F9, W9⟩
                · by_cases hv : (x k).ba < natF x k
                  · as_aux_lemma =>
                    have ef : fr0 false x k = true := by simp [fr0, e7, hw, hv]
                    have hwb : ((x k).sh * (x k).ba == 0) = false := by simpa using hw
                    rw [ef] at S8
                    have g0 : ∀ q os, (grow (w7.drewN q) os).cell? ⟨b, off + k * 5, none⟩ = some (.int .i64 (x k).ba) := fun q os => (C7.out q os).1
                    have g1 : ∀ q os, (grow (w7.drewN q) os).cell? ⟨sb, k, none⟩ = some (.int .i64 (natF x k)) := fun q os => (C7.out q os).2.1
                    have g2 : ∀ q os, (grow (w7.drewN q) os).cell? ⟨fb + 1, k, none⟩ = some (.int .i64 ((x k).sh * (x k).ba)) := fun q os => by rw [← e7]; exact (C7.out q os).2.2
                    clear C7
                    have EF := hide ef
                    clear ef
                    have er : rk (fr0 false x) (k + 1) = rk (fr0 false x) k := by simp [rk, EF.out]
                    replace er := hide er
                    refine wp_region_stores 39 [fun W => W.setCell ⟨fb, k, none⟩ (.bool true)] (by decide +kernel) rfl (by show mixB _ (storeIdx 39 1) _ = true; decide +kernel) (by decide +kernel) (by show chainUp _ 39 1 = true; decide +kernel) ?_
                    simp only [List.take_succ_cons, List.take_zero, List.drop_succ_cons, List.drop_zero]
                    iterate 10 ((with_reducible refine lex_calm ?_ ?_ ?_); exact rfl; (first | exact wanted_free rfl | exact wanted_yes rfl rfl rfl); intro K hK; go_simp; first | (refine hK _ ?_; clear hK K) | (apply Exists.intro; refine ⟨fun _ _ => ?_, hK _ ?_⟩; (fail); clear hK K))
                    iterate 10 ((with_reducible refine lex_skip ?_ ?_ ?_); exact rfl; (first | exact wanted_no rfl rfl rfl | exact wanted_un rfl rfl rfl); go_simp)
                    iterate 19 ((with_reducible refine lex_calm ?_ ?_ ?_); exact rfl; (first | exact wanted_free rfl | exact wanted_yes rfl rfl rfl); intro K hK; go_simp; first | (refine hK _ ?_; clear hK K) | (apply Exists.intro; refine ⟨fun _ _ => ?_, hK _ ?_⟩; (fail); clear hK K))
                    refine lex_nil ?_
                    refine stores_cons rfl ?_ ?_
                    · intro wn Gn
                      have z := S8.out wn Gn
                      have z1 := z.1
                      have z2 := z.2.1
                      clear z
                      go_simp
                    refine stores_nil ?_
                    intro wn Gn
                    go_simp
                    have ⟨y1, y2, B9, R9, F9, W9⟩ := S8.out wn Gn
                    clear y1 y2
                    have z5 := F9.cell hlt
                    simp only [show k < k + 1 by omega, if_true] at z5
                    rw [EF.out] at z5
                    replace B9 := hide B9
                    replace R9 := hide R9
                    replace F9 := hide F9
                    replace W9 := hide W9
                    generalize wn.setCell ⟨fb, k, none⟩ (.bool true) = w9 at *
                    clear Gn S8 g0 g1 g2
                    go_wp2_with fail
                    go_roundg (n - k)
                    case measure => exact hg
                    case rel => exact ⟨k + 1, by rw [er.out], by go_num, hlt, m3.out, B9, R9, F9, W9⟩
                  · as_aux_lemma =>
                    have ef : fr0 false x k = false := by simp [fr0, e7, hw, hv]
                    have hwb : ((x k).sh * (x k).ba == 0) = false := by simpa using hw
                    rw [ef] at S8
                    have g0 : ∀ q os, (grow (w7.drewN q) os).cell? ⟨b, off + k * 5, none⟩ = some (.int .i64 (x k).ba) := fun q os => (C7.out q os).1
                    have g1 : ∀ q os, (grow (w7.drewN q) os).cell? ⟨sb, k, none⟩ = some (.int .i64 (natF x k)) := fun q os => (C7.out q os).2.1
                    have g2 : ∀ q os, (grow (w7.drewN q) os).cell? ⟨fb + 1, k, none⟩ = some (.int .i64 ((x k).sh * (x k).ba)) := fun q os => by rw [← e7]; exact (C7.out q os).2.2
                    clear C7
                    have EF := hide ef
                    clear ef
                    have er : rk (fr0 false x) (k + 1) = rk (fr0 false x) k + 1 := by simp [rk, EF.out]
                    replace er := hide er
                    refine wp_region_stores 39 [fun W => W.setCell ⟨fb, k, none⟩ (.bool false)] (by decide +kernel) rfl (by show mixB _ (storeIdx 39 1) _ = true; decide +kernel) (by decide +kernel) (by show chainUp _ 39 1 = true; decide +kernel) ?_
                    simp only [List.take_succ_cons, List.take_zero, List.drop_succ_cons, List.drop_zero]
                    iterate 10 ((with_reducible refine lex_calm ?_ ?_ ?_); exact rfl; (first | exact wanted_free rfl | exact wanted_yes rfl rfl rfl); intro K hK; go_simp; first | (refine hK _ ?_; clear hK K) | (apply Exists.intro; refine ⟨fun _ _ => ?_, hK _ ?_⟩; (fail); clear hK K))
                    iterate 10 ((with_reducible refine lex_skip ?_ ?_ ?_); exact rfl; (first | exact wanted_no rfl rfl rfl | exact wanted_un rfl rfl rfl); go_simp)
                    iterate 19 ((with_reducible refine lex_calm ?_ ?_ ?_); exact rfl; (first | exact wanted_free rfl | exact wanted_yes rfl rfl rfl); intro K hK; go_simp; first | (refine hK _ ?_; clear hK K) | (apply Exists.intro; refine ⟨fun _ _ => ?_, hK _ ?_⟩; (fail); clear hK K))
                    refine lex_nil ?_
                    refine stores_cons rfl ?_ ?_
                    · intro wn Gn
                      have z := S8.out wn Gn
                      have z1 := z.1
                      have z2 := z.2.1
                      clear z
                      go_simp
                    refine stores_nil ?_
                    intro wn Gn
                    go_simp
                    have ⟨y1, y2, B9, R9, F9, W9⟩ := S8.out wn Gn
                    clear y1 y2
                    have z5 := F9.cell hlt
                    simp only [show k < k + 1 by omega, if_true] at z5
                    rw [EF.out] at z5
                    replace B9 := hide B9
                    replace R9 := hide R9
                    replace F9 := hide F9
                    replace W9 := hide W9
                    generalize wn.setCell ⟨fb, k, none⟩ (.bool false) = w9 at *
                    clear Gn S8 g0 g1 g2
                    go_wp2_with fail
                    go_roundg (n - k)
                    case measure => exact hg
                    case rel => exact ⟨k + 1, by rw [er.out]; push_cast; rfl, by go_num, hlt, m3.out, B9, R9, F9, W9⟩
            · as_aux_lemma =>
              have hltz : ¬ (k : Int) < (n : Int) := by omega
              obtain rfl : n = k := by omega
              have F5 : IRow wo sb n (itS gv sp x n 0).1 := R.out
              have G5 : BRow wo fb n (itS gv sp x n 0).2 := F.out.congr fun j hj => by simp [hj, itS]
              have W5 : Hid (IRow wo (fb + 1) n (wtF gv x)) := W.out.congr fun j hj => by simp [hj]
              have F5 := hide F5
              have G5 := hide G5
              have hfb : sb < fb := by omega
              have L0 : (rk (fr0 gv x) n : Int) = rk (itS gv sp x n 0).2 n := rfl
              rw [L0]
              have hbase : w.heap.size ≤ sb := hsb
              clear W F R hg hk L0
              go_wp2_with fail
              go_loopg [17] (n + 1) (fun g1 vl wr => ∃ (r : Nat), vl = .int .i64 (rk (itS gv sp x n r).2 n : Int) ∧ r ≤ n ∧ rk (itS gv sp x n r).2 n < g1 ∧ Hid (Below w.heap.size w wr) ∧ Hid (IRow wr sb n (itS gv sp x n r).1) ∧ Hid (BRow wr fb n (itS gv sp x n r).2) ∧ Hid (IRow wr (fb + 1) n (wtF gv x)))
              case atStart => exact ⟨0, rfl, by omega, by have := rk_le (itS gv sp x n 0).2 n; omega, B, F5, G5, W5⟩
              case round =>
                clear B F5 G5 W5
                obtain ⟨wo, rfl⟩ : ∃ wo : World, wo = wr := ⟨_, rfl⟩
                obtain ⟨r, rfl, hrn, hg, B, R, F, W⟩ := hrel
                by_cases hp : 0 < rk (itS gv sp x n r).2 n
                · as_aux_lemma =>
                  have hpz : (0 : Int) < (rk (itS gv sp x n r).2 n : Int) := by omega
                  have hlr := it_left (g := gv) (sp := sp) (x := x) (n := n) r
                  have hless := step_less (g := gv) (sp := sp) (x := x) (n := n) (s := (itS gv sp x n r).1) (z := (itS gv sp x n r).2) hp
                  have NX : Hid (∀ i, (itS gv sp x n (r + 1)).1 i = (stepF gv sp x n (itS gv sp x n r).1 (itS gv sp x n r).2 i).1 ∧ (itS gv sp x n (r + 1)).2 i = (stepF gv sp x n (itS gv sp x n r).1 (itS gv sp x n r).2 i).2) := fun i => ⟨rfl, rfl⟩
                  have hless' : rk (itS gv sp x n (r + 1)).2 n < rk (itS gv sp x n r).2 n := hless
                  have hsok : Hid (∀ i, i < n → 0 ≤ (itS gv sp x n r).1 i ∧ (itS gv sp x n r).1 i ≤ 1048576) := fun i hi => it_ok HX.out r hi
                  clear hless
                  generalize (itS gv sp x n r).1 = s at *
                  generalize (itS gv sp x n r).2 = z at *
                  have S5 : Hid (wo.ownsRow wo.heap.size 3 1 (.slice none 0 0) (rk z 0) (vals (rk z 0) (pack z (wtF gv x) 0))) := World.ownsRow_nil _ _ _ _
                  go_wp2_with fail
                  clear hpz
                  go_loopg [19, 20, 21] (n + 1) (fun g2 vf vw vk wr => ∃ (k : Nat) (fr : Int) (uw : Value), vf = .int .i64 fr ∧ vk = .int .i64 (k : Int) ∧ uw = vw ∧ k ≤ n ∧ n - k < g2 ∧ (sp - k * 1048576 ≤ fr ∧ fr ≤ sp) ∧ Hid (fr = sp - sumF (fun i => if z i then s i else (x i).ba) k) ∧ Hid (Below wo.heap.size wo wr) ∧ Hid (wr.ownsRow wo.heap.size 3 1 uw (rk z k) (vals (rk z k) (pack z (wtF gv x) k))))
                  case atStart => exact ⟨0, sp, _, rfl, by go_num, rfl, by omega, by omega, by omega, by show sp = sp - 0; omega, Below.refl _ _, S5⟩
                  case round =>
                    clear S5
                    obtain ⟨wi, rfl⟩ : ∃ wi : World, wi = wr := ⟨_, rfl⟩
                    obtain ⟨k, fr, vw, rfl, rfl, rfl, hk, hg2, ⟨b1, b2⟩, E5, B5, O5⟩ := hrel
                    by_cases hlt : k < n
                    · as_aux_lemma =>
                      have hltz : (k : Int) < (n : Int) := by omega
                      obtain ⟨b, off, rfl, hb, hc⟩ := HR.out (by omega)
                      have cz : wi.cell? ⟨fb, k, none⟩ = some (.bool (z k)) := (B5.out.cell (p := ⟨fb, k, none⟩) F.out.lt).trans (F.out.cell hlt)
                      have cs : wi.cell? ⟨sb, k, none⟩ = some (.int .i64 (s k)) := (B5.out.cell (p := ⟨sb, k, none⟩) R.out.lt).trans (R.out.cell hlt)
                      have cw : wi.cell? ⟨fb + 1, k, none⟩ = some (.int .i64 (wtF gv x k)) := (B5.out.cell (p := ⟨fb + 1, k, none⟩) W.out.lt).trans (W.out.cell hlt)
                      have cb : wi.cell? ⟨b, off + k * 5, none⟩ = some (.int .i64 (x k).ba) := (B5.out.cell (p := ⟨b, off + k * 5, none⟩) (by have := B.out.size; show b < _; omega)).trans ((B.out.cell (p := ⟨b, off + k * 5, none⟩) hb).trans (hc k hlt 0 (by decide)))
                      have o0 := (HX.out k hlt).1
                      have o1 := hsok.out k hlt
                      have er : rk z (k + 1) = rk z k + if z k then 0 else 1 := rfl
                      have ep : pack z (wtF gv x) (k + 1) = fun j => if z k then pack z (wtF gv x) k j else if j = rk z k then wtF gv x k else pack z (wtF gv x) k j := by funext j; rfl
                      have es : sumF (fun i => if z i then s i else (x i).ba) (k + 1) = sumF (fun i => if z i then s i else (x i).ba) k + if z k then s k else (x k).ba := rfl
                      clear hc hb
                      have hzk : Hid (z k = z k) := rfl
                      cases hz : z k with
                      | true =>
                        rw [hz] at cz er es
                        simp only [hz, if_true, Nat.add_zero] at ep er es
                        have ep' : pack z (wtF gv x) (k + 1) = pack z (wtF gv x) k := ep
                        have E6 : Hid (fr - s k = sp - sumF (fun i => if z i then s i else (x i).ba) (k + 1)) := by show _ = _; rw [es, E5.out]; omega
                        have O6 : Hid (wi.ownsRow wo.heap.size 3 1 vw (rk z (k + 1)) (vals (rk z (k + 1)) (pack z (wtF gv x) (k + 1)))) := by rw [er, ep']; exact O5
                        clear er ep ep' es E5 O5 hzk hz cw cb
                        obtain ⟨o11, o12⟩ := o1
                        generalize s k = sk at *
                        go_wp2_with fail
                        go_roundg (n - k)
                        case measure => omega
                        case rel => exact ⟨k + 1, _, _, rfl, by go_num, rfl, by omega, by omega, by omega, E6, B5, O6⟩
                      | false =>
                        rw [hz] at cz er es
                        simp only [hz, Bool.false_eq_true, if_false] at ep er es
                        have E6 : Hid (fr - (x k).ba = sp - sumF (fun i => if z i then s i else (x i).ba) (k + 1)) := by show _ = _; rw [es, E5.out]; omega
                        have ev : vals (rk z (k + 1)) (pack z (wtF gv x) (k + 1)) = vals (rk z k) (pack z (wtF gv x) k) ++ [.int .i64 (wtF gv x k)] := by
                          rw [er, vals_succ, ep]
                          simp only [if_true]
                          congr 1
                          exact vals_congr fun i hi => by rw [if_neg (by omega)]
                        have O5' := O5.out
                        obtain ⟨i0, hi0, hz0, hz1, hz2⟩ := info_parts info_int
                        have wsz : wo.heap.size ≤ wi.heap.size := B5.out.size
                        have rb := rk_le z k
                        have EV : Hid (rk z (k + 1) = rk z k + 1 ∧ vals (rk z (k + 1)) (pack z (wtF gv x) (k + 1)) = vals (rk z k) (pack z (wtF gv x) k) ++ [.int .i64 (wtF gv x k)]) := ⟨er, ev⟩
                        clear er ep es E5 hzk hz cs ev
                        generalize wtF gv x k = wk at *
                        generalize (x k).ba = xk at *
                        obtain ⟨o01, o02⟩ := o0
                        go_wp2_with (at_builtin; refine wpList_append_own _ rfl _ _ 22 rfl wo.heap.size 3 i0 (.int .i64 0) 1 8 Try.underlying22 hi0 hz0 hz1 hz2 rfl (by decide) _ _ _ rfl (O5'.alloc _) ⟨wi.heap.size, 0, none⟩ 1 1 [.int .i64 wk] rfl rfl ?c1 ?c2 ?c3 ?c4 ?c5 ?_)
                        case c1 =>
                          intro j u hj
                          match j, hj with
                          | 0, hj => simp at hj; subst hj; simp [Addr.add]
                        case c2 => intro u hu; simp at hu; subst hu; rfl
                        case c3 => unfold maxLen; omega
                        case c4 => omega
                        case c5 => simp; omega
                        · intro v' w6 hown' hgrow hnil
                          have NX5 : Hid (Below wo.heap.size wo w6) := below_appended (B5.out.alloc B5.out.size _) hgrow (own_lt O5')
                          have NO5 : Hid (w6.ownsRow wo.heap.size 3 1 v' (rk z (k + 1)) (vals (rk z (k + 1)) (pack z (wtF gv x) (k + 1)))) := by rw [EV.out.1, ← EV.out.1, EV.out.2, EV.out.1]; exact hown'
                          clear hown' hgrow O5' O5 hnil EV
                          go_wp2_with fail
                          go_roundg (n - k)
                          case measure => omega
                          case rel => exact ⟨k + 1, _, _, rfl, by go_num, rfl, by omega, by omega, by omega, E6, NX5, NO5⟩
                    · as_aux_lemma =>
                      have hltz : ¬ (k : Int) < (n : Int) := by omega
                      obtain rfl : n = k := by omega
                      have E7 : Hid (fr = freF sp x n s z) := E5.out
                      have ⟨pw, cw, hvw, RW⟩ := own_vals O5.out
                      subst hvw
                      have RW := hide RW
                      have fb1 := fre_bd (sp := sp) (x := x) (n := n) (s := s) (z := z) HX.out hsok.out
                      rw [← E7.out] at fb1
                      have hsg : sgF gv = 1 ∨ sgF gv = -1 := by cases gv <;> simp [sgF]
                      have hm0 : -209715200 ≤ sgF gv * fr ∧ sgF gv * fr ≤ 209715200 := by rcases hsg with h | h <;> rw [h] <;> omega
                      clear E5 O5 hk hg2 b1 b2 fb1 hsg
                      go_upto_if 247 with fail
                      go_cut [22] from 213 to 368 (fun v22 wx => v22 = .int .i64 (sgF gv) ∧ wi = wx)
                      case first =>
                        cases gv with
                        | true =>
                          go_wp2_with fail
                          go_meet
                          exact ⟨rfl, rfl⟩
                        | false =>
                          go_wp2_with fail
                          go_meet
                          exact ⟨rfl, rfl⟩
                      case rest =>
                        as_aux_lemma =>
                        obtain ⟨rfl, rfl⟩ := hcut
                        have hT : totF gv sp x n s z = max 0 (sgF gv * fr) := by unfold totF; rw [E7.out]
                        have hgood : Good (pack z (wtF gv x) n) (rk z n) := pack_good HX.out
                        have hrkn : rk z n ≤ n := rk_le z n
                        have RS : ∀ T : Int, T = totF gv sp x n s z → Hid (Calls Try.prog 39 #[.int .i64 T, .slice pw (rk z n) cw] wi fun e w' => e = .returned (.tuple #[.slice (some ⟨wi.heap.size, 0, none⟩) (rk z n) (rk z n), .int .i64 0]) ∧ Below wo.heap.size wo w' ∧ IRow w' wi.heap.size (rk z n) (shr (totF gv sp x n s z) (pack z (wtF gv x) n) (rk z n))) := fun T hT' => by
                          subst hT'
                          refine (rshare_ok (totF gv sp x n s z) pw (rk z n) cw (pack z (wtF gv x) n) wi RW.out ⟨by omega, by rw [hT]; omega, by rw [hT]; omega, hgood⟩).mono ?_
                          rintro e w' ⟨h1, h2, P, h3, h4⟩
                          exact ⟨h1, B5.out.trans (h2.mono B5.out.size), h4.congr fun i hi => shr_of h3 hi⟩
                        have hP : Hid (∀ i, i < n → z i = false → 0 ≤ shr (totF gv sp x n s z) (pack z (wtF gv x) n) (rk z n) (rk z i) ∧ shr (totF gv sp x n s z) (pack z (wtF gv x) n) (rk z n) (rk z i) ≤ 209715200) := fun i hi hz => by
                          have q := shr_bd (T := totF gv sp x n s z) hgood (by rw [hT]; omega) (rk_lt hi hz)
                          have : totF gv sp x n s z ≤ 209715200 := by rw [hT]; omega
                          omega
                        have hsp : wo.heap.size ≤ wi.heap.size := B5.out.size
                        have HT := hide hT
                        obtain ⟨hm1, hm2⟩ := hm0
                        clear E7 RW hgood hT
                        generalize hT0 : totF gv sp x n s z = T0 at *
                        generalize hPF : shr T0 (pack z (wtF gv x) n) (rk z n) = PF at *
                        have HPF : Hid (∀ i, tgF gv sp x n s z i = (x i).ba + sgF gv * PF (rk z i)) := fun i => by unfold tgF; rw [hT0, hPF]
                        clear hPF hT0
                        go_upto_region 47 with fail
                        go_cut [23, 24] from 213 to 368 (fun v23 v24 wx => v23 = .slice (some ⟨wi.heap.size, 0, none⟩) (rk z n) (rk z n) ∧ v24 = .int .i64 0 ∧ Hid (Below wo.heap.size wo wx) ∧ Hid (IRow wx wi.heap.size (rk z n) PF))
                        case first =>
                          have K := RS (max 0 (sgF gv * fr)) HT.out.symm
                          clear RS
                          go_wp2_with fail
                          refine K.out.mono ?_
                          rintro e w8 ⟨rfl, k1, k2⟩
                          replace k1 := hide k1
                          replace k2 := hide k2
                          go_wp2_with fail
                          go_meet
                          exact ⟨rfl, rfl, k1, k2⟩
                        case rest =>
                          as_aux_lemma =>
                          obtain ⟨rfl, rfl, B8, P8⟩ := hcut
                          clear HT hm1 hm2 B5
                          have hmk : ∀ W : World, (Instr.makeSlice 22 (.int .i64 (n : Int)) (.int .i64 (n : Int))).run Try.prog W = .ok (.slice (some ⟨W.heap.size, 0, none⟩) n n) (W.alloc (.cells (ints n (fun _ => 0)) 3)) := make_ints n (by omega)
                          have B9 : Hid (Below wo.heap.size wo (wc.alloc (.cells (ints n fun _ => 0) 3))) := B8.out.alloc B8.out.size _
                          have P9 : Hid (IRow (wc.alloc (.cells (ints n fun _ => 0) 3)) wi.heap.size (rk z n) PF) := P8.out.alloc _
                          have T9 : Hid (IRow (wc.alloc (.cells (ints n fun _ => 0) 3)) wc.heap.size n (fun j => if j < 0 then (if z j then 0 else tgF gv sp x n s z j) else 0)) := IRow.new wc n _
                          have hpb : wi.heap.size < wc.heap.size := P8.out.lt
                          clear B8 P8
                          go_wp2_with fail
                          clear hmk
                          generalize hw9 : wc.alloc (.cells (ints n fun _ => 0) 3) = w9 at B9 P9 T9 ⊢
                          clear hw9
                          generalize wc.heap.size = tb at T9 hpb ⊢
                          generalize wi.heap.size = pb at P9 hpb hsp ⊢
                          have tbd : Hid (∀ i, i < n → z i = false → -209715200 ≤ tgF gv sp x n s z i ∧ tgF gv sp x n s z i ≤ 210763776) := fun i hi hz => by
                            have q := hP.out i hi hz
                            have b0 := (HX.out i hi).1
                            rw [HPF.out i]
                            cases gv <;> simp [sgF] <;> omega
                          go_loopg [26, 27, 28] (n + 1) (fun g2 vv vi vk wr => ∃ (i : Nat) (v : Int), vv = .int .i64 v ∧ vi = .int .i64 (i : Int) ∧ vk = .int .i64 (rk z i : Int) ∧ i ≤ n ∧ n - i < g2 ∧ (-(i : Int) * 300000000 ≤ v ∧ v ≤ i * 300000000) ∧ Hid (v = sumF (fun j => if z j then 0 else clF (x j) (tgF gv sp x n s z j) - tgF gv sp x n s z j) i) ∧ Hid (Below wo.heap.size wo wr) ∧ Hid (IRow wr pb (rk z n) PF) ∧ Hid (IRow wr tb n (fun j => if j < i then (if z j then 0 else tgF gv sp x n s z j) else 0)))
                          case atStart => exact ⟨0, 0, rfl, by go_num, by go_num, by omega, by omega, by omega, rfl, B9, P9, T9⟩
                          case round =>
                            clear B9 P9 T9
                            obtain ⟨wj, rfl⟩ : ∃ wj : World, wj = wr := ⟨_, rfl⟩
                            obtain ⟨i, v, rfl, rfl, rfl, hi, hg2, ⟨b1, b2⟩, E6, B6, P6, T6⟩ := hrel
                            by_cases hlt : i < n
                            · as_aux_lemma =>
                              have hltz : (i : Int) < (n : Int) := by omega
                              obtain ⟨b, off, rfl, hb, hc⟩ := HR.out (by omega)
                              have cz : wj.cell? ⟨fb, i, none⟩ = some (.bool (z i)) := (B6.out.cell (p := ⟨fb, i, none⟩) F.out.lt).trans (F.out.cell hlt)
                              have er : rk z (i + 1) = rk z i + if z i then 0 else 1 := rfl
                              have es : sumF (fun j => if z j then 0 else clF (x j) (tgF gv sp x n s z j) - tgF gv sp x n s z j) (i + 1) = sumF (fun j => if z j then 0 else clF (x j) (tgF gv sp x n s z j) - tgF gv sp x n s z j) i + if z i then 0 else clF (x i) (tgF gv sp x n s z i) - tgF gv sp x n s z i := rfl
                              cases hz : z i with
                              | true =>
                                rw [hz] at cz er es
                                simp only [if_true, Nat.add_zero, Int.add_zero] at er es
                                have E7 : Hid (v = sumF (fun j => if z j then 0 else clF (x j) (tgF gv sp x n s z j) - tgF gv sp x n s z j) (i + 1)) := by show _ = _; rw [es]; exact E6.out
                                have T7 : Hid (IRow wj tb n (fun j => if j < i + 1 then (if z j then 0 else tgF gv sp x n s z j) else 0)) := T6.out.congr fun j hj => by
                                  by_cases h1 : j = i
                                  · subst h1; simp [hz]
                                  · by_cases h2 : j < i
                                    · simp [h2, show j < i + 1 by omega]
                                    · simp [h2, show ¬ j < i + 1 by omega]
                                clear es E6 T6 hc hz
                                go_wp2_with fail
                                go_roundg (n - i)
                                case measure => omega
                                case rel => exact ⟨i + 1, v, rfl, by go_num, by rw [er], by omega, by omega, by omega, E7, B6, P6, T7⟩
                              | false =>
                                rw [hz] at cz er es
                                simp only [Bool.false_eq_true, if_false] at er es
                                have hq := hP.out i hlt hz
                                have htb := tbd.out i hlt hz
                                have hT := HPF.out i
                                have o0 := HX.out i hlt
                                have hrz := rk_lt hlt hz
                                have hcl := cl_bd (x i) (tgF gv sp x n s z i)
                                have hcb : 0 ≤ clF (x i) (tgF gv sp x n s z i) ∧ clF (x i) (tgF gv sp x n s z i) ≤ 1048576 := by
                                  obtain ⟨_, h2, h3, _⟩ := o0
                                  by_cases h : (x i).mx < (x i).mn
                                  · have := hcl.2.2 h; omega
                                  · have := hcl.2.1 (by omega); omega
                                have KC : ∀ W, Hid (Calls Try.prog 22 #[.int .i64 (tgF gv sp x n s z i), .int .i64 (x i).mn, .int .i64 (x i).mx] W fun e w' => e = .returned (.int .i64 (clF (x i) (tgF gv sp x n s z i))) ∧ Grew W w') := fun W => (rClamp_any (tgF gv sp x n s z i) (x i).mn (x i).mx W).mono (by rintro e w' ⟨rfl, rfl⟩; exact ⟨rfl, Grew.refl _⟩)
                                have gx : Hid (∀ W, Grew wj W → ∀ j, j < 5 → W.cell? ⟨b, off + i * 5 + j, none⟩ = some (fxC x i j)) := fun W hG j hj => (hG.1.cell (p := ⟨b, off + i * 5 + j, none⟩) (by have := B6.out.size; have := B.out.size; show b < _; omega)).trans ((B6.out.cell (p := ⟨b, off + i * 5 + j, none⟩) (by have := B.out.size; show b < _; omega)).trans ((B.out.cell (p := ⟨b, off + i * 5 + j, none⟩) hb).trans (hc i hlt j hj)))
                                have gp : Hid (∀ W, Grew wj W → W.cell? ⟨pb, rk z i, none⟩ = some (.int .i64 (PF (rk z i)))) := fun W hG => (hG.1.cell (p := ⟨pb, rk z i, none⟩) P6.out.lt).trans (P6.out.cell hrz)
                                have gt : Hid (∀ W, Grew wj W → W.frozen? ⟨tb, i, none⟩ = false ∧ W.cell? ⟨tb, i, none⟩ = some (.int .i64 0)) := fun W hG => by
                                  have r := T6.out.below hG.1 T6.out.lt
                                  have q := r.cell hlt
                                  simp at q
                                  exact ⟨r.frozen i, q⟩
                                have S7 : Hid (∀ W, Grew wj W → Hid (Below wo.heap.size wo (W.setCell ⟨tb, i, none⟩ (.int .i64 (tgF gv sp x n s z i)))) ∧ Hid (IRow (W.setCell ⟨tb, i, none⟩ (.int .i64 (tgF gv sp x n s z i))) pb (rk z n) PF) ∧ Hid (IRow (W.setCell ⟨tb, i, none⟩ (.int .i64 (tgF gv sp x n s z i))) tb n (fun j => if j < i + 1 then (if z j then 0 else tgF gv sp x n s z j) else 0)) ∧ Hid (∀ W2, Grew (W.setCell ⟨tb, i, none⟩ (.int .i64 (tgF gv sp x n s z i))) W2 → W2.cell? ⟨tb, i, none⟩ = some (.int .i64 (tgF gv sp x n s z i)) ∧ ∀ j, j < 5 → W2.cell? ⟨b, off + i * 5 + j, none⟩ = some (fxC x i j))) := fun W hG => by
                                  have B7 : Below wo.heap.size wo (W.setCell ⟨tb, i, none⟩ (.int .i64 (tgF gv sp x n s z i))) := (B6.out.trans (hG.1.mono B6.out.size)).setCell (by show wo.heap.size ≤ tb; omega) _
                                  have T7 : IRow (W.setCell ⟨tb, i, none⟩ (.int .i64 (tgF gv sp x n s z i))) tb n (fun j => if j < i + 1 then (if z j then 0 else tgF gv sp x n s z j) else 0) := by
                                    refine ((T6.out.below hG.1 T6.out.lt).set_ i _).congr fun j hj => ?_
                                    by_cases h1 : j = i
                                    · subst h1; simp [hz]
                                    · by_cases h2 : j < i
                                      · simp [h1, h2, show j < i + 1 by omega]
                                      · simp [h1, h2, show ¬ j < i + 1 by omega]
                                  refine ⟨B7, (P6.out.below hG.1 P6.out.lt).far (by show pb ≠ tb; omega) _, T7, fun W2 h2 => ⟨?_, fun j hj => ?_⟩⟩
                                  · have q := T7.cell hlt
                                    simp [hz] at q
                                    exact (h2.1.cell (p := ⟨tb, i, none⟩) T7.lt).trans q
                                  · have hbo : b < wo.heap.size := by have := B.out.size; omega
                                    exact (h2.1.cell (p := ⟨b, off + i * 5 + j, none⟩) (by have := B7.size; show b < _; omega)).trans ((B7.cell (p := ⟨b, off + i * 5 + j, none⟩) hbo).trans ((B.out.cell (p := ⟨b, off + i * 5 + j, none⟩) hb).trans (hc i hlt j hj)))
                                have E7 : Hid (v + (clF (x i) (tgF gv sp x n s z i) - tgF gv sp x n s z i) = sumF (fun j => if z j then 0 else clF (x j) (tgF gv sp x n s z j) - tgF gv sp x n s z j) (i + 1)) := by show _ = _; rw [es, E6.out]
                                have er := hide er
                                clear es E6 B6 P6 T6 hc hb hcl o0
                                have c0 : ∀ q os, (grow (wj.drewN q) os).cell? ⟨b, off + i * 5, none⟩ = some (.int .i64 (x i).ba) := fun q os => gx.out _ (((Grew.refl wj).drewN q).grow os) 0 (by decide)
                                have c1 : ∀ q os, (grow (wj.drewN q) os).cell? ⟨pb, rk z i, none⟩ = some (.int .i64 (PF (rk z i))) := fun q os => gp.out _ (((Grew.refl wj).drewN q).grow os)
                                have hrz1 : (rk z i : Int) < (rk z n : Int) := by omega
                                have hrz0 : (0 : Int) ≤ (rk z i : Int) := by omega
                                have hi0 : (0 : Int) ≤ (i : Int) := by omega
                                have wm : IntKind.i64.wrap (sgF gv * PF (rk z i)) = sgF gv * PF (rk z i) := by cases gv <;> simp only [sgF] <;> exact wr (by simp; omega) (by simp; omega)
                                have wa : IntKind.i64.wrap ((x i).ba + sgF gv * PF (rk z i)) = tgF gv sp x n s z i := by rw [← hT]; exact wr (by omega) (by omega)
                                clear hT hq gx gp
                                generalize tgF gv sp x n s z i = T at *
                                generalize clF (x i) T = C at *
                                obtain ⟨t1, t2⟩ := htb
                                obtain ⟨cc1, cc2⟩ := hcb
                                generalize PF (rk z i) = Q at *
                                generalize (x i).ba = xb at *
                                generalize sgF gv = sg at *
                                go_wp2_with fail
                                refine wp_region_stores 15 [fun W => W.setCell ⟨tb, i, none⟩ (.int .i64 T)] (by decide +kernel) rfl (by show mixB _ (storeIdx 15 1) _ = true; decide +kernel) (by decide +kernel) (by show chainUp _ 15 1 = true; decide +kernel) ?_
                                simp only [List.take_succ_cons, List.take_zero, List.drop_succ_cons, List.drop_zero]
                                iterate 15 ((with_reducible refine lex_calm ?_ ?_ ?_); exact rfl; (first | exact wanted_free rfl | exact wanted_yes rfl rfl rfl); intro K hK; go_simp; first | (refine hK _ ?_; clear hK K) | (apply Exists.intro; refine ⟨fun _ _ => ?_, hK _ ?_⟩; (fail); clear hK K))
                                refine lex_nil ?_
                                refine stores_cons rfl ?_ ?_
                                · intro wn Gn
                                  have ⟨z1, z2⟩ := gt.out wn Gn
                                  go_simp
                                refine stores_nil ?_
                                intro wn Gn
                                go_simp
                                have ⟨B7, P7, T7, X7⟩ := S7.out wn Gn
                                clear S7 gt c0 c1 wm wa Gn
                                generalize wn.setCell ⟨tb, i, none⟩ (.int .i64 T) = w7 at *
                                have d0 : ∀ q os, (grow (w7.drewN q) os).cell? ⟨tb, i, none⟩ = some (.int .i64 T) := fun q os => (X7.out _ (((Grew.refl w7).drewN q).grow os)).1
                                have d1 : ∀ q os, (grow (w7.drewN q) os).cell? ⟨b, off + i * 5 + 1, none⟩ = some (.int .i64 (x i).mn) := fun q os => (X7.out _ (((Grew.refl w7).drewN q).grow os)).2 1 (by decide)
                                have d2 : ∀ q os, (grow (w7.drewN q) os).cell? ⟨b, off + i * 5 + 2, none⟩ = some (.int .i64 (x i).mx) := fun q os => (X7.out _ (((Grew.refl w7).drewN q).grow os)).2 2 (by decide)
                                have w1 : IntKind.i64.wrap (C - T) = C - T := wr (by omega) (by omega)
                                have w2 : IntKind.i64.wrap (v + (C - T)) = v + (C - T) := wr (by omega) (by omega)
                                clear X7
                                generalize (x i).mn = xm at *
                                generalize (x i).mx = xM at *
                                go_wp2_with fail
                                refine wp_region_calm (by kernel_rfl) (by kernel_rfl) ?_
                                repeat (first | (refine lex_skip rfl (by rfl) ?_) | (refine lex_calm rfl (by rfl) (fun K hK => ?_); go_simp; first | (refine hK _ ?_; clear hK K) | (apply Exists.intro; refine ⟨fun _ _ => ?_, hK _ ?_⟩; (with_reducible exact (KC _).out); clear hK K)))
                                refine lex_nil ?_
                                intro w8 G8
                                have B8 : Hid (Below wo.heap.size wo w8) := B7.out.trans (G8.1.mono B7.out.size)
                                have P8 : Hid (IRow w8 pb (rk z n) PF) := P7.out.below G8.1 P7.out.lt
                                have T8 : Hid (IRow w8 tb n (fun j => if j < i + 1 then (if z j then 0 else tgF gv sp x n s z j) else 0)) := T7.out.below G8.1 T7.out.lt
                                clear G8 B7 P7 T7 d0 d1 d2 KC
                                go_wp2_with fail
                                go_roundg (n - i)
                                case measure => omega
                                case rel => exact ⟨i + 1, _, rfl, by go_num, by rw [er.out]; push_cast; rfl, by omega, by omega, by omega, E7, B8, P8, T8⟩
                            · as_aux_lemma =>
                              have hltz : ¬ (i : Int) < (n : Int) := by omega
                              obtain rfl : n = i := by omega
                              have E8 : Hid (v = vioF gv sp x n s z) := E6.out
                              have BB : Hid (Below w.heap.size w wj) := B.out.trans (B6.out.mono B.out.size)
                              have RR : Hid (IRow wj sb n (fun j => if j < 0 then (stepF gv sp x n s z j).1 else s j)) := (R.out.below B6.out R.out.lt).congr fun j hj => by simp
                              have FF : Hid (BRow wj fb n (fun j => if j < 0 then (stepF gv sp x n s z j).2 else z j)) := (F.out.below B6.out F.out.lt).congr fun j hj => by simp
                              have WW : Hid (IRow wj (fb + 1) n (wtF gv x)) := W.out.below B6.out W.out.lt
                              have TT : Hid (IRow wj tb n (fun j => if z j then 0 else tgF gv sp x n s z j)) := T6.out.congr fun j hj => by simp [hj]
                              have htbb : Hid (wo.heap.size ≤ tb) := by show _ ≤ _; omega
                              have hsbw : Hid (sb < wo.heap.size ∧ fb < wo.heap.size ∧ fb + 1 < wo.heap.size) := ⟨R.out.lt, F.out.lt, W.out.lt⟩
                              have LL : (rk z n : Int) = (rk (fun j => if j < 0 then (stepF gv sp x n s z j).2 else z j) n : Int) := by rw [rk_congr (y := (fun j => if j < 0 then (stepF gv sp x n s z j).2 else z j)) (z := z) fun j hj => by simp]
                              rw [LL]
                              clear LL E6 B6 P6 T6 B R F W hi hg2 hltz hlt hP HPF
                              go_wp2_with fail
                              go_loopg [17, 29] (n + 1) (fun g3 vl vi wr => ∃ (i : Nat), vl = .int .i64 (rk (fun j => if j < i then (stepF gv sp x n s z j).2 else z j) n : Int) ∧ vi = .int .i64 (i : Int) ∧ i ≤ n ∧ n - i < g3 ∧ Hid (Below w.heap.size w wr) ∧ Hid (IRow wr sb n (fun j => if j < i then (stepF gv sp x n s z j).1 else s j)) ∧ Hid (BRow wr fb n (fun j => if j < i then (stepF gv sp x n s z j).2 else z j)) ∧ Hid (IRow wr (fb + 1) n (wtF gv x)) ∧ Hid (IRow wr tb n (fun j => if z j then 0 else tgF gv sp x n s z j)))
                              case atStart => exact ⟨0, rfl, by go_num, by omega, by omega, BB, RR, FF, WW, TT⟩
                              case round =>
                                clear BB RR FF WW TT
                                obtain ⟨wk, rfl⟩ : ∃ wk : World, wk = wr := ⟨_, rfl⟩
                                obtain ⟨i, rfl, rfl, hi, hg3, B, R, F, W, T⟩ := hrel
                                by_cases hlt : i < n
                                · as_aux_lemma =>
                                  have hltz : (i : Int) < (n : Int) := by omega
                                  have hi0 : (0 : Int) ≤ (i : Int) := by omega
                                  have cz : wk.cell? ⟨fb, i, none⟩ = some (.bool (z i)) := by
                                    have := F.out.cell hlt
                                    simpa using this
                                  cases hz : z i with
                                  | true =>
                                    have h1 : (stepF gv sp x n s z i).1 = s i := by simp [stepF, hz]
                                    have h2 : (stepF gv sp x n s z i).2 = z i := by simp [stepF, hz]
                                    rw [hz] at cz
                                    have R2 : Hid (IRow wk sb n (fun j => if j < i + 1 then (stepF gv sp x n s z j).1 else s j)) := by rw [cut_same (a := fun j => (stepF gv sp x n s z j).1) (b := s) h1]; exact R
                                    have F2 : Hid (BRow wk fb n (fun j => if j < i + 1 then (stepF gv sp x n s z j).2 else z j)) := by rw [cut_same (a := fun j => (stepF gv sp x n s z j).2) (b := z) h2]; exact F
                                    have L2 : (fun j => if j < i then (stepF gv sp x n s z j).2 else z j) = (fun j => if j < i + 1 then (stepF gv sp x n s z j).2 else z j) := (cut_same (a := fun j => (stepF gv sp x n s z j).2) (b := z) h2).symm
                                    rw [L2]
                                    clear R F h1 h2 hz L2
                                    go_wp2_with fail
                                    go_roundg (n - i)
                                    case measure => omega
                                    case rel => exact ⟨i + 1, rfl, by go_num, by omega, by omega, B, R2, F2, W, T⟩
                                  | false =>
                                    rw [hz] at cz
                                    obtain ⟨b, off, rfl, hb, hc⟩ := HR.out (by omega)
                                    have htg := tbd.out i hlt hz
                                    have o0 := HX.out i hlt
                                    have hcl := cl_bd (x i) (tgF gv sp x n s z i)
                                    have hcb : 0 ≤ clF (x i) (tgF gv sp x n s z i) ∧ clF (x i) (tgF gv sp x n s z i) ≤ 1048576 := by
                                      obtain ⟨_, h2, h3, _⟩ := o0
                                      by_cases h : (x i).mx < (x i).mn
                                      · have := hcl.2.2 h; omega
                                      · have := hcl.2.1 (by omega); omega
                                    have KC : ∀ W, Hid (Calls Try.prog 22 #[.int .i64 (tgF gv sp x n s z i), .int .i64 (x i).mn, .int .i64 (x i).mx] W fun e w' => e = .returned (.int .i64 (clF (x i) (tgF gv sp x n s z i))) ∧ Grew W w') := fun W => (rClamp_any (tgF gv sp x n s z i) (x i).mn (x i).mx W).mono (by rintro e w' ⟨rfl, rfl⟩; exact ⟨rfl, Grew.refl _⟩)
                                    have ct := T.out.cell hlt
                                    simp only [hz, Bool.false_eq_true, if_false] at ct
                                    have d0 : ∀ q os, (grow (wk.drewN q) os).cell? ⟨tb, i, none⟩ = some (.int .i64 (tgF gv sp x n s z i)) := fun q os => ((((Grew.refl wk).drewN q).grow os).1.cell (p := ⟨tb, i, none⟩) T.out.lt).trans ct
                                    have hbk : b < wk.heap.size := by have := B.out.size; omega
                                    have d1 : ∀ q os, (grow (wk.drewN q) os).cell? ⟨b, off + i * 5 + 1, none⟩ = some (.int .i64 (x i).mn) := fun q os => ((((Grew.refl wk).drewN q).grow os).1.cell (p := ⟨b, off + i * 5 + 1, none⟩) hbk).trans ((B.out.cell (p := ⟨b, off + i * 5 + 1, none⟩) hb).trans (hc i hlt 1 (by decide)))
                                    have d2 : ∀ q os, (grow (wk.drewN q) os).cell? ⟨b, off + i * 5 + 2, none⟩ = some (.int .i64 (x i).mx) := fun q os => ((((Grew.refl wk).drewN q).grow os).1.cell (p := ⟨b, off + i * 5 + 2, none⟩) hbk).trans ((B.out.cell (p := ⟨b, off + i * 5 + 2, none⟩) hb).trans (hc i hlt 2 (by decide)))
                                    have NO : Hid (hitB v (clF (x i) (tgF gv sp x n s z i)) (tgF gv sp x n s z i) = false → (stepF gv sp x n s z i).1 = s i ∧ (stepF gv sp x n s z i).2 = z i) := fun h => by
                                      rw [E8.out] at h
                                      simp [stepF, hz, h]
                                    have YES : Hid (hitB v (clF (x i) (tgF gv sp x n s z i)) (tgF gv sp x n s z i) = true → (stepF gv sp x n s z i).1 = clF (x i) (tgF gv sp x n s z i) ∧ (stepF gv sp x n s z i).2 = true) := fun h => by
                                      rw [E8.out] at h
                                      simp [stepF, hz, h]
                                    clear hc hb hcl o0
                                    generalize tgF gv sp x n s z i = T0 at d0 htg hcb KC ct NO YES
                                    generalize clF (x i) T0 = C at hcb KC NO YES
                                    generalize (x i).mn = xm at d1 KC
                                    generalize (x i).mx = xM at d2 KC
                                    obtain ⟨t1, t2⟩ := htg
                                    obtain ⟨cc1, cc2⟩ := hcb
                                    have zi0 : (fun j => if j < i then (stepF gv sp x n s z j).2 else z j) i = false := by simp [hz]
                                    go_wp2_with fail
                                    refine wp_region_calm (by kernel_rfl) (by kernel_rfl) ?_
                                    repeat (first | (refine lex_skip rfl (by rfl) ?_) | (refine lex_calm rfl (by rfl) (fun K hK => ?_); go_simp; first | (refine hK _ ?_; clear hK K) | (apply Exists.intro; refine ⟨fun _ _ => ?_, hK _ ?_⟩; (with_reducible exact (KC _).out); clear hK K)))
                                    refine lex_nil ?_
                                    intro w8 G8
                                    have B8 : Hid (Below w.heap.size w w8) := B.out.trans (G8.1.mono B.out.size)
                                    have R8 : Hid (IRow w8 sb n (fun j => if j < i then (stepF gv sp x n s z j).1 else s j)) := R.out.below G8.1 R.out.lt
                                    have F8 : Hid (BRow w8 fb n (fun j => if j < i then (stepF gv sp x n s z j).2 else z j)) := F.out.below G8.1 F.out.lt
                                    have W8 : Hid (IRow w8 (fb + 1) n (wtF gv x)) := W.out.below G8.1 W.out.lt
                                    have T8 : Hid (IRow w8 tb n (fun j => if z j then 0 else tgF gv sp x n s z j)) := T.out.below G8.1 T.out.lt
                                    have e0 : w8.cell? ⟨tb, i, none⟩ = some (.int .i64 T0) := (G8.1.cell (p := ⟨tb, i, none⟩) T.out.lt).trans ct
                                    clear G8 d0 d1 d2 KC B R F W T cz ct
                                    have key : (v = 0 ∧ True) ∨ (0 < v ∧ T0 < C) ∨ (0 < v ∧ ¬ T0 < C) ∨ (v < 0 ∧ C < T0) ∨ (v < 0 ∧ ¬ C < T0) := by
                                      rcases Int.lt_trichotomy v 0 with h | h | h
                                      · by_cases h2 : C < T0
                                        · exact Or.inr (Or.inr (Or.inr (Or.inl ⟨h, h2⟩)))
                                        · exact Or.inr (Or.inr (Or.inr (Or.inr ⟨h, h2⟩)))
                                      · exact Or.inl ⟨h, trivial⟩
                                      · by_cases h2 : T0 < C
                                        · exact Or.inr (Or.inl ⟨h, h2⟩)
                                        · exact Or.inr (Or.inr (Or.inl ⟨h, h2⟩))
                                    rcases key with ⟨hv, hh⟩ | ⟨hv, hh⟩ | ⟨hv, hh⟩ | ⟨hv, hh⟩ | ⟨hv, hh⟩
                                    · as_aux_lemma =>
                                      have hh2 : hitB v C T0 = true := by simp [hitB, hv]
                                      have hv1 : (v == 0) = true := by simpa using hv
                                      have ⟨h1, h2⟩ := YES.out hh2
                                      have r0 := R8.out.cell hlt
                                      have r1 := R8.out.frozen i
                                      have f0 := F8.out.cell hlt
                                      have f1 := F8.out.frozen i
                                      simp only [Nat.lt_irrefl, if_false] at r0 f0
                                      have hsf : Hid (sb ≠ fb ∧ fb ≠ sb ∧ fb + 1 ≠ sb ∧ fb + 1 ≠ fb ∧ tb ≠ sb ∧ tb ≠ fb) := by have := hsbw.out; have := htbb.out; refine ⟨?_, ?_, ?_, ?_, ?_, ?_⟩ <;> omega
                                      have hne1 := hsf.out.1
                                      have B9 : Hid (Below w.heap.size w ((w8.setCell ⟨sb, i, none⟩ (.int .i64 C)).setCell ⟨fb, i, none⟩ (.bool true))) := (B8.out.setCell (by show w.heap.size ≤ sb; omega) _).setCell (by show w.heap.size ≤ fb; omega) _
                                      have R9 : Hid (IRow ((w8.setCell ⟨sb, i, none⟩ (.int .i64 C)).setCell ⟨fb, i, none⟩ (.bool true)) sb n (fun j => if j < i + 1 then (stepF gv sp x n s z j).1 else s j)) := by
                                        rw [cut_set (a := fun j => (stepF gv sp x n s z j).1) (b := s), h1]
                                        exact (R8.out.set_ i C).far (by show sb ≠ fb; exact hsf.out.1) _
                                      have F9 : Hid (BRow ((w8.setCell ⟨sb, i, none⟩ (.int .i64 C)).setCell ⟨fb, i, none⟩ (.bool true)) fb n (fun j => if j < i + 1 then (stepF gv sp x n s z j).2 else z j)) := by
                                        rw [cut_set (a := fun j => (stepF gv sp x n s z j).2) (b := z), h2]
                                        exact (F8.out.far (by show fb ≠ sb; exact hsf.out.2.1) _).set_ i true
                                      have W9 : Hid (IRow ((w8.setCell ⟨sb, i, none⟩ (.int .i64 C)).setCell ⟨fb, i, none⟩ (.bool true)) (fb + 1) n (wtF gv x)) := (W8.out.far (by show fb + 1 ≠ sb; exact hsf.out.2.2.1) _).far (by show fb + 1 ≠ fb; exact hsf.out.2.2.2.1) _
                                      have T9 : Hid (IRow ((w8.setCell ⟨sb, i, none⟩ (.int .i64 C)).setCell ⟨fb, i, none⟩ (.bool true)) tb n (fun j => if z j then 0 else tgF gv sp x n s z j)) := (T8.out.far (by show tb ≠ sb; exact hsf.out.2.2.2.2.1) _).far (by show tb ≠ fb; exact hsf.out.2.2.2.2.2) _
                                      have f2 : (w8.setCell ⟨sb, i, none⟩ (.int .i64 C)).cell? ⟨fb, i, none⟩ = some (.bool (z i)) := by
                                        have := (F8.out.far (p := ⟨sb, i, none⟩) (by show fb ≠ sb; exact hsf.out.2.1) (.int .i64 C)).cell hlt
                                        simpa using this
                                      have f3 : (w8.setCell ⟨sb, i, none⟩ (.int .i64 C)).frozen? ⟨fb, i, none⟩ = false := (F8.out.far (p := ⟨sb, i, none⟩) (by show fb ≠ sb; exact hsf.out.2.1) (.int .i64 C)).frozen i
                                      have L9 : (rk (fun j => if j < i then (stepF gv sp x n s z j).2 else z j) n : Int) - 1 = (rk (fun j => if j < i + 1 then (stepF gv sp x n s z j).2 else z j) n : Int) := by
                                        have := rk_set (z := (fun j => if j < i then (stepF gv sp x n s z j).2 else z j)) hlt zi0
                                        rw [cut_set (a := fun j => (stepF gv sp x n s z j).2) (b := z), h2]
                                        omega
                                      have L8 := rk_le (fun j => if j < i then (stepF gv sp x n s z j).2 else z j) n
                                      have wl : IntKind.i64.wrap ((rk (fun j => if j < i then (stepF gv sp x n s z j).2 else z j) n : Int) - 1) = (rk (fun j => if j < i + 1 then (stepF gv sp x n s z j).2 else z j) n : Int) := by rw [← L9]; have := rk_set (z := (fun j => if j < i then (stepF gv sp x n s z j).2 else z j)) hlt zi0; exact wr (by omega) (by omega)
                                      clear YES NO R8 F8 W8 T8 B8 h1 h2 f0 f1 hh2 zi0
                                      generalize (fun j => if j < i then (stepF gv sp x n s z j).2 else z j) = zc at *
                                      go_wp2_with fail
                                      clear r0 r1 f2 f3 e0
                                      generalize ((w8.setCell ⟨sb, i, none⟩ (.int .i64 C)).setCell ⟨fb, i, none⟩ (.bool true)) = w9 at *
                                      go_roundg (n - i)
                                      case measure => omega
                                      case rel => exact ⟨i + 1, rfl, by go_num, by omega, by omega, B9, R9, F9, W9, T9⟩
                                    · as_aux_lemma =>
                                      have hh2 : hitB v C T0 = true := by simp [hitB, hv, hh]
                                      have hv1 : (v == 0) = false := by simp; omega
                                      have ⟨h1, h2⟩ := YES.out hh2
                                      have r0 := R8.out.cell hlt
                                      have r1 := R8.out.frozen i
                                      have f0 := F8.out.cell hlt
                                      have f1 := F8.out.frozen i
                                      simp only [Nat.lt_irrefl, if_false] at r0 f0
                                      have hsf : Hid (sb ≠ fb ∧ fb ≠ sb ∧ fb + 1 ≠ sb ∧ fb + 1 ≠ fb ∧ tb ≠ sb ∧ tb ≠ fb) := by have := hsbw.out; have := htbb.out; refine ⟨?_, ?_, ?_, ?_, ?_, ?_⟩ <;> omega
                                      have hne1 := hsf.out.1
                                      have B9 : Hid (Below w.heap.size w ((w8.setCell ⟨sb, i, none⟩ (.int .i64 C)).setCell ⟨fb, i, none⟩ (.bool true))) := (B8.out.setCell (by show w.heap.size ≤ sb; omega) _).setCell (by show w.heap.size ≤ fb; omega) _
                                      have R9 : Hid (IRow ((w8.setCell ⟨sb, i, none⟩ (.int .i64 C)).setCell ⟨fb, i, none⟩ (.bool true)) sb n (fun j => if j < i + 1 then (stepF gv sp x n s z j).1 else s j)) := by
                                        rw [cut_set (a := fun j => (stepF gv sp x n s z j).1) (b := s), h1]
                                        exact (R8.out.set_ i C).far (by show sb ≠ fb; exact hsf.out.1) _
                                      have F9 : Hid (BRow ((w8.setCell ⟨sb, i, none⟩ (.int .i64 C)).setCell ⟨fb, i, none⟩ (.bool true)) fb n (fun j => if j < i + 1 then (stepF gv sp x n s z j).2 else z j)) := by
                                        rw [cut_set (a := fun j => (stepF gv sp x n s z j).2) (b := z), h2]
                                        exact (F8.out.far (by show fb ≠ sb; exact hsf.out.2.1) _).set_ i true
                                      have W9 : Hid (IRow ((w8.setCell ⟨sb, i, none⟩ (.int .i64 C)).setCell ⟨fb, i, none⟩ (.bool true)) (fb + 1) n (wtF gv x)) := (W8.out.far (by show fb + 1 ≠ sb; exact hsf.out.2.2.1) _).far (by show fb + 1 ≠ fb; exact hsf.out.2.2.2.1) _
                                      have T9 : Hid (IRow ((w8.setCell ⟨sb, i, none⟩ (.int .i64 C)).setCell ⟨fb, i, none⟩ (.bool true)) tb n (fun j => if z j then 0 else tgF gv sp x n s z j)) := (T8.out.far (by show tb ≠ sb; exact hsf.out.2.2.2.2.1) _).far (by show tb ≠ fb; exact hsf.out.2.2.2.2.2) _
                                      have f2 : (w8.setCell ⟨sb, i, none⟩ (.int .i64 C)).cell? ⟨fb, i, none⟩ = some (.bool (z i)) := by
                                        have := (F8.out.far (p := ⟨sb, i, none⟩) (by show fb ≠ sb; exact hsf.out.2.1) (.int .i64 C)).cell hlt
                                        simpa using this
                                      have f3 : (w8.setCell ⟨sb, i, none⟩ (.int .i64 C)).frozen? ⟨fb, i, none⟩ = false := (F8.out.far (p := ⟨sb, i, none⟩) (by show fb ≠ sb; exact hsf.out.2.1) (.int .i64 C)).frozen i
                                      have L9 : (rk (fun j => if j < i then (stepF gv sp x n s z j).2 else z j) n : Int) - 1 = (rk (fun j => if j < i + 1 then (stepF gv sp x n s z j).2 else z j) n : Int) := by
                                        have := rk_set (z := (fun j => if j < i then (stepF gv sp x n s z j).2 else z j)) hlt zi0
                                        rw [cut_set (a := fun j => (stepF gv sp x n s z j).2) (b := z), h2]
                                        omega
                                      have L8 := rk_le (fun j => if j < i then (stepF gv sp x n s z j).2 else z j) n
                                      have wl : IntKind.i64.wrap ((rk (fun j => if j < i then (stepF gv sp x n s z j).2 else z j) n : Int) - 1) = (rk (fun j => if j < i + 1 then (stepF gv sp x n s z j).2 else z j) n : Int) := by rw [← L9]; have := rk_set (z := (fun j => if j < i then (stepF gv sp x n s z j).2 else z j)) hlt zi0; exact wr (by omega) (by omega)
                                      clear YES NO R8 F8 W8 T8 B8 h1 h2 f0 f1 hh2 zi0
                                      generalize (fun j => if j < i then (stepF gv sp x n s z j).2 else z j) = zc at *
                                      go_wp2_with fail
                                      clear r0 r1 f2 f3 e0
                                      generalize ((w8.setCell ⟨sb, i, none⟩ (.int .i64 C)).setCell ⟨fb, i, none⟩ (.bool true)) = w9 at *
                                      go_roundg (n - i)
                                      case measure => omega
                                      case rel => exact ⟨i + 1, rfl, by go_num, by omega, by omega, B9, R9, F9, W9, T9⟩
                                    · as_aux_lemma =>
                                      have hh2 : hitB v C T0 = false := by simp [hitB, hh]; omega
                                      have hv1 : (v == 0) = false := by simp; omega
                                      have hv2 : ¬ v < 0 := by omega
                                      have ⟨h1, h2⟩ := NO.out hh2
                                      have R9 : Hid (IRow w8 sb n (fun j => if j < i + 1 then (stepF gv sp x n s z j).1 else s j)) := by rw [cut_same (a := fun j => (stepF gv sp x n s z j).1) (b := s) h1]; exact R8
                                      have F9 : Hid (BRow w8 fb n (fun j => if j < i + 1 then (stepF gv sp x n s z j).2 else z j)) := by rw [cut_same (a := fun j => (stepF gv sp x n s z j).2) (b := z) h2]; exact F8
                                      have L2 : (fun j => if j < i then (stepF gv sp x n s z j).2 else z j) = (fun j => if j < i + 1 then (stepF gv sp x n s z j).2 else z j) := (cut_same (a := fun j => (stepF gv sp x n s z j).2) (b := z) h2).symm
                                      rw [L2]
                                      clear YES NO R8 F8 h1 h2 hh2 zi0 L2
                                      go_wp2_with fail
                                      go_roundg (n - i)
                                      case measure => omega
                                      case rel => exact ⟨i + 1, rfl, by go_num, by omega, by omega, B8, R9, F9, W8, T8⟩
                                    · as_aux_lemma =>
                                      have hh2 : hitB v C T0 = true := by simp [hitB, hv, hh]
                                      have hv1 : (v == 0) = false := by simp; omega
                                      have hv2 : ¬ 0 < v := by omega
                                      have ⟨h1, h2⟩ := YES.out hh2
                                      have r0 := R8.out.cell hlt
                                      have r1 := R8.out.frozen i
                                      have f0 := F8.out.cell hlt
                                      have f1 := F8.out.frozen i
                                      simp only [Nat.lt_irrefl, if_false] at r0 f0
                                      have hsf : Hid (sb ≠ fb ∧ fb ≠ sb ∧ fb + 1 ≠ sb ∧ fb + 1 ≠ fb ∧ tb ≠ sb ∧ tb ≠ fb) := by have := hsbw.out; have := htbb.out; refine ⟨?_, ?_, ?_, ?_, ?_, ?_⟩ <;> omega
                                      have hne1 := hsf.out.1
                                      have B9 : Hid (Below w.heap.size w ((w8.setCell ⟨sb, i, none⟩ (.int .i64 C)).setCell ⟨fb, i, none⟩ (.bool true))) := (B8.out.setCell (by show w.heap.size ≤ sb; omega) _).setCell (by show w.heap.size ≤ fb; omega) _
                                      have R9 : Hid (IRow ((w8.setCell ⟨sb, i, none⟩ (.int .i64 C)).setCell ⟨fb, i, none⟩ (.bool true)) sb n (fun j => if j < i + 1 then (stepF gv sp x n s z j).1 else s j)) := by
                                        rw [cut_set (a := fun j => (stepF gv sp x n s z j).1) (b := s), h1]
                                        exact (R8.out.set_ i C).far (by show sb ≠ fb; exact hsf.out.1) _
                                      have F9 : Hid (BRow ((w8.setCell ⟨sb, i, none⟩ (.int .i64 C)).setCell ⟨fb, i, none⟩ (.bool true)) fb n (fun j => if j < i + 1 then (stepF gv sp x n s z j).2 else z j)) := by
                                        rw [cut_set (a := fun j => (stepF gv sp x n s z j).2) (b := z), h2]
                                        exact (F8.out.far (by show fb ≠ sb; exact hsf.out.2.1) _).set_ i true
                                      have W9 : Hid (IRow ((w8.setCell ⟨sb, i, none⟩ (.int .i64 C)).setCell ⟨fb, i, none⟩ (.bool true)) (fb + 1) n (wtF gv x)) := (W8.out.far (by show fb + 1 ≠ sb; exact hsf.out.2.2.1) _).far (by show fb + 1 ≠ fb; exact hsf.out.2.2.2.1) _
                                      have T9 : Hid (IRow ((w8.setCell ⟨sb, i, none⟩ (.int .i64 C)).setCell ⟨fb, i, none⟩ (.bool true)) tb n (fun j => if z j then 0 else tgF gv sp x n s z j)) := (T8.out.far (by show tb ≠ sb; exact hsf.out.2.2.2.2.1) _).far (by show tb ≠ fb; exact hsf.out.2.2.2.2.2) _
                                      have f2 : (w8.setCell ⟨sb, i, none⟩ (.int .i64 C)).cell? ⟨fb, i, none⟩ = some (.bool (z i)) := by
                                        have := (F8.out.far (p := ⟨sb, i, none⟩) (by show fb ≠ sb; exact hsf.out.2.1) (.int .i64 C)).cell hlt
                                        simpa using this
                                      have f3 : (w8.setCell ⟨sb, i, none⟩ (.int .i64 C)).frozen? ⟨fb, i, none⟩ = false := (F8.out.far (p := ⟨sb, i, none⟩) (by show fb ≠ sb; exact hsf.out.2.1) (.int .i64 C)).frozen i
                                      have L9 : (rk (fun j => if j < i then (stepF gv sp x n s z j).2 else z j) n : Int) - 1 = (rk (fun j => if j < i + 1 then (stepF gv sp x n s z j).2 else z j) n : Int) := by
                                        have := rk_set (z := (fun j => if j < i then (stepF gv sp x n s z j).2 else z j)) hlt zi0
                                        rw [cut_set (a := fun j => (stepF gv sp x n s z j).2) (b := z), h2]
                                        omega
                                      have L8 := rk_le (fun j => if j < i then (stepF gv sp x n s z j).2 else z j) n
                                      have wl : IntKind.i64.wrap ((rk (fun j => if j < i then (stepF gv sp x n s z j).2 else z j) n : Int) - 1) = (rk (fun j => if j < i + 1 then (stepF gv sp x n s z j).2 else z j) n : Int) := by rw [← L9]; have := rk_set (z := (fun j => if j < i then (stepF gv sp x n s z j).2 else z j)) hlt zi0; exact wr (by omega) (by omega)
                                      clear YES NO R8 F8 W8 T8 B8 h1 h2 f0 f1 hh2 zi0
                                      generalize (fun j => if j < i then (stepF gv sp x n s z j).2 else z j) = zc at *
                                      go_wp2_with fail
                                      clear r0 r1 f2 f3 e0
                                      generalize ((w8.setCell ⟨sb, i, none⟩ (.int .i64 C)).setCell ⟨fb, i, none⟩ (.bool true)) = w9 at *
                                      go_roundg (n - i)
                                      case measure => omega
                                      case rel => exact ⟨i + 1, rfl, by go_num, by omega, by omega, B9, R9, F9, W9, T9⟩
                                    · as_aux_lemma =>
                                      have hh2 : hitB v C T0 = false := by simp [hitB, hh]; omega
                                      have hv1 : (v == 0) = false := by simp; omega
                                      have hv2 : ¬ 0 < v := by omega
                                      have ⟨h1, h2⟩ := NO.out hh2
                                      have R9 : Hid (IRow w8 sb n (fun j => if j < i + 1 then (stepF gv sp x n s z j).1 else s j)) := by rw [cut_same (a := fun j => (stepF gv sp x n s z j).1) (b := s) h1]; exact R8
                                      have F9 : Hid (BRow w8 fb n (fun j => if j < i + 1 then (stepF gv sp x n s z j).2 else z j)) := by rw [cut_same (a := fun j => (stepF gv sp x n s z j).2) (b := z) h2]; exact F8
                                      have L2 : (fun j => if j < i then (stepF gv sp x n s z j).2 else z j) = (fun j => if j < i + 1 then (stepF gv sp x n s z j).2 else z j) := (cut_same (a := fun j => (stepF gv sp x n s z j).2) (b := z) h2).symm
                                      rw [L2]
                                      clear YES NO R8 F8 h1 h2 hh2 zi0 L2
                                      go_wp2_with fail
                                      go_roundg (n - i)
                                      case measure => omega
                                      case rel => exact ⟨i + 1, rfl, by go_num, by omega, by omega, B8, R9, F9, W8, T8⟩
                                · as_aux_lemma =>
                                  have hltz : ¬ (i : Int) < (n : Int) := by omega
                                  obtain rfl : n = i := by omega
                                  have R2 : Hid (IRow wk sb n (itS gv sp x n (r + 1)).1) := R.out.congr fun j hj => by rw [(NX.out j).1]; simp [hj]
                                  have F2 : Hid (BRow wk fb n (itS gv sp x n (r + 1)).2) := F.out.congr fun j hj => by rw [(NX.out j).2]; simp [hj]
                                  have L2 : (rk (fun j => if j < n then (stepF gv sp x n s z j).2 else z j) n : Int) = (rk (itS gv sp x n (r + 1)).2 n : Int) := by rw [rk_congr (y := (fun j => if j < n then (stepF gv sp x n s z j).2 else z j)) (z := (itS gv sp x n (r + 1)).2) fun j hj => by rw [(NX.out j).2]; simp [hj]]
                                  rw [L2]
                                  clear R F L2
                                  go_wp2_with fail
                                  go_roundg (rk z n)
                                  case measure => omega
                                  case rel => exact ⟨r + 1, rfl, by omega, by omega, B, R2, F2, W⟩
                · as_aux_lemma =>
                  have hpz : ¬ (0 : Int) < (rk (itS gv sp x n r).2 n : Int) := by omega
                  have hr0 : rk (itS gv sp x n r).2 n = 0 := by omega
                  have RF : Hid (IRow wo sb n (resF av gap x n)) := R.out.congr fun j hj => by
                    unfold resF
                    rw [hgv.out, ← E1.out]
                    exact it_end hr0 hrn hj
                  clear R F W
                  go_wp2_with fail
                  go_ret2
                  exact ⟨sb, rfl, hbase, RF.out, B.out⟩
end Go.Proofs.Ytdoenkngmgclmaa
