/- The reference's Same at ints and SameValues at rows of ints; append of a row of ints inside a chain; the law's own list. -/
import Derived.Test.YtnhhmndnmkkhlaaDoorExLs
import Derived.Test.YtnhhmndnmkkhlaaDoorMixJ
namespace Go.Proofs.YtnhhmndnmkkhlaaDoor
open Go.RowKit Go.Sort
set_option linter.unusedVariables false
set_option linter.unusedSimpArgs false

set_option maxHeartbeats 4000000 in
theorem rSame_lf (k n : Int) (w : World) : Calls Tryd.prog 19 #[nv k n, nv k n] w fun e w' => e = .returned (.bool true) ∧ Grew w w' := by
  go_enter Tryd.func19, Tryd.ntmps19
  go_wp2
  go_loop [5] (fun i => i = .int .i64 0) (fun _ => 0)
  case atStart => rfl
  case round =>
    obtain rfl := hrel
    go_wp2
    go_ret
    refine ⟨rfl, ?_⟩
    repeat' (first | (with_reducible exact Grew.refl _) | (with_reducible refine Grew.setCell ?_ ?_ _) | (with_reducible refine Grew.drewN ?_ _) | (with_reducible refine Grew.reD ?_ _) | (with_reducible refine Grew.alloc ?_ _) | (dsimp only; omega))

set_option maxHeartbeats 4000000 in
theorem SameValues_ls (p q : Option Addr) (m cp cq : Nat) (g : Nat → Int) (w : World) (hm : m ≤ 100) (hp : Row w w.heap.size p m (fun i => nd 1 (g i))) (hq : Row w w.heap.size q m (fun i => nd 1 (g i))) :
    Calls Tryd.prog 32 #[.slice p m cp, .slice q m cq] w fun e w' => e = .returned (.bool true) ∧ Grew w w' := by
  have KA := fun k W => hide (rSame_lf 1 k W)
  have HP := hide hp
  have HQ := hide hq
  clear hp hq
  go_enter Tryd.func32, Tryd.ntmps32
  go_wp2
  go_loopg [5] (m + 1) (fun gh vk wr => ∃ (i : Nat), vk = .int .i64 (i : Int) ∧ i ≤ m ∧ m - i < gh ∧ Hid (Grew w wr))
  case atStart => exact ⟨0, by go_num, by omega, by omega, hide (Grew.refl _)⟩
  case round =>
    obtain ⟨wo, rfl⟩ : ∃ wo : World, wo = wr := ⟨_, rfl⟩
    obtain ⟨i, rfl, hi, hgh, G⟩ := hrel
    by_cases hlt : i < m
    · have hltz : (i : Int) < (m : Int) := by omega
      obtain ⟨b1, o1, rfl, hb1, c1⟩ := HP.out (by omega)
      obtain ⟨b2, o2, rfl, hb2, c2⟩ := HQ.out (by omega)
      obtain ⟨x0, x1, x2, x3⟩ := c1 i hlt
      obtain ⟨y0, y1, y2, y3⟩ := c2 i hlt
      have l1 : b1 < wo.heap.size := Nat.lt_of_lt_of_le hb1 G.out.size
      have l2 : b2 < wo.heap.size := Nat.lt_of_lt_of_le hb2 G.out.size
      have KK := fun W => KA (g i) W
      dsimp only at x0 x1 x2 x3 y0 y1 y2 y3
      generalize g i = gi at *
      have u0 := cell_gr l1 ((G.out.cell b1 _ hb1).trans x0)
      have u1 := cell_gr l1 ((G.out.cell b1 _ hb1).trans x1)
      have u2 := cell_gr l1 ((G.out.cell b1 _ hb1).trans x2)
      have u3 := cell_gr l1 ((G.out.cell b1 _ hb1).trans x3)
      have t0 := cell_gr l2 ((G.out.cell b2 _ hb2).trans y0)
      have t1 := cell_gr l2 ((G.out.cell b2 _ hb2).trans y1)
      have t2 := cell_gr l2 ((G.out.cell b2 _ hb2).trans y2)
      have t3 := cell_gr l2 ((G.out.cell b2 _ hb2).trans y3)
      clear c1 c2 x0 x1 x2 x3 y0 y1 y2 y3 HP HQ KA
      go_wp2_with fail
      refine wp_region_calm (by kernel_rfl) (by kernel_rfl) ?_
      repeat (first | (refine lex_skip rfl (by rfl) ?_) | (refine lex_calm rfl (by rfl) (fun K hK => ?_); go_simp; first | (refine hK _ ?_; clear hK K) | (apply Exists.intro; refine ⟨fun _ _ => ?_, hK _ ?_⟩; (with_reducible exact (KK _).out); clear hK K)))
      refine lex_nil ?_
      intro w1 G1
      have z1 := G1.size
      replace G1 := hide G1
      have GG := hide (G.out.trans G1.out)
      clear u0 u1 u2 u3 t0 t1 t2 t3 G G1
      go_wp2
      go_roundg (m - i)
      case measure => omega
      case rel => exact ⟨i + 1, by go_num, by omega, by omega, GG⟩
    · have hltz : ¬ (i : Int) < (m : Int) := by omega
      have GG := G.out
      go_wp2
      go_ret
      exact ⟨rfl, GG⟩

theorem own_val {w : World} {base : Nat} {e : TypeId} {size : Nat} {v : Value} {n : Nat} {xs : List Value} (h : w.ownsRow base e size v n xs) : ∃ q cap, v = .slice q n cap := by
  rcases h.2 with ⟨rfl, rfl⟩ | ⟨g, cap, cur, rfl, _⟩
  · exact ⟨none, 0, rfl⟩
  · exact ⟨some ⟨g, 0, none⟩, cap, rfl⟩
theorem own_plain {w : World} {base m : Nat} {e : TypeId} {size : Nat} {p : Option Addr} {c : Nat} {xs : List Value} (h : w.ownsRow base e size (.slice p m c) m xs) : Plain p := by
  rcases h.2 with ⟨h1, rfl⟩ | ⟨b, cap, cur, h1, hb, hg, hn, hc, hs, ht⟩
  · simp only [Value.slice.injEq] at h1
    obtain ⟨rfl, -⟩ := h1
    intro q hq; cases hq
  · simp only [Value.slice.injEq] at h1
    obtain ⟨rfl, -⟩ := h1
    intro q hq; cases hq; rfl
theorem does_append_row (w : World) {o : Oper} {ev : Operand → Value} {R : Value → World → Prop} (s x : Operand)
    (ho : o.op = .call { callee := .builtin .append, args := #[s, x], argTypes := #[22, 22] })
    (base : Nat) (v : Value) (n : Nat) (xs : List Value) (hs : ev s = v) (hown : w.ownsRow base 24 4 v n xs)
    (p : Option Addr) (m c B : Nat) (g : Nat → Int) (hx : ev x = .slice p m c) (hr : Row w B p m (fun i => nd 1 (g i))) (hp : Plain p) (hnm : n + m ≤ 100000) (hbase : base ≤ w.heap.size)
    (h : ∀ v' w', w'.ownsRow base 24 4 v' (n + m) (xs ++ vcs g m) → w.grownBy w' v.ownBlock → R v' w') : does Tryd.prog o ev w R := by
  obtain ⟨i0, hi, hz0, hz1, hz2⟩ := info_parts info_value
  cases p with
  | none =>
    have hm : m = 0 := by
      rcases Nat.eq_zero_or_pos m with h0 | h0
      · exact h0
      · obtain ⟨b, off, e, _⟩ := hr h0; cases e
    subst hm
    have hrun := run_append_none (P := Tryd.prog) w base 22 o.type 24 i0 4 Tryd.underlying22 hi v n xs hown c
    unfold does execOp
    simp only [ho, resolve, invoke, builtin, Sem.run_bind, Sem.run_pure, Result.andThen_ok, List.map_toArray, List.map_cons, List.map_nil, hs, hx, hrun, doesUpon]
    exact h v w (by simpa [vcs] using hown) ⟨rfl, rfl, rfl, Nat.le_refl _, fun _ _ _ => rfl⟩
  | some q =>
    obtain ⟨b, off, sp⟩ := q
    obtain rfl : sp = none := hp _ rfl
    obtain ⟨v', w', hrun, h2, h3, _⟩ := run_append_own (P := Tryd.prog) w base 22 o.type 24 i0 (nv 0 0) 4 56 Tryd.underlying22 hi hz0 hz1 hz2 rfl (by decide) v n xs hown ⟨b, off, none⟩ m c (vcs g m) (vcs_len g m) hr.news (fun u hu => vc_one hu) (by unfold maxLen; omega) (by omega) hbase
    unfold does execOp
    simp only [ho, resolve, invoke, builtin, Sem.run_bind, Sem.run_pure, Result.andThen_ok, List.map_toArray, List.map_cons, List.map_nil, hs, hx, hrun, doesUpon]
    exact h v' w' h2 h3

/-- The slice at p reads as n integers. -/
def Reads (w : World) (p : Option Addr) (n : Nat) (f : Nat → Int) : Prop := 0 < n → ∃ b off, p = some ⟨b, off, none⟩ ∧ ∀ k, k < n → w.cell? ⟨b, off + k, none⟩ = some (.int .i64 (f k))
theorem lt_of_cell {w : World} {b o : Nat} {v : Value} (h : w.cell? ⟨b, o, none⟩ = some v) : b < w.heap.size := by
  rcases Nat.lt_or_ge b w.heap.size with hl | hl
  · exact hl
  · simp [World.cell?, Array.getElem?_eq_none hl] at h
theorem Reads.grew {w w' : World} {p : Option Addr} {n : Nat} {f : Nat → Int} (h : Reads w p n f) (g : Grew w w') : Reads w' p n f := fun hn => by
  obtain ⟨b, off, hp, hc⟩ := h hn
  exact ⟨b, off, hp, fun k hk => (g.1.cell (p := ⟨b, off + k, none⟩) (lt_of_cell (hc k hk))).trans (hc k hk)⟩
/-- What the law's own list has made: i values in v; x lies in the box. -/
def LP (w : World) (v x : Value) (i : Nat) (g : Nat → Int) (W : World) : Prop := W.ownsRow (w.heap.size + 2) 24 4 v i (vcs g i) ∧ Blk W (w.heap.size + 1) 24 [.int .i64 4, .int .i64 0, .string ⟨#[]⟩, x] ∧ Blk W w.heap.size 24 [.int .i64 0, .int .i64 0, .string ⟨#[]⟩, .slice none 0 0] ∧ Below w.heap.size w W ∧ w.heap.size + 2 ≤ W.heap.size
theorem LP.grew {w W W' : World} {v x : Value} {i : Nat} {g : Nat → Int} (h : LP w v x i g W) (G : Grew W W') : LP w v x i g W' :=
  ⟨own_grew h.1 G, h.2.1.grew G, h.2.2.1.grew G, Grew.to h.2.2.2.1 G (Nat.le_refl _), Nat.le_trans h.2.2.2.2 G.size⟩
def StL (w : World) (v : Value) (i : Nat) (g : Nat → Int) : List Value → World → Prop
  | [], W => LP w v v i g W
  | [a], W => a = nv 1 (g i) ∧ LP w v v i g W
  | [_, s], W => (∃ b, s = .slice (some ⟨b, 0, none⟩) 1 1 ∧ Blk W b 24 (vc4 (g i))) ∧ LP w v v i g W
  | [_, _, r], W => LP w r v (i + 1) g W
  | _ :: _ :: r :: _, W => LP w r r (i + 1) g W
theorem StL.box {w W : World} {v : Value} {i : Nat} {g : Nat → Int} {l : List Value} (hl : l.length < 4) (h : StL w v i g l W) : Blk W (w.heap.size + 1) 24 [.int .i64 4, .int .i64 0, .string ⟨#[]⟩, v] ∧ Below w.heap.size w W := by
  match l, hl, h with
  | [], _, h => exact ⟨h.2.1, h.2.2.2.1⟩
  | [_], _, h => exact ⟨h.2.2.1, h.2.2.2.2.1⟩
  | [_, _], _, h => exact ⟨h.2.2.1, h.2.2.2.2.1⟩
  | [_, _, _], _, h => exact ⟨h.2.1, h.2.2.2.1⟩

set_option maxRecDepth 100000 in
theorem llist_any (p : Option Addr) (n c : Nat) (f : Nat → Int) (w : World) (hn : n ≤ 100) (hr : Reads w p n f) (hf : ∀ k, -9223372036854775808 ≤ f k ∧ f k ≤ 9223372036854775807) :
    Calls Tryd.prog 29 #[.slice p n c] w fun e w' => ∃ p2 c2, e = .returned (lsV p2 n c2) ∧ (Plain p2 ∧ OwnL w.heap.size n (fun i => (f i).tmod 1000) p2 n c2 w') ∧ Grew w w' := by
  obtain ⟨i0, hi, hz0, hz1, hz2⟩ := info_parts info_value
  have HR := hide hr
  clear hr
  obtain ⟨g, hg⟩ : ∃ g : Nat → Int, g = fun i => (f i).tmod 1000 := ⟨_, rfl⟩
  rw [← hg]
  have KA := fun k W => hide (lint_any k W)
  go_enter Tryd.func29, Tryd.ntmps29
  go_wp2
  refine name_world fun w1 h1 => ?_
  have b0 : Hid (LP w (.slice none 0 0) (.slice none 0 0) 0 g w1) := by
    refine hide ⟨World.ownsRow_nil _ _ _ _, ?_, ?_, ?_, ?_⟩
    · rw [h1]; repeat' (first | (with_reducible assumption) | ((with_reducible refine Blk.new ?_); (first | (with_reducible rfl) | (simp only [World.size_alloc, World.size_setCell, size_drewN]; done))) | (with_reducible refine Blk.alloc ?_ _) | (refine Blk.other ?_ (by omega) _) | fail)
    · rw [h1]; repeat' (first | (with_reducible assumption) | ((with_reducible refine Blk.new ?_); (first | (with_reducible rfl) | (simp only [World.size_alloc, World.size_setCell, size_drewN]; done))) | (with_reducible refine Blk.alloc ?_ _) | (refine Blk.other ?_ (by omega) _) | fail)
    · rw [h1]; exact (((Grew.refl _).alloc _).alloc _).1
    · rw [h1]; simp
  clear h1
  go_loopg [4] (n + 1) (fun gh vk wr => ∃ (i : Nat) (v : Value), vk = .int .i64 (i : Int) ∧ i ≤ n ∧ n - i < gh ∧ Hid (LP w v v i g wr))
  case atStart => exact ⟨0, _, by go_num, by omega, by omega, b0⟩
  case round =>
    clear b0
    obtain ⟨wo, rfl⟩ : ∃ wo : World, wo = wr := ⟨_, rfl⟩
    obtain ⟨i, v, rfl, hi', hgh, HL⟩ := hrel
    by_cases hlt : i < n
    · have hltz : (i : Int) < (n : Int) := by omega
      obtain ⟨b, off, rfl, hc⟩ := HR.out (by omega)
      have ci := hc i hlt
      have hbl := lt_of_cell ci
      have hfi := hf i
      have hgi : g i = (f i).tmod 1000 := by rw [hg]
      have hwr : IntKind.i64.wrap ((f i).tmod 1000) = (f i).tmod 1000 := by
        have e1 := Int.tmod_lt_of_pos (f i) (show (0 : Int) < 1000 by omega)
        have e2 := Int.lt_tmod_of_pos (f i) (show (0 : Int) < 1000 by omega)
        exact wr (by omega) (by omega)
      clear hc hf
      have x1 := HL.out.2.1.cell 3 rfl
      go_wp2_with fail
      refine MJ.wp_region_chain (fun W => W.cell? ⟨w.heap.size + 1, 3, none⟩ = some v ∧ W.cell? ⟨b, off + i, none⟩ = some (.int .i64 (f i))) [7, 8, 9, 11] [(19, 7), (20, 8), (21, 9)] (StL w v i g) (by kernel_rfl) (by kernel_rfl) (by simp) ?h0 ?hJ ?_
      case h0 => exact HL.out.grew ((Grew.refl _).drew)
      case hJ =>
        rintro vals W (hl | hl) hS
        · exact ⟨(StL.box hl hS).1.cell 3 rfl, ((StL.box hl hS).2.cell (p := ⟨b, off + i, none⟩) hbl).trans ci⟩
        · exact absurd hl (by rw [show MJ.sinkL _ _ = true by kernel_rfl]; exact Bool.noConfusion)
      repeat (first | (refine MJ.lex_skip rfl (by rfl) ?_) | (refine MJ.lex_calm rfl (by rfl) (fun K hK => ?_); apply Exists.intro; refine ⟨fun W hW => ?_, ?_⟩; (obtain ⟨hW1, hW2⟩ := hW; go_simp; exact rfl); go_simp; refine hK _ ?_; clear hK K))
      refine MJ.lex_chain 0 rfl (by kernel_rfl) rfl ?_ ?_
      · rintro vs W hP
        have hPP := hide hP
        clear hP
        simp [go_sem, evS, List.lookup, hwr]
        refine ((KA _ _).out).mono ?_
        rintro e w' ⟨rfl, G⟩
        exact ⟨_, rfl, by rw [hgi], LP.grew hPP.out G⟩
      repeat (first | (refine MJ.lex_skip rfl (by rfl) ?_) | (refine MJ.lex_calm rfl (by rfl) (fun K hK => ?_); apply Exists.intro; refine ⟨fun W hW => ?_, ?_⟩; (obtain ⟨hW1, hW2⟩ := hW; go_simp; exact rfl); go_simp; refine hK _ ?_; clear hK K))
      refine MJ.lex_chain 1 rfl (by kernel_rfl) rfl ?_ ?_
      · rintro vs W ⟨e, hP⟩
        replace e : vs 7 = nv 1 (g i) := e
        have FIN : Hid (StL w v i g (MJ.valsOf [7, 8, 9, 11] vs 1 ++ [.slice (some ⟨W.heap.size, 0, none⟩) 1 1]) (W.alloc (.cells (vc4 (g i)).toArray 24))) := hide ⟨⟨_, rfl, Blk.new rfl⟩, hP.grew ((Grew.refl W).alloc _)⟩
        simp [go_sem, evS, List.lookup, e]
        exact FIN.out
      repeat (first | (refine MJ.lex_skip rfl (by rfl) ?_) | (refine MJ.lex_calm rfl (by rfl) (fun K hK => ?_); apply Exists.intro; refine ⟨fun W hW => ?_, ?_⟩; (obtain ⟨hW1, hW2⟩ := hW; go_simp; exact rfl); go_simp; refine hK _ ?_; clear hK K))
      refine MJ.lex_chain 2 rfl (by kernel_rfl) rfl ?_ ?_
      · rintro vs W ⟨⟨bb, e, hB⟩, hP⟩
        replace e : vs 8 = .slice (some ⟨bb, 0, none⟩) 1 1 := e
        refine does_append_row W _ _ rfl (w.heap.size + 2) v i _ rfl hP.1 (some ⟨bb, 0, none⟩) 1 1 W.heap.size (fun _ => g i) e ?r (by intro q hq; cases hq; rfl) (by omega) hP.2.2.2.2 ?_
        case r =>
          exact fun _ => ⟨bb, 0, rfl, hB.lt, fun k hk => by
            obtain rfl : k = 0 := by omega
            exact ⟨hB.cell 0 rfl, hB.cell 1 rfl, hB.cell 2 rfl, hB.cell 3 rfl⟩⟩
        intro v' w' ho hgr
        exact ⟨by rw [vcs_succ]; simpa [vcs] using ho, hP.2.1.by hP.1 hgr (by omega), hP.2.2.1.by hP.1 hgr (by omega), Below.by hP.2.2.2.1 hP.1 hgr (by omega) (Nat.le_refl _), Nat.le_trans hP.2.2.2.2 hgr.size⟩
      repeat (first | (refine MJ.lex_skip rfl (by rfl) ?_) | (refine MJ.lex_calm rfl (by rfl) (fun K hK => ?_); apply Exists.intro; refine ⟨fun W hW => ?_, ?_⟩; (obtain ⟨hW1, hW2⟩ := hW; go_simp; exact rfl); go_simp; refine hK _ ?_; clear hK K))
      refine MJ.lex_chain 3 rfl (by kernel_rfl) rfl ?_ ?_
      · rintro vs W hP
        replace hP : LP w (vs 9) v (i + 1) g W := hP
        have d3 := hP.2.1.cell 3 rfl
        have e3 := hP.2.1.free 3
        have FIN : Hid (∀ z, StL w v i g (MJ.valsOf [7, 8, 9, 11] vs 3 ++ [z]) (W.setCell ⟨w.heap.size + 1, 3, none⟩ (vs 9))) :=
          hide fun z => ⟨own_set hP.1 (by omega) _ _, hP.2.1.set' 3 _ rfl, hP.2.2.1.other (by omega) _, hP.2.2.2.1.setCell (by dsimp only; omega) _, by simpa using hP.2.2.2.2⟩
        obtain ⟨q0, cap0, e9⟩ := own_val hP.1
        clear hP
        rw [e9] at FIN
        simp [go_sem, evS, List.lookup, d3, e3, e9]
        exact FIN.out _
      refine MJ.lex_nil ?_
      rintro vs w11 hP
      have NX : Hid (LP w (vs 9) (vs 9) (i + 1) g w11) := hide hP
      clear hP HL
      simp only [fillS, List.foldl_cons, List.foldl_nil]
      generalize vs 7 = v7
      generalize vs 8 = v8
      generalize vs 9 = v9 at *
      go_wp2
      go_roundg (n - i)
      case measure => omega
      case rel => exact ⟨i + 1, v9, by go_num, by omega, by omega, NX⟩
    · have hltz : ¬ (i : Int) < (n : Int) := by omega
      obtain rfl : i = n := by omega
      obtain ⟨p', c', hv, -, -⟩ := own_row HL.out.1
      subst hv
      have Y0 := HL.out.2.2.1
      have Y1 := HL.out.2.1
      have GB := HL.out.2.2.2.1
      have HO := hide HL.out.1
      clear HL HR
      have a0 := Y1.cell 0 rfl
      have af0 := Y1.free 0
      have a1 := Y1.cell 1 rfl
      have af1 := Y1.free 1
      have a2 := Y1.cell 2 rfl
      have af2 := Y1.free 2
      have a3 := Y1.cell 3 rfl
      have af3 := Y1.free 3
      have alt := Y1.lt
      have d0 := Y0.cell 0 rfl
      have df0 := Y0.free 0
      have d1 := Y0.cell 1 rfl
      have df1 := Y0.free 1
      have d2 := Y0.cell 2 rfl
      have df2 := Y0.free 2
      have d3 := Y0.cell 3 rfl
      have df3 := Y0.free 3
      have dlt := Y0.lt
      go_wp2
      refine name_bp fun wq hq => ?_
      have Gq : Below w.heap.size w wq := by
        rw [hq]
        repeat' (first | (with_reducible exact GB) | (refine Below.setCell ?_ (by dsimp only; omega) _))
      have Bq : Blk wq w.heap.size 24 [.int .i64 4, .int .i64 0, .string ⟨#[]⟩, .slice p' i c'] := by
        rw [hq]
        exact (((Y0.set' 0 _ rfl).set' 1 _ rfl).set' 2 _ rfl).set' 3 _ rfl
      have Hq := HO.out
      replace Hq : wq.ownsRow (w.heap.size + 2) 24 4 (.slice p' i c') i (vcs g i) := by
        rw [hq]
        exact own_set (own_set (own_set (own_set Hq (by omega) _ _) (by omega) _ _) (by omega) _ _) (by omega) _ _
      have q0 := Bq.cell 0 rfl
      have q1 := Bq.cell 1 rfl
      have q2 := Bq.cell 2 rfl
      have q3 := Bq.cell 3 rfl
      exact bodyPost_ret (v := lsV p' i c') (by simp [results, Tryd.results29, go_sem, q0, q1, q2, q3]) rfl ⟨_, _, rfl, ⟨own_plain Hq, rfl, w.heap.size + 2, by omega, by rw [← hg]; exact Hq⟩, Gq, trivial⟩
end Go.Proofs.YtnhhmndnmkkhlaaDoor
