/- Toward package box's Resolve: the division before anything is shared. -/
import Derived.Test.YtdoenkngmgclmaaBoPA
import Derived.Test.YtdoenkngmgclmaaBoPB
namespace Go.Proofs.Ytdoenkngmgclmaa
open Go.RowKit Go.Sort
set_option linter.unusedVariables false
set_option linter.unusedSimpArgs false

section
variable {w0 w w' : World} {d wb sb : Nat} {p : Option Addr} {n c : Nat} {g : Bool} {sp : Int} {x : Nat → Fx} {W S W' S' : Nat → Int}
theorem Dv.setw (h : Dv w0 w d wb sb p n c g sp x W S) (k : Nat) (v : Int) : Dv w0 (w.setCell ⟨wb, k, none⟩ (.int .i64 v)) d wb sb p n c g sp x (fun j => if j = k then v else W j) S :=
  ⟨h.blk.other h.dw _, h.rwt.set_ k v, h.rsz.far (Ne.symm h.ws) _, h.el, h.below.setCell h.hw _, h.hd, h.hw, h.hs, h.dw, h.ds, h.ws⟩
theorem Dv.sets (h : Dv w0 w d wb sb p n c g sp x W S) (k : Nat) (v : Int) : Dv w0 (w.setCell ⟨sb, k, none⟩ (.int .i64 v)) d wb sb p n c g sp x W (fun j => if j = k then v else S j) :=
  ⟨h.blk.other h.ds _, h.rwt.far h.ws _, h.rsz.set_ k v, h.el, h.below.setCell h.hs _, h.hd, h.hw, h.hs, h.dw, h.ds, h.ws⟩
theorem Dv.congr (h : Dv w0 w d wb sb p n c g sp x W S) (h1 : ∀ j, j < n → W j = W' j) (h2 : ∀ j, j < n → S j = S' j) : Dv w0 w d wb sb p n c g sp x W' S' :=
  ⟨h.blk, h.rwt.congr h1, h.rsz.congr h2, h.el, h.below, h.hd, h.hw, h.hs, h.dw, h.ds, h.ws⟩
theorem Dv.neg (h : Dv w0 w d wb sb p n c true sp x W S) : Dv w0 (w.setCell ⟨d, 2, none⟩ (.int .i64 (-1))) d wb sb p n c false sp x W S :=
  ⟨h.blk.set_as 2 _ rfl, h.rwt.far (Ne.symm h.dw) _, h.rsz.far (Ne.symm h.ds) _, h.el, h.below.setCell h.hd _, h.hd, h.hw, h.hs, h.dw, h.ds, h.ws⟩
end
def st2 (A0 A1 A2 : World → Prop) : List Value → World → Prop
  | [], W => A0 W
  | [_], W => A1 W
  | _ :: _ :: _, W => A2 W
theorem st2_J {A0 A1 A2 J : World → Prop} (h0 : ∀ W, A0 W → J W) (h1 : ∀ W, A1 W → J W) : ∀ (vals : List Value) (W : World), vals.length < 2 → st2 A0 A1 A2 vals W → J W
  | [], W, _, h => h0 W h
  | [_], W, _, h => h1 W h
  | _ :: _ :: _, W, hl, _ => absurd hl (by simp)

/-! ### The literal: two rows, a value, a box, in whatever order the two rows are made -/
def nwT (w : World) (n : Nat) (x : Nat → Fx) (W : World) (wb sb : Nat) : Prop := w.heap.size ≤ wb ∧ w.heap.size ≤ sb ∧ wb ≠ sb ∧ IRow W wb n (fun _ => 0) ∧ IRow W sb n (natF x)
abbrev nwL (sp : Int) (p : Option Addr) (n c wb sb : Nat) : List Value := [.int .i64 sp, .slice p n c, .int .i64 1, .slice (some ⟨wb, 0, none⟩) n n, .slice (some ⟨sb, 0, none⟩) n n]
def nwB (w : World) (n : Nat) (x : Nat → Fx) (sp : Int) (p : Option Addr) (c : Nat) (v : Value) (W : World) : Prop :=
  ∃ d wb sb, v = .pointer (some ⟨d, 0, none⟩) ∧ w.heap.size ≤ d ∧ d ≠ wb ∧ d ≠ sb ∧ Blk W d 85 (nwL sp p n c wb sb) ∧ nwT w n x W wb sb
structure nwM (w : World) (n : Nat) (x : Nat → Fx) (sp : Int) (p : Option Addr) (c : Nat) (D : Nat → Bool) (vs : Nat → Value) (W : World) : Prop where
  m0 : Below w.heap.size w W
  m4 : D 4 = true → ∃ b, vs 4 = .slice (some ⟨b, 0, none⟩) n n ∧ w.heap.size ≤ b ∧ IRow W b n (fun _ => 0) ∧ (D 6 = true → ∀ b', vs 6 = .slice (some ⟨b', 0, none⟩) n n → b ≠ b')
  m6 : D 6 = true → ∃ b, vs 6 = .slice (some ⟨b, 0, none⟩) n n ∧ w.heap.size ≤ b ∧ IRow W b n (natF x)
  m7 : D 7 = true → ∃ wb sb, vs 7 = .agg (nwL sp p n c wb sb).toArray ∧ nwT w n x W wb sb
  m8 : D 8 = true → nwB w n x sp p c (vs 8) W
  m9 : D 9 = true → nwB w n x sp p c (vs 9) W
section
variable {w W W' : World} {n : Nat} {x : Nat → Fx} {sp : Int} {p : Option Addr} {c : Nat} {D D' : Nat → Bool} {vs vs' : Nat → Value}
theorem nwT.grow {wb sb : Nat} (h : nwT w n x W wb sb) (hb : Below W.heap.size W W') : nwT w n x W' wb sb := ⟨h.1, h.2.1, h.2.2.1, h.2.2.2.1.below hb h.2.2.2.1.lt, h.2.2.2.2.below hb h.2.2.2.2.lt⟩
theorem nwB.grow {v : Value} (h : nwB w n x sp p c v W) (hb : Below W.heap.size W W') : nwB w n x sp p c v W' := by
  obtain ⟨d, wb, sb, h1, h2, h3, h4, h5, h6⟩ := h
  exact ⟨d, wb, sb, h1, h2, h3, h4, (hb.block d h5.lt).trans h5, h6.grow hb⟩
theorem nwM.ext (h : nwM w n x sp p c D vs W) (hD : ∀ b ∈ [4, 6, 7, 8, 9], D b = D' b ∧ (D b = true → vs b = vs' b)) : nwM w n x sp p c D' vs' W := by
  obtain ⟨a4, b4⟩ := hD 4 (by simp)
  obtain ⟨a6, b6⟩ := hD 6 (by simp)
  obtain ⟨a7, b7⟩ := hD 7 (by simp)
  obtain ⟨a8, b8⟩ := hD 8 (by simp)
  obtain ⟨a9, b9⟩ := hD 9 (by simp)
  refine ⟨h.m0, fun hd => ?_, fun hd => ?_, fun hd => ?_, fun hd => ?_, fun hd => ?_⟩
  · rw [← a4] at hd
    obtain ⟨b, e, h1, h2, h3⟩ := h.m4 hd
    refine ⟨b, by rw [← b4 hd]; exact e, h1, h2, fun hd6 b' e' => ?_⟩
    rw [← a6] at hd6
    exact h3 hd6 b' (by rw [b6 hd6]; exact e')
  · rw [← a6] at hd
    rw [← b6 hd]; exact h.m6 hd
  · rw [← a7] at hd
    rw [← b7 hd]; exact h.m7 hd
  · rw [← a8] at hd
    rw [← b8 hd]; exact h.m8 hd
  · rw [← a9] at hd
    rw [← b9 hd]; exact h.m9 hd
theorem nwM.grow (h : nwM w n x sp p c D vs W) (hb : Below W.heap.size W W') : nwM w n x sp p c D vs W' :=
  ⟨h.m0.trans (hb.mono h.m0.size), fun hd => by obtain ⟨b, e, h1, h2, h3⟩ := h.m4 hd; exact ⟨b, e, h1, h2.below hb h2.lt, h3⟩, fun hd => by obtain ⟨b, e, h1, h2⟩ := h.m6 hd; exact ⟨b, e, h1, h2.below hb h2.lt⟩,
    fun hd => by obtain ⟨wb, sb, e, h1⟩ := h.m7 hd; exact ⟨wb, sb, e, h1.grow hb⟩, fun hd => (h.m8 hd).grow hb, fun hd => (h.m9 hd).grow hb⟩
theorem nwM.op4 (h : nwM w n x sp p c D vs W) : nwM w n x sp p c (upd D 4 true) (upd vs 4 (.slice (some ⟨W.heap.size, 0, none⟩) n n)) (W.alloc (.cells (ints n (fun _ => 0)) 3)) := by
  have g := h.grow ((Below.refl W.heap.size W).alloc (Nat.le_refl _) (.cells (ints n (fun _ => 0)) 3))
  refine ⟨g.m0, fun _ => ⟨W.heap.size, rfl, h.m0.size, IRow.new W n _, fun hd6 b' e' => ?_⟩, fun hd => g.m6 hd, fun hd => g.m7 hd, fun hd => g.m8 hd, fun hd => g.m9 hd⟩
  obtain ⟨b, e, _, hr⟩ := h.m6 hd6
  have : b' = b := by
    have e2 : vs 6 = .slice (some ⟨b', 0, none⟩) n n := e'
    rw [e] at e2
    simp at e2
    exact e2.symm
  rw [this]
  exact Nat.ne_of_gt hr.lt
theorem nwM.op6 (h : nwM w n x sp p c D vs W) {b : Nat} (hb : W.heap.size ≤ b) (hr : IRow W' b n (natF x)) (hB : Below W.heap.size W W') : nwM w n x sp p c (upd D 6 true) (upd vs 6 (.slice (some ⟨b, 0, none⟩) n n)) W' := by
  have g := h.grow hB
  refine ⟨g.m0, fun hd => ?_, fun _ => ⟨b, rfl, Nat.le_trans h.m0.size hb, hr⟩, fun hd => g.m7 hd, fun hd => g.m8 hd, fun hd => g.m9 hd⟩
  obtain ⟨b4, e, h1, h2, _⟩ := h.m4 hd
  refine ⟨b4, e, h1, h2.below hB h2.lt, fun _ b' e' => ?_⟩
  have e2 : Value.slice (some ⟨b, 0, none⟩) n n = .slice (some ⟨b', 0, none⟩) n n := e'
  simp at e2
  have := h2.lt
  omega
theorem nwM.op7 (h : nwM w n x sp p c D vs W) (h4 : D 4 = true) (h6 : D 6 = true) : ∃ wb sb, vs 4 = .slice (some ⟨wb, 0, none⟩) n n ∧ vs 6 = .slice (some ⟨sb, 0, none⟩) n n ∧ nwM w n x sp p c (upd D 7 true) (upd vs 7 (.agg (nwL sp p n c wb sb).toArray)) W := by
  obtain ⟨wb, e1, a1, a2, a3⟩ := h.m4 h4
  obtain ⟨sb, e2, a4, a5⟩ := h.m6 h6
  exact ⟨wb, sb, e1, e2, h.m0, fun hd => h.m4 hd, fun hd => h.m6 hd, fun _ => ⟨wb, sb, rfl, a1, a4, a3 h6 sb e2, a2, a5⟩, fun hd => h.m8 hd, fun hd => h.m9 hd⟩
theorem nwM.op8 (h : nwM w n x sp p c D vs W) (h7 : D 7 = true) : ∃ wb sb, vs 7 = .agg (nwL sp p n c wb sb).toArray ∧ nwM w n x sp p c (upd D 8 true) (upd vs 8 (.pointer (some ⟨W.heap.size, 0, none⟩))) (W.alloc (.cells (nwL sp p n c wb sb).toArray 85)) := by
  obtain ⟨wb, sb, e1, a⟩ := h.m7 h7
  have hB := (Below.refl W.heap.size W).alloc (Nat.le_refl _) (.cells (nwL sp p n c wb sb).toArray 85)
  have g := h.grow hB
  exact ⟨wb, sb, e1, g.m0, fun hd => g.m4 hd, fun hd => g.m6 hd, fun hd => g.m7 hd, fun _ => ⟨W.heap.size, wb, sb, rfl, h.m0.size, Nat.ne_of_gt a.2.2.2.1.lt, Nat.ne_of_gt a.2.2.2.2.lt, Blk.new rfl, a.grow hB⟩, fun hd => g.m9 hd⟩
theorem nwM.op9 (h : nwM w n x sp p c D vs W) (h8 : D 8 = true) : nwM w n x sp p c (upd D 9 true) (upd vs 9 (vs 8)) W :=
  ⟨h.m0, fun hd => h.m4 hd, fun hd => h.m6 hd, fun hd => h.m7 hd, fun hd => h.m8 hd, fun _ => h.m8 h8⟩
end
/-- The weights and the sizes behind k rounds. -/
def wtK (g : Bool) (x : Nat → Fx) (k j : Nat) : Int := if j < k then zro (fr0 g x) (wtF g x) j else 0
def szK (g : Bool) (x : Nat → Fx) (k j : Nat) : Int := if j < k then szW x (natF x) (fr0 g x) j else natF x j
theorem nat_bd {x : Nat → Fx} {i : Nat} (h : okF (x i)) : 0 ≤ natF x i ∧ natF x i ≤ 1048576 := by
  have := it_ok (g := true) (sp := 0) (n := i + 1) (x := fun j => x i) (fun _ _ => h) 0 (i := i) (by omega)
  exact this
theorem wtK_yes {g : Bool} {x : Nat → Fx} {k j : Nat} (h : fr0 g x k = false) : (if j = k then wtF g x k else wtK g x k j) = wtK g x (k + 1) j := by
  unfold wtK
  by_cases h1 : j = k
  · subst h1; rw [if_pos rfl, if_pos (by omega), zro_no h]
  · by_cases h2 : j < k
    · rw [if_neg h1, if_pos h2, if_pos (by omega)]
    · rw [if_neg h1, if_neg h2, if_neg (by omega)]
theorem wtK_no {g : Bool} {x : Nat → Fx} {k j : Nat} (h : fr0 g x k = true) : wtK g x k j = wtK g x (k + 1) j := by
  unfold wtK
  by_cases h1 : j = k
  · subst h1; rw [if_neg (by omega), if_pos (by omega), zro_yes h]
  · by_cases h2 : j < k
    · rw [if_pos h2, if_pos (by omega)]
    · rw [if_neg h2, if_neg (by omega)]
theorem szK_yes {g : Bool} {x : Nat → Fx} {k j : Nat} (h : fr0 g x k = false) : (if j = k then (x k).ba else szK g x k j) = szK g x (k + 1) j := by
  unfold szK
  by_cases h1 : j = k
  · subst h1; rw [if_pos rfl, if_pos (by omega)]; unfold szW; rw [h]; rfl
  · by_cases h2 : j < k
    · rw [if_neg h1, if_pos h2, if_pos (by omega)]
    · rw [if_neg h1, if_neg h2, if_neg (by omega)]
theorem szK_no {g : Bool} {x : Nat → Fx} {k j : Nat} (h : fr0 g x k = true) : szK g x k j = szK g x (k + 1) j := by
  unfold szK
  by_cases h1 : j = k
  · subst h1; rw [if_neg (by omega), if_pos (by omega)]; unfold szW; rw [h]; rfl
  · by_cases h2 : j < k
    · rw [if_pos h2, if_pos (by omega)]
    · rw [if_neg h2, if_neg (by omega)]
end Go.Proofs.Ytdoenkngmgclmaa
/- Toward package box's Resolve: the division before anything is shared. -/
namespace Go.Proofs.Ytdoenkngmgclmaa
open Go.RowKit Go.Sort
set_option linter.unusedVariables false
set_option linter.unusedSimpArgs false

set_option maxHeartbeats 16000000 in
set_option maxRecDepth 100000 in
theorem new_true (sp : Int) (p : Option Addr) (n c : Nat) (x : Nat → Fx) (w : World) (hr : SRow w p n 5 (fxC x)) (hn : n ≤ 100) (hx : ∀ i, i < n → okF (x i)) (hc : sumF (natF x) n ≤ sp) :
    Calls Try.prog 58 #[.int .i64 sp, .slice p n c] w fun e w' => ∃ d wb sb, e = .returned (.pointer (some ⟨d, 0, none⟩)) ∧ Dv w w' d wb sb p n c true sp x (zro (fr0 true x) (wtF true x)) (szW x (natF x) (fr0 true x)) := by
  have HR := hide hr
  have HX := hide hx
  have hmk : ∀ W : World, (Instr.makeSlice 22 (.int .i64 (n : Int)) (.int .i64 (n : Int))).run Try.prog W = .ok (.slice (some ⟨W.heap.size, 0, none⟩) n n) (W.alloc (.cells (ints n (fun _ => 0)) 3)) := make_ints n (by omega)
  have NB : Hid (∀ k, k < n → 0 ≤ natF x k ∧ natF x k ≤ 1048576) := fun k hk => nat_bd (hx k hk)
  have SM : ∀ (d wb sb : Nat) (W' : World), Dv w W' d wb sb p n c true sp x (fun _ => 0) (natF x) → Hid (Calls Try.prog 70 #[.slice (some ⟨sb, 0, none⟩) n n] W' fun e w' => e = .returned (.int .i64 (sumF (natF x) n)) ∧ W' = w') := fun d wb sb W' D' => hide (bsum_any (some ⟨sb, 0, none⟩) n n (natF x) W' (by omega) (fun k hk => by have := NB.out k hk; omega) D'.rsz.reads)
  have hcz : ¬ sp < sumF (natF x) n := by omega
  clear hr hx hc
  go_enter Try.func58, Try.ntmps58
  go_wp2_with fail
  refine MJ.wp_region_mixed (fun _ => True) [4, 6, 7, 8, 9] [(13, 4), (15, 6), (16, 7), (17, 8), (5, 9)] (nwM w n x sp p c) (by kernel_rfl) (by kernel_rfl) (by simp) ?h0 (fun D D' vs vs' W hD h => h.ext hD) (fun _ _ _ _ _ _ _ _ _ => trivial) ?_
  case h0 => exact fun vs => ⟨(Below.refl _ _).drew, fun h => Bool.noConfusion h, fun h => Bool.noConfusion h, fun h => Bool.noConfusion h, fun h => Bool.noConfusion h, fun h => Bool.noConfusion h⟩
  repeat (refine MJ.lex_calm rfl (by rfl) (fun K hK => ?_); apply Exists.intro; refine ⟨fun W' hW => ?_, ?_⟩; (dsimp only at hW; go_simp; exact rfl); go_simp; refine hK _ ?_; clear hK K)
  refine MJ.lex_made (by rfl) rfl ?_ ?_
  · rintro D vs W hM h4 hcl hdep
    have FIN := hide hM.op4
    clear hM
    have hm := hmk W
    simp [go_sem, evS, List.lookup, hm]
    exact FIN.out
  repeat (refine MJ.lex_calm rfl (by rfl) (fun K hK => ?_); apply Exists.intro; refine ⟨fun W' hW => ?_, ?_⟩; (dsimp only at hW; go_simp; exact rfl); go_simp; refine hK _ ?_; clear hK K)
  refine MJ.lex_made (by rfl) rfl ?_ ?_
  · rintro D vs W hM h4 hcl hdep
    have NA := hide (natural_any p n c x W (HR.out.below hM.m0) hn)
    have MM := hide hM
    clear hM
    simp [go_sem, evS, List.lookup]
    refine NA.out.mono ?_
    rintro e w' ⟨b, rfl, hb, hr, hB⟩
    exact ⟨_, rfl, MM.out.op6 hb hr hB⟩
  repeat (refine MJ.lex_calm rfl (by rfl) (fun K hK => ?_); apply Exists.intro; refine ⟨fun W' hW => ?_, ?_⟩; (dsimp only at hW; go_simp; exact rfl); go_simp; refine hK _ ?_; clear hK K)
  refine MJ.lex_made (by rfl) rfl ?_ ?_
  · rintro D vs W hM h4 hcl hdep
    obtain ⟨wb, sb, e4, e6, hM2⟩ := hM.op7 (hdep 4 (by decide +kernel)) (hdep 6 (by decide +kernel))
    have FIN := hide hM2
    clear hM hM2
    simp [go_sem, evS, List.lookup, e4, e6]
    exact FIN.out
  repeat (refine MJ.lex_calm rfl (by rfl) (fun K hK => ?_); apply Exists.intro; refine ⟨fun W' hW => ?_, ?_⟩; (dsimp only at hW; go_simp; exact rfl); go_simp; refine hK _ ?_; clear hK K)
  refine MJ.lex_made (by rfl) rfl ?_ ?_
  · rintro D vs W hM h4 hcl hdep
    obtain ⟨wb, sb, e7, hM2⟩ := hM.op8 (hdep 7 (by decide +kernel))
    have FIN := hide hM2
    clear hM hM2
    simp [go_sem, evS, List.lookup, e7]
    exact FIN.out
  repeat (refine MJ.lex_calm rfl (by rfl) (fun K hK => ?_); apply Exists.intro; refine ⟨fun W' hW => ?_, ?_⟩; (dsimp only at hW; go_simp; exact rfl); go_simp; refine hK _ ?_; clear hK K)
  refine MJ.lex_made (by rfl) rfl ?_ ?_
  · rintro D vs W hM h4 hcl hdep
    have FIN := hide (hM.op9 (hdep 8 (by decide +kernel)))
    obtain ⟨d, wb, sb, e8, _⟩ := hM.m8 (hdep 8 (by decide +kernel))
    rw [e8] at FIN
    clear hM
    simp [go_sem, evS, List.lookup, e8]
    exact FIN.out
  refine MJ.lex_nil ?_
  rintro vs w1 hM
  obtain ⟨d, wb, sb, e9, n1, n2, n3, hb, n4, n5, n6, hr1, hr2⟩ := hM.m9 rfl
  have D1 : Hid (Dv w w1 d wb sb p n c true sp x (fun _ => 0) (natF x)) := ⟨hb, hr1, hr2, HR.out, hM.m0, n1, n4, n5, n2, n3, n6⟩
  clear hM hb hr1 hr2 n1 n2 n3 n4 n5 n6 hmk
  simp only [fillS, List.foldl_cons, List.foldl_nil, e9]
  clear e9
  have c4 := D1.out.blk.cell 4 rfl
  go_wp2_with fail
  refine (SM d wb sb _ D1.out).out.mono ?_
  rintro e w' ⟨rfl, rfl⟩
  clear SM c4
  go_wp2_with fail
  have D2 := D1
  clear D1
  have D3 : Hid (Dv w w1 d wb sb p n c true sp x (wtK true x 0) (szK true x 0)) := D2.out.congr (fun j hj => by unfold wtK; simp) (fun j hj => by unfold szK; simp)
  clear D2
  go_loopg [30] (n + 1) (fun g1 vk wr => ∃ k : Nat, vk = .int .i64 (k : Int) ∧ k ≤ n ∧ n - k < g1 ∧ Hid (Dv w wr d wb sb p n c true sp x (wtK true x k) (szK true x k)))
  case atStart => exact ⟨0, by go_num, by omega, by omega, D3⟩
  case round =>
    clear D3
    obtain ⟨wo, rfl⟩ : ∃ wo : World, wo = wr := ⟨_, rfl⟩
    obtain ⟨k, rfl, hk, hg, DD⟩ := hrel
    by_cases hlt : k < n
    · have hltz : (k : Int) < (n : Int) := by omega
      obtain ⟨b, off, rfl, hb, hc⟩ := (HR.out.below DD.out.below) (by omega)
      have c0 : wo.cell? ⟨b, off + k * 5, none⟩ = some (.int .i64 (x k).ba) := hc k hlt 0 (by decide)
      have c1 : wo.cell? ⟨b, off + k * 5 + 1, none⟩ = some (.int .i64 (x k).mn) := hc k hlt 1 (by decide)
      have c2 : wo.cell? ⟨b, off + k * 5 + 2, none⟩ = some (.int .i64 (x k).mx) := hc k hlt 2 (by decide)
      have c3 : wo.cell? ⟨b, off + k * 5 + 3, none⟩ = some (.int .i64 (x k).gr) := hc k hlt 3 (by decide)
      have c4 : wo.cell? ⟨b, off + k * 5 + 4, none⟩ = some (.int .i64 (x k).sh) := hc k hlt 4 (by decide)
      have WT : ∀ o, Hid (Calls Try.prog 71 #[.pointer (some ⟨d, 0, none⟩), fxU (x k)] (wo.alloc o) fun e w' => e = .returned (.int .i64 (wtF true x k)) ∧ Grew (wo.alloc o) w') := fun o => hide (weight_any x k true d _ ((DD.out.grown ((Below.refl _ _).alloc (Nat.le_refl _) o)).blk.cell 2 rfl) (HX.out k hlt))
      have wb2 := wt_bd (g := true) (HX.out k hlt)
      have nb := NB.out k hlt
      have bb := (HX.out k hlt).1
      have FZ := hide (start_z (g := true) (HX.out k hlt))
      have GR : Hid (∀ o w', Grew (wo.alloc o) w' → Dv w w' d wb sb (some ⟨b, off, none⟩) n c true sp x (wtK true x k) (szK true x k)) := fun o w' h => DD.out.grown (((Below.refl _ _).alloc (Nat.le_refl _) o).trans (h.1.mono (by rw [World.size_alloc]; omega)))
      have FB : Hid (∀ w', Grew (wo.alloc (.cells #[.int .i64 (x k).ba, .int .i64 (x k).mn, .int .i64 (x k).mx, .int .i64 (x k).gr, .int .i64 (x k).sh] 69)) w' → w'.cell? ⟨wo.heap.size, 0, none⟩ = some (.int .i64 (x k).ba) ∧ wb ≠ wo.heap.size ∧ sb ≠ wo.heap.size) := fun w' h => ⟨((Blk.new (W := wo) (vs := [.int .i64 (x k).ba, .int .i64 (x k).mn, .int .i64 (x k).mx, .int .i64 (x k).gr, .int .i64 (x k).sh]) rfl).grew h).cell 0 rfl, Nat.ne_of_lt DD.out.lt.2.1, Nat.ne_of_lt DD.out.lt.2.2⟩
      have Y1 : Hid (fr0 true x k = false → ∀ j, (if j = k then wtF true x k else wtK true x k j) = wtK true x (k + 1) j) := fun h j => wtK_yes h
      have Y2 : Hid (fr0 true x k = false → ∀ j, (if j = k then (x k).ba else szK true x k j) = szK true x (k + 1) j) := fun h j => szK_yes h
      have Y3 : Hid (fr0 true x k = true → ∀ j, wtK true x k j = wtK true x (k + 1) j) := fun h j => wtK_no h
      have Y4 : Hid (fr0 true x k = true → ∀ j, szK true x k j = szK true x (k + 1) j) := fun h j => szK_no h
      have SK : Hid (szK true x k k = natF x k) := by show _ = _; unfold szK; rw [if_neg (by omega)]
      clear hc hb DD
      generalize fr0 true x k = fz0 at *
      generalize wtF true x k = wt at *
      generalize natF x k = nk at *
      obtain ⟨y, hy⟩ : ∃ y, y = x k := ⟨_, rfl⟩
      rw [← hy] at c0 c1 c2 c3 c4 WT bb FZ FB Y2
      clear hy
      obtain ⟨x0, x1, x2, x3, x4⟩ := y
      dsimp only at *
      obtain ⟨b1, b2⟩ := bb
      obtain ⟨b3, b4⟩ := nb
      obtain ⟨b5, b6⟩ := wb2
      go_wp2_with fail
      refine (WT _).out.mono ?_
      rintro e w5 ⟨rfl, hG⟩
      have D5 := hide (GR.out _ _ hG)
      obtain ⟨f1, f2, f3⟩ := FB.out _ hG
      clear WT GR FB hG c0 c1 c2 c3 c4
      generalize wo.heap.size = fb at *
      have s2 : w5.cell? ⟨d, 2, none⟩ = some (.int .i64 (1)) := D5.out.blk.cell 2 rfl
      have s3 := D5.out.blk.cell 3 rfl
      have s4 := D5.out.blk.cell 4 rfl
      have sk := D5.out.rsz.cell hlt
      rw [SK.out] at sk
      have w1 : IntKind.i64.wrap (nk - x0) = nk - x0 := wr (by omega) (by omega)
      by_cases h1 : 0 < wt
      · by_cases h2 : 0 ≤ 1 * (nk - x0)
        · have dd1 : decide (0 < wt) = true := decide_eq_true h1
          have e0 : fz0 = false := by rw [FZ.out]; simp only [sgF]; rw [decide_eq_true h1]; simp; omega
          have Y1' := hide (Y1.out e0)
          have Y2' := hide (Y2.out e0)
          clear Y1 Y2 Y3 Y4 e0 FZ
          have h3 : 0 ≤ nk - x0 := by omega
          go_wp2_with fail
          go_quiet (fail)
          have D6 := hide (D5.out.drewN nq)
          have f6 : (w5.drewN nq).cell? ⟨fb, 0, none⟩ = some (.int .i64 x0) := f1
          clear D5 f1 s2 s3 s4 sk
          generalize w5.drewN nq = w6 at *
          go_wp2_with fail
          have PRE : Hid (Dv w w6.drew d wb sb (some ⟨b, off, none⟩) n c true sp x (wtK true x k) (szK true x k) ∧ w6.drew.cell? ⟨fb, 0, none⟩ = some (.int .i64 x0)) := ⟨D6.out.drewN 1, f6⟩
          refine MJ.wp_region_chain (fun W' => W'.cell? ⟨d, 3, none⟩ = some (.slice (some ⟨wb, 0, none⟩) n n) ∧ W'.cell? ⟨d, 4, none⟩ = some (.slice (some ⟨sb, 0, none⟩) n n) ∧ W'.cell? ⟨fb, 0, none⟩ = some (.int .i64 x0)) [14, 16] []
            (st2 (fun W' => Dv w W' d wb sb (some ⟨b, off, none⟩) n c true sp x (wtK true x k) (szK true x k) ∧ W'.cell? ⟨fb, 0, none⟩ = some (.int .i64 x0)) (fun W' => Dv w W' d wb sb (some ⟨b, off, none⟩) n c true sp x (wtK true x (k + 1)) (szK true x k) ∧ W'.cell? ⟨fb, 0, none⟩ = some (.int .i64 x0)) (fun W' => Dv w W' d wb sb (some ⟨b, off, none⟩) n c true sp x (wtK true x (k + 1)) (szK true x (k + 1))))
            (by kernel_rfl) (by kernel_rfl) (by simp) ?h0 ?hJ ?_
          case h0 => exact PRE.out
          case hJ =>
            rintro vals W' (hl | hl) hS'
            · exact st2_J (J := fun W' => W'.cell? ⟨d, 3, none⟩ = some (.slice (some ⟨wb, 0, none⟩) n n) ∧ W'.cell? ⟨d, 4, none⟩ = some (.slice (some ⟨sb, 0, none⟩) n n) ∧ W'.cell? ⟨fb, 0, none⟩ = some (.int .i64 x0)) (fun W h => ⟨h.1.blk.cell 3 rfl, h.1.blk.cell 4 rfl, h.2⟩) (fun W h => ⟨h.1.blk.cell 3 rfl, h.1.blk.cell 4 rfl, h.2⟩) vals W' hl hS'
            · exact absurd hl (by rw [show MJ.sinkL _ _ = true by kernel_rfl]; exact Bool.noConfusion)
          repeat (refine MJ.lex_calm rfl (by rfl) (fun K hK => ?_); apply Exists.intro; refine ⟨fun W' hW => ?_, ?_⟩; (dsimp only at hW; go_simp; exact rfl); go_simp; refine hK _ ?_; clear hK K)
          refine MJ.lex_chain 0 rfl (by kernel_rfl) rfl ?_ ?_
          · rintro vs W' ⟨hD, hf⟩
            have y1 := hD.rwt.cell hlt
            have y2 := hD.rwt.frozen k
            have y3 : Hid (Dv w (W'.setCell ⟨wb, k, none⟩ (.int .i64 wt)) d wb sb (some ⟨b, off, none⟩) n c true sp x (wtK true x (k + 1)) (szK true x k) ∧ (W'.setCell ⟨wb, k, none⟩ (.int .i64 wt)).cell? ⟨fb, 0, none⟩ = some (.int .i64 x0)) := ⟨(hD.setw k wt).congr (fun j _ => Y1'.out j) (fun _ _ => rfl), (World.cell?_setCell_other _ _ _ _ (by intro e; simp only [Addr.mk.injEq] at e; exact f2 e.1)).trans hf⟩
            clear hD hf
            simp [go_sem, evS, List.lookup, y1, y2]
            exact y3.out
          repeat (refine MJ.lex_calm rfl (by rfl) (fun K hK => ?_); apply Exists.intro; refine ⟨fun W' hW => ?_, ?_⟩; (dsimp only at hW; go_simp; exact rfl); go_simp; refine hK _ ?_; clear hK K)
          refine MJ.lex_chain 1 rfl (by kernel_rfl) rfl ?_ ?_
          · rintro vs W' ⟨hD, hf⟩
            have y1 := hD.rsz.cell hlt
            have y2 := hD.rsz.frozen k
            have y3 : Hid (Dv w (W'.setCell ⟨sb, k, none⟩ (.int .i64 x0)) d wb sb (some ⟨b, off, none⟩) n c true sp x (wtK true x (k + 1)) (szK true x (k + 1))) := (hD.sets k x0).congr (fun _ _ => rfl) (fun j _ => Y2'.out j)
            clear hD hf
            simp [go_sem, evS, List.lookup, y1, y2]
            exact y3.out
          refine MJ.lex_nil ?_
          rintro vs w7 hD7
          have D7 := hide hD7
          replace D7 : Hid (Dv w w7 d wb sb (some ⟨b, off, none⟩) n c true sp x (wtK true x (k + 1)) (szK true x (k + 1))) := D7.out
          clear hD7 PRE D6
          simp only [fillS, List.foldl_nil]
          go_wp2_with fail
          go_roundg (n - k)
          case measure => omega
          case rel => exact ⟨k + 1, by go_num, by omega, by omega, D7⟩
        · have e0 : fz0 = true := by rw [FZ.out]; simp only [sgF]; rw [decide_eq_true h1]; simp; omega
          have D6 : Hid (Dv w w5 d wb sb (some ⟨b, off, none⟩) n c true sp x (wtK true x (k + 1)) (szK true x (k + 1))) := D5.out.congr (fun j _ => Y3.out e0 j) (fun j _ => Y4.out e0 j)
          have dd1 : decide (0 < wt) = true := decide_eq_true h1
          clear Y1 Y2 Y3 Y4 e0 FZ D5
          have h3 : nk - x0 < 0 := by omega
          have h4 : ¬ 0 ≤ nk - x0 := by omega
          go_wp2_with fail
          go_quiet (fail)
          have D7 := hide (D6.out.drewN nq)
          go_wp2_with fail
          go_roundg (n - k)
          case measure => omega
          case rel => exact ⟨k + 1, by go_num, by omega, by omega, D7⟩
      · have e0 : fz0 = true := by rw [FZ.out]; rw [decide_eq_false h1]; simp
        have D6 : Hid (Dv w w5 d wb sb (some ⟨b, off, none⟩) n c true sp x (wtK true x (k + 1)) (szK true x (k + 1))) := D5.out.congr (fun j _ => Y3.out e0 j) (fun j _ => Y4.out e0 j)
        have dd1 : decide (0 < wt) = false := decide_eq_false h1
        clear Y1 Y2 Y3 Y4 e0 FZ D5
        go_wp2_with fail
        go_quiet (fail)
        have D7 := hide (D6.out.drewN nq)
        go_wp2_with fail
        go_roundg (n - k)
        case measure => omega
        case rel => exact ⟨k + 1, by go_num, by omega, by omega, D7⟩
    · have hltz : ¬ (k : Int) < (n : Int) := by omega
      obtain rfl : n = k := by omega
      go_wp2_with fail
      go_ret
      have FIN := DD.out.congr (W' := zro (fr0 true x) (wtF true x)) (S' := szW x (natF x) (fr0 true x)) (fun j hj => by unfold wtK; rw [if_pos hj]) (fun j hj => by unfold szK; rw [if_pos hj])
      first
        | exact ⟨d, wb, sb, rfl, FIN⟩
        | exact ⟨d, rfl, wb, sb, FIN⟩
end Go.Proofs.Ytdoenkngmgclmaa
/- Toward package box's Resolve: the division before anything is shared. -/
namespace Go.Proofs.Ytdoenkngmgclmaa
open Go.RowKit Go.Sort
set_option linter.unusedVariables false
set_option linter.unusedSimpArgs false

set_option maxHeartbeats 16000000 in
set_option maxRecDepth 100000 in
theorem new_false (sp : Int) (p : Option Addr) (n c : Nat) (x : Nat → Fx) (w : World) (hr : SRow w p n 5 (fxC x)) (hn : n ≤ 100) (hx : ∀ i, i < n → okF (x i)) (hc : ¬ sumF (natF x) n ≤ sp) :
    Calls Try.prog 58 #[.int .i64 sp, .slice p n c] w fun e w' => ∃ d wb sb, e = .returned (.pointer (some ⟨d, 0, none⟩)) ∧ Dv w w' d wb sb p n c false sp x (zro (fr0 false x) (wtF false x)) (szW x (natF x) (fr0 false x)) := by
  have HR := hide hr
  have HX := hide hx
  have hmk : ∀ W : World, (Instr.makeSlice 22 (.int .i64 (n : Int)) (.int .i64 (n : Int))).run Try.prog W = .ok (.slice (some ⟨W.heap.size, 0, none⟩) n n) (W.alloc (.cells (ints n (fun _ => 0)) 3)) := make_ints n (by omega)
  have NB : Hid (∀ k, k < n → 0 ≤ natF x k ∧ natF x k ≤ 1048576) := fun k hk => nat_bd (hx k hk)
  have SM : ∀ (d wb sb : Nat) (W' : World), Dv w W' d wb sb p n c true sp x (fun _ => 0) (natF x) → Hid (Calls Try.prog 70 #[.slice (some ⟨sb, 0, none⟩) n n] W' fun e w' => e = .returned (.int .i64 (sumF (natF x) n)) ∧ W' = w') := fun d wb sb W' D' => hide (bsum_any (some ⟨sb, 0, none⟩) n n (natF x) W' (by omega) (fun k hk => by have := NB.out k hk; omega) D'.rsz.reads)
  have hcz : sp < sumF (natF x) n := by omega
  clear hr hx hc
  go_enter Try.func58, Try.ntmps58
  go_wp2_with fail
  refine MJ.wp_region_mixed (fun _ => True) [4, 6, 7, 8, 9] [(13, 4), (15, 6), (16, 7), (17, 8), (5, 9)] (nwM w n x sp p c) (by kernel_rfl) (by kernel_rfl) (by simp) ?h0 (fun D D' vs vs' W hD h => h.ext hD) (fun _ _ _ _ _ _ _ _ _ => trivial) ?_
  case h0 => exact fun vs => ⟨(Below.refl _ _).drew, fun h => Bool.noConfusion h, fun h => Bool.noConfusion h, fun h => Bool.noConfusion h, fun h => Bool.noConfusion h, fun h => Bool.noConfusion h⟩
  repeat (refine MJ.lex_calm rfl (by rfl) (fun K hK => ?_); apply Exists.intro; refine ⟨fun W' hW => ?_, ?_⟩; (dsimp only at hW; go_simp; exact rfl); go_simp; refine hK _ ?_; clear hK K)
  refine MJ.lex_made (by rfl) rfl ?_ ?_
  · rintro D vs W hM h4 hcl hdep
    have FIN := hide hM.op4
    clear hM
    have hm := hmk W
    simp [go_sem, evS, List.lookup, hm]
    exact FIN.out
  repeat (refine MJ.lex_calm rfl (by rfl) (fun K hK => ?_); apply Exists.intro; refine ⟨fun W' hW => ?_, ?_⟩; (dsimp only at hW; go_simp; exact rfl); go_simp; refine hK _ ?_; clear hK K)
  refine MJ.lex_made (by rfl) rfl ?_ ?_
  · rintro D vs W hM h4 hcl hdep
    have NA := hide (natural_any p n c x W (HR.out.below hM.m0) hn)
    have MM := hide hM
    clear hM
    simp [go_sem, evS, List.lookup]
    refine NA.out.mono ?_
    rintro e w' ⟨b, rfl, hb, hr, hB⟩
    exact ⟨_, rfl, MM.out.op6 hb hr hB⟩
  repeat (refine MJ.lex_calm rfl (by rfl) (fun K hK => ?_); apply Exists.intro; refine ⟨fun W' hW => ?_, ?_⟩; (dsimp only at hW; go_simp; exact rfl); go_simp; refine hK _ ?_; clear hK K)
  refine MJ.lex_made (by rfl) rfl ?_ ?_
  · rintro D vs W hM h4 hcl hdep
    obtain ⟨wb, sb, e4, e6, hM2⟩ := hM.op7 (hdep 4 (by decide +kernel)) (hdep 6 (by decide +kernel))
    have FIN := hide hM2
    clear hM hM2
    simp [go_sem, evS, List.lookup, e4, e6]
    exact FIN.out
  repeat (refine MJ.lex_calm rfl (by rfl) (fun K hK => ?_); apply Exists.intro; refine ⟨fun W' hW => ?_, ?_⟩; (dsimp only at hW; go_simp; exact rfl); go_simp; refine hK _ ?_; clear hK K)
  refine MJ.lex_made (by rfl) rfl ?_ ?_
  · rintro D vs W hM h4 hcl hdep
    obtain ⟨wb, sb, e7, hM2⟩ := hM.op8 (hdep 7 (by decide +kernel))
    have FIN := hide hM2
    clear hM hM2
    simp [go_sem, evS, List.lookup, e7]
    exact FIN.out
  repeat (refine MJ.lex_calm rfl (by rfl) (fun K hK => ?_); apply Exists.intro; refine ⟨fun W' hW => ?_, ?_⟩; (dsimp only at hW; go_simp; exact rfl); go_simp; refine hK _ ?_; clear hK K)
  refine MJ.lex_made (by rfl) rfl ?_ ?_
  · rintro D vs W hM h4 hcl hdep
    have FIN := hide (hM.op9 (hdep 8 (by decide +kernel)))
    obtain ⟨d, wb, sb, e8, _⟩ := hM.m8 (hdep 8 (by decide +kernel))
    rw [e8] at FIN
    clear hM
    simp [go_sem, evS, List.lookup, e8]
    exact FIN.out
  refine MJ.lex_nil ?_
  rintro vs w1 hM
  obtain ⟨d, wb, sb, e9, n1, n2, n3, hb, n4, n5, n6, hr1, hr2⟩ := hM.m9 rfl
  have D1 : Hid (Dv w w1 d wb sb p n c true sp x (fun _ => 0) (natF x)) := ⟨hb, hr1, hr2, HR.out, hM.m0, n1, n4, n5, n2, n3, n6⟩
  clear hM hb hr1 hr2 n1 n2 n3 n4 n5 n6 hmk
  simp only [fillS, List.foldl_cons, List.foldl_nil, e9]
  clear e9
  have c4 := D1.out.blk.cell 4 rfl
  go_wp2_with fail
  refine (SM d wb sb _ D1.out).out.mono ?_
  rintro e w' ⟨rfl, rfl⟩
  clear SM c4
  have c2 := D1.out.blk.cell 2 rfl
  have f2 := D1.out.blk.free 2
  have D2 := hide D1.out.neg
  go_wp2_with fail
  clear D1 c2 f2
  generalize w1.setCell ⟨d, 2, none⟩ (.int .i64 (-1)) = w2 at *
  have D3 : Hid (Dv w w2 d wb sb p n c false sp x (wtK false x 0) (szK false x 0)) := D2.out.congr (fun j hj => by unfold wtK; simp) (fun j hj => by unfold szK; simp)
  clear D2
  go_loopg [30] (n + 1) (fun g1 vk wr => ∃ k : Nat, vk = .int .i64 (k : Int) ∧ k ≤ n ∧ n - k < g1 ∧ Hid (Dv w wr d wb sb p n c false sp x (wtK false x k) (szK false x k)))
  case atStart => exact ⟨0, by go_num, by omega, by omega, D3⟩
  case round =>
    clear D3
    obtain ⟨wo, rfl⟩ : ∃ wo : World, wo = wr := ⟨_, rfl⟩
    obtain ⟨k, rfl, hk, hg, DD⟩ := hrel
    by_cases hlt : k < n
    · have hltz : (k : Int) < (n : Int) := by omega
      obtain ⟨b, off, rfl, hb, hc⟩ := (HR.out.below DD.out.below) (by omega)
      have c0 : wo.cell? ⟨b, off + k * 5, none⟩ = some (.int .i64 (x k).ba) := hc k hlt 0 (by decide)
      have c1 : wo.cell? ⟨b, off + k * 5 + 1, none⟩ = some (.int .i64 (x k).mn) := hc k hlt 1 (by decide)
      have c2 : wo.cell? ⟨b, off + k * 5 + 2, none⟩ = some (.int .i64 (x k).mx) := hc k hlt 2 (by decide)
      have c3 : wo.cell? ⟨b, off + k * 5 + 3, none⟩ = some (.int .i64 (x k).gr) := hc k hlt 3 (by decide)
      have c4 : wo.cell? ⟨b, off + k * 5 + 4, none⟩ = some (.int .i64 (x k).sh) := hc k hlt 4 (by decide)
      have WT : ∀ o, Hid (Calls Try.prog 71 #[.pointer (some ⟨d, 0, none⟩), fxU (x k)] (wo.alloc o) fun e w' => e = .returned (.int .i64 (wtF false x k)) ∧ Grew (wo.alloc o) w') := fun o => hide (weight_any x k false d _ ((DD.out.grown ((Below.refl _ _).alloc (Nat.le_refl _) o)).blk.cell 2 rfl) (HX.out k hlt))
      have wb2 := wt_bd (g := false) (HX.out k hlt)
      have nb := NB.out k hlt
      have bb := (HX.out k hlt).1
      have FZ := hide (start_z (g := false) (HX.out k hlt))
      have GR : Hid (∀ o w', Grew (wo.alloc o) w' → Dv w w' d wb sb (some ⟨b, off, none⟩) n c false sp x (wtK false x k) (szK false x k)) := fun o w' h => DD.out.grown (((Below.refl _ _).alloc (Nat.le_refl _) o).trans (h.1.mono (by rw [World.size_alloc]; omega)))
      have FB : Hid (∀ w', Grew (wo.alloc (.cells #[.int .i64 (x k).ba, .int .i64 (x k).mn, .int .i64 (x k).mx, .int .i64 (x k).gr, .int .i64 (x k).sh] 69)) w' → w'.cell? ⟨wo.heap.size, 0, none⟩ = some (.int .i64 (x k).ba) ∧ wb ≠ wo.heap.size ∧ sb ≠ wo.heap.size) := fun w' h => ⟨((Blk.new (W := wo) (vs := [.int .i64 (x k).ba, .int .i64 (x k).mn, .int .i64 (x k).mx, .int .i64 (x k).gr, .int .i64 (x k).sh]) rfl).grew h).cell 0 rfl, Nat.ne_of_lt DD.out.lt.2.1, Nat.ne_of_lt DD.out.lt.2.2⟩
      have Y1 : Hid (fr0 false x k = false → ∀ j, (if j = k then wtF false x k else wtK false x k j) = wtK false x (k + 1) j) := fun h j => wtK_yes h
      have Y2 : Hid (fr0 false x k = false → ∀ j, (if j = k then (x k).ba else szK false x k j) = szK false x (k + 1) j) := fun h j => szK_yes h
      have Y3 : Hid (fr0 false x k = true → ∀ j, wtK false x k j = wtK false x (k + 1) j) := fun h j => wtK_no h
      have Y4 : Hid (fr0 false x k = true → ∀ j, szK false x k j = szK false x (k + 1) j) := fun h j => szK_no h
      have SK : Hid (szK false x k k = natF x k) := by show _ = _; unfold szK; rw [if_neg (by omega)]
      clear hc hb DD
      generalize fr0 false x k = fz0 at *
      generalize wtF false x k = wt at *
      generalize natF x k = nk at *
      obtain ⟨y, hy⟩ : ∃ y, y = x k := ⟨_, rfl⟩
      rw [← hy] at c0 c1 c2 c3 c4 WT bb FZ FB Y2
      clear hy
      obtain ⟨x0, x1, x2, x3, x4⟩ := y
      dsimp only at *
      obtain ⟨b1, b2⟩ := bb
      obtain ⟨b3, b4⟩ := nb
      obtain ⟨b5, b6⟩ := wb2
      go_wp2_with fail
      refine (WT _).out.mono ?_
      rintro e w5 ⟨rfl, hG⟩
      have D5 := hide (GR.out _ _ hG)
      obtain ⟨f1, f2, f3⟩ := FB.out _ hG
      clear WT GR FB hG c0 c1 c2 c3 c4
      generalize wo.heap.size = fb at *
      have s2 : w5.cell? ⟨d, 2, none⟩ = some (.int .i64 (-1)) := D5.out.blk.cell 2 rfl
      have s3 := D5.out.blk.cell 3 rfl
      have s4 := D5.out.blk.cell 4 rfl
      have sk := D5.out.rsz.cell hlt
      rw [SK.out] at sk
      have w1 : IntKind.i64.wrap (nk - x0) = nk - x0 := wr (by omega) (by omega)
      by_cases h1 : 0 < wt
      · by_cases h2 : 0 ≤ -1 * (nk - x0)
        · have dd1 : decide (0 < wt) = true := decide_eq_true h1
          have e0 : fz0 = false := by rw [FZ.out]; simp only [sgF]; rw [decide_eq_true h1]; simp; omega
          have Y1' := hide (Y1.out e0)
          have Y2' := hide (Y2.out e0)
          clear Y1 Y2 Y3 Y4 e0 FZ
          have h3 : 0 ≤ x0 - nk := by omega
          go_wp2_with fail
          go_quiet (fail)
          have D6 := hide (D5.out.drewN nq)
          have f6 : (w5.drewN nq).cell? ⟨fb, 0, none⟩ = some (.int .i64 x0) := f1
          clear D5 f1 s2 s3 s4 sk
          generalize w5.drewN nq = w6 at *
          go_wp2_with fail
          have PRE : Hid (Dv w w6.drew d wb sb (some ⟨b, off, none⟩) n c false sp x (wtK false x k) (szK false x k) ∧ w6.drew.cell? ⟨fb, 0, none⟩ = some (.int .i64 x0)) := ⟨D6.out.drewN 1, f6⟩
          refine MJ.wp_region_chain (fun W' => W'.cell? ⟨d, 3, none⟩ = some (.slice (some ⟨wb, 0, none⟩) n n) ∧ W'.cell? ⟨d, 4, none⟩ = some (.slice (some ⟨sb, 0, none⟩) n n) ∧ W'.cell? ⟨fb, 0, none⟩ = some (.int .i64 x0)) [14, 16] []
            (st2 (fun W' => Dv w W' d wb sb (some ⟨b, off, none⟩) n c false sp x (wtK false x k) (szK false x k) ∧ W'.cell? ⟨fb, 0, none⟩ = some (.int .i64 x0)) (fun W' => Dv w W' d wb sb (some ⟨b, off, none⟩) n c false sp x (wtK false x (k + 1)) (szK false x k) ∧ W'.cell? ⟨fb, 0, none⟩ = some (.int .i64 x0)) (fun W' => Dv w W' d wb sb (some ⟨b, off, none⟩) n c false sp x (wtK false x (k + 1)) (szK false x (k + 1))))
            (by kernel_rfl) (by kernel_rfl) (by simp) ?h0 ?hJ ?_
          case h0 => exact PRE.out
          case hJ =>
            rintro vals W' (hl | hl) hS'
            · exact st2_J (J := fun W' => W'.cell? ⟨d, 3, none⟩ = some (.slice (some ⟨wb, 0, none⟩) n n) ∧ W'.cell? ⟨d, 4, none⟩ = some (.slice (some ⟨sb, 0, none⟩) n n) ∧ W'.cell? ⟨fb, 0, none⟩ = some (.int .i64 x0)) (fun W h => ⟨h.1.blk.cell 3 rfl, h.1.blk.cell 4 rfl, h.2⟩) (fun W h => ⟨h.1.blk.cell 3 rfl, h.1.blk.cell 4 rfl, h.2⟩) vals W' hl hS'
            · exact absurd hl (by rw [show MJ.sinkL _ _ = true by kernel_rfl]; exact Bool.noConfusion)
          repeat (refine MJ.lex_calm rfl (by rfl) (fun K hK => ?_); apply Exists.intro; refine ⟨fun W' hW => ?_, ?_⟩; (dsimp only at hW; go_simp; exact rfl); go_simp; refine hK _ ?_; clear hK K)
          refine MJ.lex_chain 0 rfl (by kernel_rfl) rfl ?_ ?_
          · rintro vs W' ⟨hD, hf⟩
            have y1 := hD.rwt.cell hlt
            have y2 := hD.rwt.frozen k
            have y3 : Hid (Dv w (W'.setCell ⟨wb, k, none⟩ (.int .i64 wt)) d wb sb (some ⟨b, off, none⟩) n c false sp x (wtK false x (k + 1)) (szK false x k) ∧ (W'.setCell ⟨wb, k, none⟩ (.int .i64 wt)).cell? ⟨fb, 0, none⟩ = some (.int .i64 x0)) := ⟨(hD.setw k wt).congr (fun j _ => Y1'.out j) (fun _ _ => rfl), (World.cell?_setCell_other _ _ _ _ (by intro e; simp only [Addr.mk.injEq] at e; exact f2 e.1)).trans hf⟩
            clear hD hf
            simp [go_sem, evS, List.lookup, y1, y2]
            exact y3.out
          repeat (refine MJ.lex_calm rfl (by rfl) (fun K hK => ?_); apply Exists.intro; refine ⟨fun W' hW => ?_, ?_⟩; (dsimp only at hW; go_simp; exact rfl); go_simp; refine hK _ ?_; clear hK K)
          refine MJ.lex_chain 1 rfl (by kernel_rfl) rfl ?_ ?_
          · rintro vs W' ⟨hD, hf⟩
            have y1 := hD.rsz.cell hlt
            have y2 := hD.rsz.frozen k
            have y3 : Hid (Dv w (W'.setCell ⟨sb, k, none⟩ (.int .i64 x0)) d wb sb (some ⟨b, off, none⟩) n c false sp x (wtK false x (k + 1)) (szK false x (k + 1))) := (hD.sets k x0).congr (fun _ _ => rfl) (fun j _ => Y2'.out j)
            clear hD hf
            simp [go_sem, evS, List.lookup, y1, y2]
            exact y3.out
          refine MJ.lex_nil ?_
          rintro vs w7 hD7
          have D7 := hide hD7
          replace D7 : Hid (Dv w w7 d wb sb (some ⟨b, off, none⟩) n c false sp x (wtK false x (k + 1)) (szK false x (k + 1))) := D7.out
          clear hD7 PRE D6
          simp only [fillS, List.foldl_nil]
          go_wp2_with fail
          go_roundg (n - k)
          case measure => omega
          case rel => exact ⟨k + 1, by go_num, by omega, by omega, D7⟩
        · have e0 : fz0 = true := by rw [FZ.out]; simp only [sgF]; rw [decide_eq_true h1]; simp; omega
          have D6 : Hid (Dv w w5 d wb sb (some ⟨b, off, none⟩) n c false sp x (wtK false x (k + 1)) (szK false x (k + 1))) := D5.out.congr (fun j _ => Y3.out e0 j) (fun j _ => Y4.out e0 j)
          have dd1 : decide (0 < wt) = true := decide_eq_true h1
          clear Y1 Y2 Y3 Y4 e0 FZ D5
          have h3 : x0 - nk < 0 := by omega
          have h4 : ¬ 0 ≤ x0 - nk := by omega
          go_wp2_with fail
          go_quiet (fail)
          have D7 := hide (D6.out.drewN nq)
          go_wp2_with fail
          go_roundg (n - k)
          case measure => omega
          case rel => exact ⟨k + 1, by go_num, by omega, by omega, D7⟩
      · have e0 : fz0 = true := by rw [FZ.out]; rw [decide_eq_false h1]; simp
        have D6 : Hid (Dv w w5 d wb sb (some ⟨b, off, none⟩) n c false sp x (wtK false x (k + 1)) (szK false x (k + 1))) := D5.out.congr (fun j _ => Y3.out e0 j) (fun j _ => Y4.out e0 j)
        have dd1 : decide (0 < wt) = false := decide_eq_false h1
        clear Y1 Y2 Y3 Y4 e0 FZ D5
        go_wp2_with fail
        go_quiet (fail)
        have D7 := hide (D6.out.drewN nq)
        go_wp2_with fail
        go_roundg (n - k)
        case measure => omega
        case rel => exact ⟨k + 1, by go_num, by omega, by omega, D7⟩
    · have hltz : ¬ (k : Int) < (n : Int) := by omega
      obtain rfl : n = k := by omega
      go_wp2_with fail
      go_ret
      have FIN := DD.out.congr (W' := zro (fr0 false x) (wtF false x)) (S' := szW x (natF x) (fr0 false x)) (fun j hj => by unfold wtK; rw [if_pos hj]) (fun j hj => by unfold szK; rw [if_pos hj])
      first
        | exact ⟨d, wb, sb, rfl, FIN⟩
        | exact ⟨d, rfl, wb, sb, FIN⟩
end Go.Proofs.Ytdoenkngmgclmaa
/- Toward package box's Resolve: a round of the freezing. -/
namespace Go.Proofs.Ytdoenkngmgclmaa
open Go.RowKit Go.Sort
set_option linter.unusedVariables false
set_option linter.unusedSimpArgs false

theorem cl_in {y : Fx} (hy : okF y) (v : Int) : 0 ≤ clF y v ∧ clF y v ≤ 1048576 := by
  obtain ⟨_, h2, h3, _⟩ := hy
  have := cl_bd y v
  by_cases h : y.mx < y.mn
  · have := this.2.2 h; omega
  · have := this.2.1 (by omega); omega
section
variable {g : Bool} {sp : Int} {x : Nat → Fx} {n : Nat} {s : Nat → Int} {z : Nat → Bool}
theorem szW_bd (hx : ∀ i, i < n → okF (x i)) (hs : ∀ i, i < n → 0 ≤ s i ∧ s i ≤ 1048576) {i : Nat} (hi : i < n) : 0 ≤ szW x s z i ∧ szW x s z i ≤ 1048576 := by
  unfold szW
  split
  · exact hs i hi
  · exact (hx i hi).1
theorem tgW_bd (hn : n ≤ 100) (hx : ∀ i, i < n → okF (x i)) (hs : ∀ i, i < n → 0 ≤ s i ∧ s i ≤ 1048576) (hsp : -209715200 ≤ sp ∧ sp ≤ 1048576) {i : Nat} (hi : i < n) :
    -1073741824 ≤ tgW g sp x n s z i ∧ tgW g sp x n s z i ≤ 1073741824 := by
  rw [← tgW_eq hx hi]
  have a := szW_bd (z := z) hx hs hi
  have b := sumF_bound (f := szW x s z) (B := 1048576) n fun j hj => szW_bd hx hs hj
  have q : 0 ≤ max (sgF g * (sp - sumF (szW x s z) n)) 0 ∧ max (sgF g * (sp - sumF (szW x s z) n)) 0 ≤ 536870912 := by rw [sg_mul]; split <;> omega
  have c := shr_bd (T := max (sgF g * (sp - sumF (szW x s z) n)) 0) (zro_good (g := g) (z := z) hx) q.1 hi
  rw [sg_mul]
  split <;> omega
end
/-- What stands behind the call of limited, the difference, the store. -/
def st3 (A0 A1 : World → Prop) (a b : Int) : List Value → World → Prop
  | [], W => A0 W
  | [v], W => v = .int .i64 a ∧ A0 W
  | [_, u], W => u = .int .i64 b ∧ A0 W
  | _ :: _ :: _ :: _, W => A1 W
theorem st3_J {A0 A1 J : World → Prop} {a b : Int} (h0 : ∀ W, A0 W → J W) : ∀ (vals : List Value) (W : World), vals.length < 3 → st3 A0 A1 a b vals W → J W
  | [], W, _, h => h0 W h
  | [_], W, _, h => h0 W h.2
  | [_, _], W, _, h => h0 W h.2
  | _ :: _ :: _ :: _, W, hl, _ => absurd hl (by simp)
abbrev fxUL (x : Fx) : List Value := [.int .i64 x.ba, .int .i64 x.mn, .int .i64 x.mx, .int .i64 x.gr, .int .i64 x.sh]
set_option maxHeartbeats 16000000 in
set_option maxRecDepth 100000 in
theorem freeze_any {w0 w : World} {d wb sb : Nat} {p : Option Addr} {n c : Nat} {g : Bool} {sp : Int} {x : Nat → Fx} {s : Nat → Int} {z : Nat → Bool}
    (D : Dv w0 w d wb sb p n c g sp x (zro z (wtF g x)) (szW x s z)) (hn : n ≤ 100) (hx : ∀ i, i < n → okF (x i)) (hs : ∀ i, i < n → 0 ≤ s i ∧ s i ≤ 1048576) (hc : ∀ i, ∃ u, s i = clF (x i) u) (hsp : -209715200 ≤ sp ∧ sp ≤ 1048576) :
    Calls Try.prog 61 #[.pointer (some ⟨d, 0, none⟩)] w fun e w' => e = .returned (.tuple #[]) ∧ Dv w0 w' d wb sb p n c g sp x (zro (fun i => (stepF g sp x n s z i).2) (wtF g x)) (szW x (fun i => (stepF g sp x n s z i).1) (fun i => (stepF g sp x n s z i).2)) := by
  have HR := hide D.el
  have HX := hide hx
  have TA := hide (targets_any D hn (zro_good hx) (fun i hi => szW_bd hx hs hi) hsp)
  have TB : Hid (∀ i, i < n → -1073741824 ≤ tgW g sp x n s z i ∧ tgW g sp x n s z i ≤ 1073741824) := fun i hi => tgW_bd hn hx hs hsp hi
  have TE : Hid (∀ i, i < n → szW x s z i + sgF g * shr (max (sgF g * (sp - sumF (szW x s z) n)) 0) (zro z (wtF g x)) n i = tgW g sp x n s z i) := fun i hi => tgW_eq hx hi
  have EB : Hid (∀ i, i < n → exW g sp x n s z i = clF (x i) (tgW g sp x n s z i) - tgW g sp x n s z i ∧ (0 ≤ clF (x i) (tgW g sp x n s z i) ∧ clF (x i) (tgW g sp x n s z i) ≤ 1048576)) := fun i hi => ⟨rfl, cl_in (hx i hi) _⟩
  have ES : Hid (sumF (exW g sp x n s z) n = vioF g sp x n s z) := exW_sum hc
  have HSB : Hid (∀ i, setB g sp x n s z i = (decide (vioF g sp x n s z = 0) || samB (exW g sp x n s z i) (vioF g sp x n s z))) := fun i => rfl
  have SETW : Hid (∀ i, (if setB g sp x n s z i then 0 else zro z (wtF g x) i) = zro (fun i => (stepF g sp x n s z i).2) (wtF g x) i) := fun i => set_weight (hc i)
  have SETS : Hid (∀ i, (if setB g sp x n s z i then tgW g sp x n s z i + exW g sp x n s z i else szW x s z i) = szW x (fun i => (stepF g sp x n s z i).1) (fun i => (stepF g sp x n s z i).2) i) := fun i => set_size (hc i)
  have HD := hide D
  clear D hx hs hc
  generalize zro (fun i => (stepF g sp x n s z i).2) (wtF g x) = WN at *
  generalize szW x (fun i => (stepF g sp x n s z i).1) (fun i => (stepF g sp x n s z i).2) = SN at *
  generalize setB g sp x n s z = ST at *
  generalize vioF g sp x n s z = V at *
  generalize exW g sp x n s z = EX at *
  generalize tgW g sp x n s z = TG at *
  generalize zro z (wtF g x) = WF at *
  generalize szW x s z = SF at *
  have hmk : ∀ W : World, (Instr.makeSlice 22 (.int .i64 (n : Int)) (.int .i64 (n : Int))).run Try.prog W = .ok (.slice (some ⟨W.heap.size, 0, none⟩) n n) (W.alloc (.cells (ints n (fun _ => 0)) 3)) := make_ints n (by omega)
  go_enter Try.func61, Try.ntmps61
  go_wp2_with fail
  refine TA.out.mono ?_
  rintro e w1 ⟨tb, rfl, ht, hr, hB⟩
  have D1 := hide (HD.out.grown hB)
  have T1 : Hid (IRow w1 tb n TG) := hr.congr TE.out
  have NT : Hid (w0.heap.size ≤ tb ∧ wb ≠ tb ∧ sb ≠ tb) := ⟨Nat.le_trans HD.out.below.size ht, by have := HD.out.lt; omega, by have := HD.out.lt; omega⟩
  clear TA TE hr hB HD ht
  have D2 : Hid (Dv w0 (w1.alloc (.cells (ints n fun _ => 0) 3)) d wb sb p n c g sp x WF SF) := D1.out.grown ((Below.refl _ _).alloc (Nat.le_refl _) _)
  have T2 : Hid (IRow (w1.alloc (.cells (ints n fun _ => 0) 3)) tb n TG) := T1.out.alloc _
  have E2 : Hid (IRow (w1.alloc (.cells (ints n fun _ => 0) 3)) w1.heap.size n (fun j => if j < 0 then EX j else 0)) := (IRow.new w1 n (fun _ => 0)).congr fun j hj => by simp
  have c1 : (w1.alloc (.cells (ints n fun _ => 0) 3)).cell? ⟨d, 1, none⟩ = some (.slice p n c) := D2.out.blk.cell 1 rfl
  have NE : Hid (w0.heap.size ≤ w1.heap.size ∧ d ≠ w1.heap.size ∧ tb ≠ w1.heap.size ∧ tb ≠ wb ∧ tb ≠ sb ∧ w1.heap.size ≠ wb ∧ w1.heap.size ≠ sb) := ⟨D1.out.below.size, Nat.ne_of_lt D1.out.lt.1, Nat.ne_of_lt T1.out.lt, Ne.symm NT.out.2.1, Ne.symm NT.out.2.2, Nat.ne_of_gt D1.out.lt.2.1, Nat.ne_of_gt D1.out.lt.2.2⟩
  clear D1 T1
  go_wp2_with fail
  clear hmk c1
  generalize w1.alloc (.cells (ints n fun _ => 0) 3) = w2 at *
  generalize w1.heap.size = eb at *
  go_loopg [19] (n + 1) (fun g1 vk wr => ∃ k : Nat, vk = .int .i64 (k : Int) ∧ k ≤ n ∧ n - k < g1 ∧ Hid (Dv w0 wr d wb sb p n c g sp x WF SF) ∧ Hid (IRow wr tb n TG) ∧ Hid (IRow wr eb n (fun j => if j < k then EX j else 0)))
  case atStart => exact ⟨0, by go_num, by omega, by omega, D2, T2, E2⟩
  case round =>
    clear D2 T2 E2
    obtain ⟨wo, rfl⟩ : ∃ wo : World, wo = wr := ⟨_, rfl⟩
    obtain ⟨k, rfl, hk, hg, DD, TT, EE⟩ := hrel
    by_cases hlt : k < n
    · have hltz : (k : Int) < (n : Int) := by omega
      obtain ⟨b, off, rfl, hb, hc⟩ := (HR.out.below DD.out.below) (by omega)
      obtain ⟨p, hp⟩ : ∃ p : Option Addr, p = some ⟨b, off, none⟩ := ⟨_, rfl⟩
      have c0 : wo.cell? ⟨b, off + k * 5, none⟩ = some (.int .i64 (x k).ba) := hc k hlt 0 (by decide)
      have c1 : wo.cell? ⟨b, off + k * 5 + 1, none⟩ = some (.int .i64 (x k).mn) := hc k hlt 1 (by decide)
      have c2 : wo.cell? ⟨b, off + k * 5 + 2, none⟩ = some (.int .i64 (x k).mx) := hc k hlt 2 (by decide)
      have c3 : wo.cell? ⟨b, off + k * 5 + 3, none⟩ = some (.int .i64 (x k).gr) := hc k hlt 3 (by decide)
      have c4 : wo.cell? ⟨b, off + k * 5 + 4, none⟩ = some (.int .i64 (x k).sh) := hc k hlt 4 (by decide)
      have LM := fun W => hide (limited_any (x k) (TG k) W)
      obtain ⟨t1, t2⟩ := TB.out k hlt
      obtain ⟨e1, e2, e3⟩ := EB.out k hlt
      have EK : Hid (EX k = clF (x k) (TG k) - TG k) := e1
      have TK : Hid (TG k = TG k) := rfl
      have FBK : Hid (Blk (wo.alloc (.cells #[.int .i64 (x k).ba, .int .i64 (x k).mn, .int .i64 (x k).mx, .int .i64 (x k).gr, .int .i64 (x k).sh] 69)) wo.heap.size 69 [.int .i64 (x k).ba, .int .i64 (x k).mn, .int .i64 (x k).mx, .int .i64 (x k).gr, .int .i64 (x k).sh]) := Blk.new rfl
      have DA : Hid (∀ o, Dv w0 (wo.alloc o) d wb sb (some ⟨b, off, none⟩) n c g sp x WF SF) := fun o => DD.out.grown ((Below.refl _ _).alloc (Nat.le_refl _) o)
      have TA : Hid (∀ o, IRow (wo.alloc o) tb n TG) := fun o => TT.out.alloc o
      have EA : Hid (∀ o, IRow (wo.alloc o) eb n (fun j => if j < k then EX j else 0)) := fun o => EE.out.alloc o
      have NF : Hid (eb ≠ wo.heap.size) := Nat.ne_of_lt EE.out.lt
      clear hc hb DD TT EE e1
      obtain ⟨tk, htk⟩ : ∃ tk, tk = TG k := ⟨_, rfl⟩
      rw [← htk] at LM t1 t2 e2 e3 EK
      replace TK : Hid (TG k = tk) := htk.symm
      clear htk
      obtain ⟨y, hy⟩ : ∃ y, y = x k := ⟨_, rfl⟩
      rw [← hy] at c0 c1 c2 c3 c4 LM EK FBK e2 e3
      clear hy
      obtain ⟨ck, hck⟩ : ∃ ck, ck = clF y tk := ⟨_, rfl⟩
      rw [← hck] at LM EK e2 e3
      clear hck
      obtain ⟨x0, x1, x2, x3, x4⟩ := y
      dsimp only at *
      have wk : IntKind.i64.wrap (ck - tk) = ck - tk := wr (by omega) (by omega)
      go_wp2_with fail
      have PRE : Hid (Dv w0 (wo.alloc (.cells #[.int .i64 x0, .int .i64 x1, .int .i64 x2, .int .i64 x3, .int .i64 x4] 69)).drew d wb sb (some ⟨b, off, none⟩) n c g sp x WF SF ∧ IRow (wo.alloc (.cells #[.int .i64 x0, .int .i64 x1, .int .i64 x2, .int .i64 x3, .int .i64 x4] 69)).drew tb n TG ∧ IRow (wo.alloc (.cells #[.int .i64 x0, .int .i64 x1, .int .i64 x2, .int .i64 x3, .int .i64 x4] 69)).drew eb n (fun j => if j < k then EX j else 0) ∧ Blk (wo.alloc (.cells #[.int .i64 x0, .int .i64 x1, .int .i64 x2, .int .i64 x3, .int .i64 x4] 69)).drew wo.heap.size 69 [.int .i64 x0, .int .i64 x1, .int .i64 x2, .int .i64 x3, .int .i64 x4]) := ⟨(DA.out _).drewN 1, TA.out _, EA.out _, FBK.out.drew⟩
      clear DA TA EA FBK c0 c1 c2 c3 c4
      generalize wo.alloc (.cells #[.int .i64 x0, .int .i64 x1, .int .i64 x2, .int .i64 x3, .int .i64 x4] 69) = w4 at *
      generalize wo.heap.size = fb at *
      refine MJ.wp_region_chain (fun W' => (W'.cell? ⟨fb, 0, none⟩ = some (.int .i64 x0) ∧ W'.cell? ⟨fb, 1, none⟩ = some (.int .i64 x1) ∧ W'.cell? ⟨fb, 2, none⟩ = some (.int .i64 x2) ∧ W'.cell? ⟨fb, 3, none⟩ = some (.int .i64 x3) ∧ W'.cell? ⟨fb, 4, none⟩ = some (.int .i64 x4) ∧ W'.cell? ⟨tb, k, none⟩ = some (.int .i64 tk))) [7, 12, 14] [(31, 7), (36, 12)] (st3 (fun W' => (Dv w0 W' d wb sb (some ⟨b, off, none⟩) n c g sp x WF SF ∧ IRow W' tb n TG ∧ IRow W' eb n (fun j => if j < k then EX j else 0) ∧ Blk W' fb 69 [.int .i64 x0, .int .i64 x1, .int .i64 x2, .int .i64 x3, .int .i64 x4])) (fun W' => (Dv w0 W' d wb sb (some ⟨b, off, none⟩) n c g sp x WF SF ∧ IRow W' tb n TG ∧ IRow W' eb n (fun j => if j < k + 1 then EX j else 0))) ck (ck - tk)) (by kernel_rfl) (by kernel_rfl) (by simp) ?h0 ?hJ ?_
      case h0 => exact PRE.out
      case hJ =>
        rintro vals W' (hl | hl) hS'
        · exact st3_J (J := fun W' => (W'.cell? ⟨fb, 0, none⟩ = some (.int .i64 x0) ∧ W'.cell? ⟨fb, 1, none⟩ = some (.int .i64 x1) ∧ W'.cell? ⟨fb, 2, none⟩ = some (.int .i64 x2) ∧ W'.cell? ⟨fb, 3, none⟩ = some (.int .i64 x3) ∧ W'.cell? ⟨fb, 4, none⟩ = some (.int .i64 x4) ∧ W'.cell? ⟨tb, k, none⟩ = some (.int .i64 tk))) (fun W h => ⟨h.2.2.2.cell 0 rfl, h.2.2.2.cell 1 rfl, h.2.2.2.cell 2 rfl, h.2.2.2.cell 3 rfl, h.2.2.2.cell 4 rfl, TK.out ▸ h.2.1.cell hlt⟩) vals W' hl hS'
        · exact absurd hl (by rw [show MJ.sinkL _ _ = true by kernel_rfl]; exact Bool.noConfusion)
      repeat (refine MJ.lex_calm rfl (by rfl) (fun K hK => ?_); apply Exists.intro; refine ⟨fun W' hW => ?_, ?_⟩; (dsimp only at hW; go_simp; exact rfl); go_simp; refine hK _ ?_; clear hK K)
      refine MJ.lex_chain 0 rfl (by kernel_rfl) rfl ?_ ?_
      · rintro vs W' ⟨h1, h2, h3, h4⟩
        have L1 := LM W'
        have FIN : Hid (∀ W2, Grew W' W2 → (Dv w0 W2 d wb sb (some ⟨b, off, none⟩) n c g sp x WF SF ∧ IRow W2 tb n TG ∧ IRow W2 eb n (fun j => if j < k then EX j else 0) ∧ Blk W2 fb 69 [.int .i64 x0, .int .i64 x1, .int .i64 x2, .int .i64 x3, .int .i64 x4])) := fun W2 hG => ⟨h1.grown hG.1, h2.below hG.1 h2.lt, h3.below hG.1 h3.lt, h4.grew hG⟩
        clear h1 h2 h3 h4
        simp [go_sem, evS, List.lookup]
        refine L1.out.mono ?_
        rintro e W2 ⟨rfl, hG⟩
        exact ⟨_, rfl, rfl, FIN.out W2 hG⟩
      repeat (refine MJ.lex_calm rfl (by rfl) (fun K hK => ?_); apply Exists.intro; refine ⟨fun W' hW => ?_, ?_⟩; (dsimp only at hW; go_simp; exact rfl); go_simp; refine hK _ ?_; clear hK K)
      refine MJ.lex_chain 1 rfl (by kernel_rfl) rfl ?_ ?_
      · rintro vs W' ⟨e, h⟩
        replace e : vs 7 = .int .i64 ck := e
        have h' := hide h
        clear h
        simp [go_sem, evS, List.lookup, e, wk]
        exact ⟨rfl, h'.out⟩
      repeat (refine MJ.lex_calm rfl (by rfl) (fun K hK => ?_); apply Exists.intro; refine ⟨fun W' hW => ?_, ?_⟩; (dsimp only at hW; go_simp; exact rfl); go_simp; refine hK _ ?_; clear hK K)
      refine MJ.lex_chain 2 rfl (by kernel_rfl) rfl ?_ ?_
      · rintro vs W' ⟨e, h1, h2, h3, h4⟩
        replace e : vs 12 = .int .i64 (ck - tk) := e
        have y1 := h3.cell hlt
        simp only [Nat.lt_irrefl, if_false] at y1
        have y2 := h3.frozen k
        have y3 : Hid (Dv w0 (W'.setCell ⟨eb, k, none⟩ (.int .i64 (ck - tk))) d wb sb (some ⟨b, off, none⟩) n c g sp x WF SF ∧ IRow (W'.setCell ⟨eb, k, none⟩ (.int .i64 (ck - tk))) tb n TG ∧ IRow (W'.setCell ⟨eb, k, none⟩ (.int .i64 (ck - tk))) eb n (fun j => if j < k + 1 then EX j else 0)) := by
          obtain ⟨n1, n2, n3, n4, n5, n6, n7⟩ := NE.out
          refine ⟨h1.far _ n1 n2 (Ne.symm n6) (Ne.symm n7), h2.far n3 _, (h3.set_ k _).congr fun j hj => ?_⟩
          by_cases q1 : j = k
          · subst q1; simp [EK.out]
          · by_cases q2 : j < k
            · simp [q1, q2, show j < k + 1 by omega]
            · simp [q1, q2, show ¬ j < k + 1 by omega]
        clear h1 h2 h3 h4
        simp [go_sem, evS, List.lookup, e, y1, y2]
        exact y3.out
      refine MJ.lex_nil ?_
      rintro vs w5 ⟨s1, s2, s3⟩
      have D5 := hide s1
      have T5 := hide s2
      have E5 := hide s3
      clear s1 s2 s3 PRE LM
      simp only [fillS, List.foldl_cons, List.foldl_nil]
      go_wp2_with fail
      go_roundg (n - k)
      case measure => omega
      case rel => exact ⟨k + 1, by go_num, by omega, by omega, D5, T5, E5⟩
    · have hltz : ¬ (k : Int) < (n : Int) := by omega
      obtain rfl : n = k := by omega
      have E3 : Hid (IRow wo eb n EX) := EE.out.congr fun j hj => by simp [hj]
      have SM := hide (bsum_any (some ⟨eb, 0, none⟩) n n EX wo (by omega) (fun j hj => by have := EB.out j hj; have := TB.out j hj; omega) E3.out.reads)
      rw [ES.out] at SM
      have D3 : Hid (Dv w0 wo d wb sb p n c g sp x (fun j => if j < 0 then WN j else WF j) (fun j => if j < 0 then SN j else SF j)) := DD.out.congr (fun j _ => by simp) (fun j _ => by simp)
      have T3 := TT
      clear EE DD TT ES HX
      go_wp2_with fail
      refine SM.out.mono ?_
      rintro e w' ⟨rfl, rfl⟩
      clear SM
      go_wp2_with fail
      go_loopg [43] (n + 1) (fun g2 vk wr => ∃ k : Nat, vk = .int .i64 (k : Int) ∧ k ≤ n ∧ n - k < g2 ∧ Hid (Dv w0 wr d wb sb p n c g sp x (fun j => if j < k then WN j else WF j) (fun j => if j < k then SN j else SF j)) ∧ Hid (IRow wr tb n TG) ∧ Hid (IRow wr eb n EX))
      case atStart => exact ⟨0, by go_num, by omega, by omega, D3, T3, E3⟩
      case round =>
        clear D3 T3 E3
        obtain ⟨wq, rfl⟩ : ∃ wq : World, wq = wr := ⟨_, rfl⟩
        obtain ⟨k, rfl, hk, hg, DD, TT, EE⟩ := hrel
        by_cases hlt : k < n
        · have hltz : (k : Int) < (n : Int) := by omega
          have ce := EE.out.cell hlt
          obtain ⟨e1, e2, e3⟩ := EB.out k hlt
          obtain ⟨t1, t2⟩ := TB.out k hlt
          have hsb := HSB.out k
          have SW : Hid ((if ST k then 0 else WF k) = WN k) := SETW.out k
          have SZ : Hid ((if ST k then TG k + EX k else SF k) = SN k) := SETS.out k
          have eb2 : -2147483648 ≤ EX k ∧ EX k ≤ 2147483648 := by omega
          obtain ⟨eb3, eb4⟩ := eb2
          clear e1 e2 e3
          obtain ⟨tk, htk⟩ : ∃ tk, tk = TG k := ⟨_, rfl⟩
          rw [← htk] at SZ t1 t2
          have TK : Hid (TG k = tk) := htk.symm
          clear htk
          have SS := fun W => hide (sameSign_any (EX k) V W)
          generalize EX k = ek at *
          have wk : IntKind.i64.wrap (tk + ek) = tk + ek := wr (by omega) (by omega)
          obtain ⟨stk, hst⟩ : ∃ stk, stk = ST k := ⟨_, rfl⟩
          rw [← hst] at hsb SW SZ
          clear hst
          by_cases hv : V = 0
          · have HB : stk = true := by rw [hsb, decide_eq_true hv]; rfl
            have hv1 : (V == 0) = true := by simpa using hv
            clear hsb hv SS
            go_wp2_with fail
            have PRE : Hid (Dv w0 wq.drew d wb sb p n c g sp x (fun j => if j < k then WN j else WF j) (fun j => if j < k then SN j else SF j) ∧ IRow wq.drew tb n TG ∧ IRow wq.drew eb n EX) := ⟨DD.out.drewN 1, TT.out, EE.out⟩
            clear DD TT EE
            have NW : Hid (∀ j, (if j = k then 0 else if j < k then WN j else WF j) = if j < k + 1 then WN j else WF j) := fun j => by
              by_cases h1 : j = k
              · subst h1; rw [if_pos rfl, if_pos (by omega)]; have := SW.out; rw [if_pos HB] at this; exact this
              · by_cases h2 : j < k
                · rw [if_neg h1, if_pos h2, if_pos (by omega)]
                · rw [if_neg h1, if_neg h2, if_neg (by omega)]
            have NS : Hid (∀ j, (if j = k then tk + ek else if j < k then SN j else SF j) = if j < k + 1 then SN j else SF j) := fun j => by
              by_cases h1 : j = k
              · subst h1; rw [if_pos rfl, if_pos (by omega)]; have := SZ.out; rw [if_pos HB] at this; exact this
              · by_cases h2 : j < k
                · rw [if_neg h1, if_pos h2, if_pos (by omega)]
                · rw [if_neg h1, if_neg h2, if_neg (by omega)]
            clear SW SZ HB
            refine MJ.wp_region_chain (fun W' => (W'.cell? ⟨d, 3, none⟩ = some (.slice (some ⟨wb, 0, none⟩) n n) ∧ W'.cell? ⟨d, 4, none⟩ = some (.slice (some ⟨sb, 0, none⟩) n n) ∧ W'.cell? ⟨tb, k, none⟩ = some (.int .i64 tk))) [17, 19] [] (st2 (fun W' => (Dv w0 W' d wb sb p n c g sp x (fun j => if j < k then WN j else WF j) (fun j => if j < k then SN j else SF j) ∧ IRow W' tb n TG ∧ IRow W' eb n EX)) (fun W' => (Dv w0 W' d wb sb p n c g sp x (fun j => if j < k + 1 then WN j else WF j) (fun j => if j < k then SN j else SF j) ∧ IRow W' tb n TG ∧ IRow W' eb n EX)) (fun W' => (Dv w0 W' d wb sb p n c g sp x (fun j => if j < k + 1 then WN j else WF j) (fun j => if j < k + 1 then SN j else SF j) ∧ IRow W' tb n TG ∧ IRow W' eb n EX))) (by kernel_rfl) (by kernel_rfl) (by simp) ?h0 ?hJ ?_
            case h0 => exact PRE.out
            case hJ =>
              rintro vals W' (hl | hl) hS'
              · exact st2_J (J := fun W' => (W'.cell? ⟨d, 3, none⟩ = some (.slice (some ⟨wb, 0, none⟩) n n) ∧ W'.cell? ⟨d, 4, none⟩ = some (.slice (some ⟨sb, 0, none⟩) n n) ∧ W'.cell? ⟨tb, k, none⟩ = some (.int .i64 tk))) (fun W h => ⟨h.1.blk.cell 3 rfl, h.1.blk.cell 4 rfl, TK.out ▸ h.2.1.cell hlt⟩) (fun W h => ⟨h.1.blk.cell 3 rfl, h.1.blk.cell 4 rfl, TK.out ▸ h.2.1.cell hlt⟩) vals W' hl hS'
              · exact absurd hl (by rw [show MJ.sinkL _ _ = true by kernel_rfl]; exact Bool.noConfusion)
            repeat (refine MJ.lex_calm rfl (by rfl) (fun K hK => ?_); apply Exists.intro; refine ⟨fun W' hW => ?_, ?_⟩; (dsimp only at hW; go_simp; exact rfl); go_simp; refine hK _ ?_; clear hK K)
            refine MJ.lex_chain 0 rfl (by kernel_rfl) rfl ?_ ?_
            · rintro vs W' ⟨hD, h1, h2⟩
              have y1 := hD.rwt.cell hlt
              have y2 := hD.rwt.frozen k
              have y3 : Hid (Dv w0 (W'.setCell ⟨wb, k, none⟩ (.int .i64 0)) d wb sb p n c g sp x (fun j => if j < k + 1 then WN j else WF j) (fun j => if j < k then SN j else SF j) ∧ IRow (W'.setCell ⟨wb, k, none⟩ (.int .i64 0)) tb n TG ∧ IRow (W'.setCell ⟨wb, k, none⟩ (.int .i64 0)) eb n EX) := ⟨(hD.setw k 0).congr (fun j _ => NW.out j) (fun _ _ => rfl), h1.far NE.out.2.2.2.1 _, h2.far NE.out.2.2.2.2.2.1 _⟩
              clear hD h1 h2
              simp [go_sem, evS, List.lookup, y1, y2]
              exact y3.out
            repeat (refine MJ.lex_calm rfl (by rfl) (fun K hK => ?_); apply Exists.intro; refine ⟨fun W' hW => ?_, ?_⟩; (dsimp only at hW; go_simp; exact rfl); go_simp; refine hK _ ?_; clear hK K)
            refine MJ.lex_chain 1 rfl (by kernel_rfl) rfl ?_ ?_
            · rintro vs W' ⟨hD, h1, h2⟩
              have y1 := hD.rsz.cell hlt
              have y2 := hD.rsz.frozen k
              have y3 : Hid (Dv w0 (W'.setCell ⟨sb, k, none⟩ (.int .i64 (tk + ek))) d wb sb p n c g sp x (fun j => if j < k + 1 then WN j else WF j) (fun j => if j < k + 1 then SN j else SF j) ∧ IRow (W'.setCell ⟨sb, k, none⟩ (.int .i64 (tk + ek))) tb n TG ∧ IRow (W'.setCell ⟨sb, k, none⟩ (.int .i64 (tk + ek))) eb n EX) := ⟨(hD.sets k (tk + ek)).congr (fun _ _ => rfl) (fun j _ => NS.out j), h1.far NE.out.2.2.2.2.1 _, h2.far NE.out.2.2.2.2.2.2 _⟩
              clear hD h1 h2
              simp [go_sem, evS, List.lookup, y1, y2]
              exact y3.out
            refine MJ.lex_nil ?_
            rintro vs w7 ⟨hD7, h71, h72⟩
            have D7 := hide hD7
            have T7 := hide h71
            have E7 := hide h72
            clear hD7 h71 h72 PRE NW NS
            simp only [fillS, List.foldl_nil]
            go_wp2_with fail
            go_roundg (n - k)
            case measure => omega
            case rel => exact ⟨k + 1, by go_num, by omega, by omega, D7, T7, E7⟩
          · have hv1 : (V == 0) = false := by simpa using hv
            rw [decide_eq_false hv, Bool.false_or] at hsb
            cases hsm : samB ek V with
            | true =>
              have HB : stk = true := by rw [hsb, hsm]
              rw [hsm] at SS
              clear hsb hsm
              go_wp2_with fail
              refine (SS _).out.mono ?_
              rintro e w' ⟨rfl, rfl⟩
              clear SS
              go_wp2_with fail
              have PRE : Hid (Dv w0 wq.drew d wb sb p n c g sp x (fun j => if j < k then WN j else WF j) (fun j => if j < k then SN j else SF j) ∧ IRow wq.drew tb n TG ∧ IRow wq.drew eb n EX) := ⟨DD.out.drewN 1, TT.out, EE.out⟩
              clear DD TT EE
              have NW : Hid (∀ j, (if j = k then 0 else if j < k then WN j else WF j) = if j < k + 1 then WN j else WF j) := fun j => by
                by_cases h1 : j = k
                · subst h1; rw [if_pos rfl, if_pos (by omega)]; have := SW.out; rw [if_pos HB] at this; exact this
                · by_cases h2 : j < k
                  · rw [if_neg h1, if_pos h2, if_pos (by omega)]
                  · rw [if_neg h1, if_neg h2, if_neg (by omega)]
              have NS : Hid (∀ j, (if j = k then tk + ek else if j < k then SN j else SF j) = if j < k + 1 then SN j else SF j) := fun j => by
                by_cases h1 : j = k
                · subst h1; rw [if_pos rfl, if_pos (by omega)]; have := SZ.out; rw [if_pos HB] at this; exact this
                · by_cases h2 : j < k
                  · rw [if_neg h1, if_pos h2, if_pos (by omega)]
                  · rw [if_neg h1, if_neg h2, if_neg (by omega)]
              clear SW SZ HB
              refine MJ.wp_region_chain (fun W' => (W'.cell? ⟨d, 3, none⟩ = some (.slice (some ⟨wb, 0, none⟩) n n) ∧ W'.cell? ⟨d, 4, none⟩ = some (.slice (some ⟨sb, 0, none⟩) n n) ∧ W'.cell? ⟨tb, k, none⟩ = some (.int .i64 tk))) [17, 19] [] (st2 (fun W' => (Dv w0 W' d wb sb p n c g sp x (fun j => if j < k then WN j else WF j) (fun j => if j < k then SN j else SF j) ∧ IRow W' tb n TG ∧ IRow W' eb n EX)) (fun W' => (Dv w0 W' d wb sb p n c g sp x (fun j => if j < k + 1 then WN j else WF j) (fun j => if j < k then SN j else SF j) ∧ IRow W' tb n TG ∧ IRow W' eb n EX)) (fun W' => (Dv w0 W' d wb sb p n c g sp x (fun j => if j < k + 1 then WN j else WF j) (fun j => if j < k + 1 then SN j else SF j) ∧ IRow W' tb n TG ∧ IRow W' eb n EX))) (by kernel_rfl) (by kernel_rfl) (by simp) ?h0 ?hJ ?_
              case h0 => exact PRE.out
              case hJ =>
                rintro vals W' (hl | hl) hS'
                · exact st2_J (J := fun W' => (W'.cell? ⟨d, 3, none⟩ = some (.slice (some ⟨wb, 0, none⟩) n n) ∧ W'.cell? ⟨d, 4, none⟩ = some (.slice (some ⟨sb, 0, none⟩) n n) ∧ W'.cell? ⟨tb, k, none⟩ = some (.int .i64 tk))) (fun W h => ⟨h.1.blk.cell 3 rfl, h.1.blk.cell 4 rfl, TK.out ▸ h.2.1.cell hlt⟩) (fun W h => ⟨h.1.blk.cell 3 rfl, h.1.blk.cell 4 rfl, TK.out ▸ h.2.1.cell hlt⟩) vals W' hl hS'
                · exact absurd hl (by rw [show MJ.sinkL _ _ = true by kernel_rfl]; exact Bool.noConfusion)
              repeat (refine MJ.lex_calm rfl (by rfl) (fun K hK => ?_); apply Exists.intro; refine ⟨fun W' hW => ?_, ?_⟩; (dsimp only at hW; go_simp; exact rfl); go_simp; refine hK _ ?_; clear hK K)
              refine MJ.lex_chain 0 rfl (by kernel_rfl) rfl ?_ ?_
              · rintro vs W' ⟨hD, h1, h2⟩
                have y1 := hD.rwt.cell hlt
                have y2 := hD.rwt.frozen k
                have y3 : Hid (Dv w0 (W'.setCell ⟨wb, k, none⟩ (.int .i64 0)) d wb sb p n c g sp x (fun j => if j < k + 1 then WN j else WF j) (fun j => if j < k then SN j else SF j) ∧ IRow (W'.setCell ⟨wb, k, none⟩ (.int .i64 0)) tb n TG ∧ IRow (W'.setCell ⟨wb, k, none⟩ (.int .i64 0)) eb n EX) := ⟨(hD.setw k 0).congr (fun j _ => NW.out j) (fun _ _ => rfl), h1.far NE.out.2.2.2.1 _, h2.far NE.out.2.2.2.2.2.1 _⟩
                clear hD h1 h2
                simp [go_sem, evS, List.lookup, y1, y2]
                exact y3.out
              repeat (refine MJ.lex_calm rfl (by rfl) (fun K hK => ?_); apply Exists.intro; refine ⟨fun W' hW => ?_, ?_⟩; (dsimp only at hW; go_simp; exact rfl); go_simp; refine hK _ ?_; clear hK K)
              refine MJ.lex_chain 1 rfl (by kernel_rfl) rfl ?_ ?_
              · rintro vs W' ⟨hD, h1, h2⟩
                have y1 := hD.rsz.cell hlt
                have y2 := hD.rsz.frozen k
                have y3 : Hid (Dv w0 (W'.setCell ⟨sb, k, none⟩ (.int .i64 (tk + ek))) d wb sb p n c g sp x (fun j => if j < k + 1 then WN j else WF j) (fun j => if j < k + 1 then SN j else SF j) ∧ IRow (W'.setCell ⟨sb, k, none⟩ (.int .i64 (tk + ek))) tb n TG ∧ IRow (W'.setCell ⟨sb, k, none⟩ (.int .i64 (tk + ek))) eb n EX) := ⟨(hD.sets k (tk + ek)).congr (fun _ _ => rfl) (fun j _ => NS.out j), h1.far NE.out.2.2.2.2.1 _, h2.far NE.out.2.2.2.2.2.2 _⟩
                clear hD h1 h2
                simp [go_sem, evS, List.lookup, y1, y2]
                exact y3.out
              refine MJ.lex_nil ?_
              rintro vs w7 ⟨hD7, h71, h72⟩
              have D7 := hide hD7
              have T7 := hide h71
              have E7 := hide h72
              clear hD7 h71 h72 PRE NW NS
              simp only [fillS, List.foldl_nil]
              go_wp2_with fail
              go_roundg (n - k)
              case measure => omega
              case rel => exact ⟨k + 1, by go_num, by omega, by omega, D7, T7, E7⟩
            | false =>
              have HB : stk = false := by rw [hsb, hsm]
              rw [hsm] at SS
              have D6 : Hid (Dv w0 wq d wb sb p n c g sp x (fun j => if j < k + 1 then WN j else WF j) (fun j => if j < k + 1 then SN j else SF j)) := DD.out.congr (fun j hj => by
                by_cases h1 : j = k
                · subst h1; rw [if_neg (Nat.lt_irrefl _), if_pos (by omega)]; have := SW.out; rw [HB] at this; simpa using this
                · by_cases h2 : j < k
                  · rw [if_pos h2, if_pos (by omega)]
                  · rw [if_neg h2, if_neg (by omega)]) (fun j hj => by
                by_cases h1 : j = k
                · subst h1; rw [if_neg (Nat.lt_irrefl _), if_pos (by omega)]; have := SZ.out; rw [HB] at this; simpa using this
                · by_cases h2 : j < k
                  · rw [if_pos h2, if_pos (by omega)]
                  · rw [if_neg h2, if_neg (by omega)])
              clear hsb hsm HB SW SZ DD
              go_wp2_with fail
              refine (SS _).out.mono ?_
              rintro e w' ⟨rfl, rfl⟩
              clear SS
              go_wp2_with fail
              go_roundg (n - k)
              case measure => omega
              case rel => exact ⟨k + 1, by go_num, by omega, by omega, D6, TT, EE⟩
        · have hltz : ¬ (k : Int) < (n : Int) := by omega
          obtain rfl : n = k := by omega
          go_wp2_with fail
          go_end0
          exact ⟨rfl, DD.out.congr (fun j hj => by rw [if_pos hj]) (fun j hj => by rw [if_pos hj])⟩
end Go.Proofs.Ytdoenkngmgclmaa
/- Package box's Resolve, Offsets, Align and Baseline answer as its laws ask; no condition. -/
namespace Go.Proofs.Ytdoenkngmgclmaa
open Go.RowKit Go.Sort
set_option linter.unusedVariables false
set_option linter.unusedSimpArgs false

theorem new_any (sp : Int) (p : Option Addr) (n c : Nat) (x : Nat → Fx) (w : World) (hr : SRow w p n 5 (fxC x)) (hn : n ≤ 100) (hx : ∀ i, i < n → okF (x i)) :
    Calls Try.prog 58 #[.int .i64 sp, .slice p n c] w fun e w' => ∃ d wb sb, e = .returned (.pointer (some ⟨d, 0, none⟩)) ∧ Dv w w' d wb sb p n c (growB sp x n) sp x (zro (itS (growB sp x n) sp x n 0).2 (wtF (growB sp x n) x)) (szW x (itS (growB sp x n) sp x n 0).1 (itS (growB sp x n) sp x n 0).2) := by
  by_cases h : sumF (natF x) n ≤ sp
  · have e : growB sp x n = true := decide_eq_true h
    rw [e]
    exact new_true sp p n c x w hr hn hx h
  · have e : growB sp x n = false := decide_eq_false h
    rw [e]
    exact new_false sp p n c x w hr hn hx h
theorem er_zero {av gap : Int} {x : Nat → Fx} {n : Nat} (h : erR av gap x n = 0) : n ≤ 100 ∧ (0 ≤ av ∧ av ≤ 1048576) ∧ (0 ≤ gap ∧ gap ≤ 1048576) ∧ ∀ i, i < n → okF (x i) := by
  unfold erR at h
  by_cases h1 : 100 < n
  · rw [if_pos h1] at h; omega
  · rw [if_neg h1] at h
    by_cases h2 : (lenB av && lenB gap && okA x 0 n) = true
    · simp only [Bool.and_eq_true] at h2
      obtain ⟨⟨a1, a2⟩, a3⟩ := h2
      exact ⟨by omega, (lenB_iff _).1 a1, (lenB_iff _).1 a2, fun i hi => (okA_iff x n 0).1 a3 i (by omega) (by omega)⟩
    · rw [if_neg h2] at h; omega
set_option maxHeartbeats 8000000 in
set_option maxRecDepth 100000 in
theorem bResolve_err (av gap : Int) (p : Option Addr) (n c : Nat) (x : Nat → Fx) (w : World) (hr : SRow w p n 5 (fxC x)) (hn : n ≤ 100000) (he : ¬ erR av gap x n = 0) :
    Calls Try.prog 49 #[.int .i64 av, .int .i64 gap, .slice p n c] w fun e w' => e = .returned (.tuple #[.slice none 0 0, .int .i64 (erR av gap x n)]) ∧ Below w.heap.size w w' := by
  have C := hide (check_any_ av gap p n c x w hr hn)
  generalize erR av gap x n = er at *
  have he1 : (er != 0) = true := by simpa using he
  clear hr he
  go_enter Try.func49, Try.ntmps49
  go_wp2_with fail
  refine C.out.mono ?_
  rintro e w' ⟨rfl, hB⟩
  have hB := hide hB
  go_wp2_with fail
  go_ret2
  exact ⟨rfl, hB.out⟩
set_option maxHeartbeats 8000000 in
set_option maxRecDepth 100000 in
theorem bResolve_ok (av gap : Int) (p : Option Addr) (n c : Nat) (x : Nat → Fx) (w : World) (hr : SRow w p n 5 (fxC x)) (hn : n ≤ 100) (ha : 0 ≤ av ∧ av ≤ 1048576) (hg : 0 ≤ gap ∧ gap ≤ 1048576) (hx : ∀ i, i < n → okF (x i)) :
    Calls Try.prog 49 #[.int .i64 av, .int .i64 gap, .slice p n c] w fun e w' => ∃ b, e = .returned (.tuple #[.slice (some ⟨b, 0, none⟩) n n, .int .i64 0]) ∧ IRow w' b n (resF av gap x n) ∧ Below w.heap.size w w' ∧ w.heap.size ≤ b := by
  have C := hide (check_any_ av gap p n c x w hr (by omega))
  rw [er_ok hn ha hg hx] at C
  have GS := fun W => hide (gapSum_any gap n W hg (by omega))
  have gb := gs_bd (n := n) hg (by omega)
  have ES := gs_spc av gap n
  obtain ⟨sp, hsp⟩ : ∃ sp, sp = spcF av gap n := ⟨_, rfl⟩
  rw [← hsp] at ES
  have spb : -209715200 ≤ sp ∧ sp ≤ 1048576 := by omega
  have ws : IntKind.i64.wrap (av - gsF gap n) = sp := by rw [IntKind.wrap_i64]; omega
  have RF : Hid (∀ i, resF av gap x n i = (itS (growB sp x n) sp x n n).1 i) := fun i => by unfold resF; rw [← hsp]
  have NW := fun (W : World) (h : Below w.heap.size w W) => hide (new_any sp p n c x W (hr.below h) hn hx)
  have HX := hide hx
  clear hr hx ES hsp
  generalize growB sp x n = g at *
  go_enter Try.func49, Try.ntmps49
  go_wp2_with fail
  refine C.out.mono ?_
  rintro e w1 ⟨rfl, hB⟩
  have B1 := hide hB
  have NW1 := NW w1 hB
  clear hB C NW
  go_wp2_with fail
  refine (GS _).out.mono ?_
  rintro e w' ⟨rfl, rfl⟩
  clear GS
  go_wp2_with fail
  refine NW1.out.mono ?_
  rintro e w2 ⟨d, wb, sb, rfl, hD⟩
  have D0 := hide hD
  clear hD NW1 ws gb
  go_wp2_with fail
  go_loopg [] (n + 1) (fun g1 wr => ∃ k : Nat, k ≤ n ∧ rk (itS g sp x n k).2 n < g1 ∧ Hid (Dv w1 wr d wb sb p n c g sp x (zro (itS g sp x n k).2 (wtF g x)) (szW x (itS g sp x n k).1 (itS g sp x n k).2)))
  case atStart => exact ⟨0, by omega, by have := rk_le (itS g sp x n 0).2 n; omega, D0⟩
  case round =>
    clear D0
    obtain ⟨wo, rfl⟩ : ∃ wo : World, wo = wr := ⟨_, rfl⟩
    obtain ⟨k, hk, hg1, D⟩ := hrel
    have OP := hide (open_any D.out hn (zro_good HX.out))
    have IO := it_open (g := g) (sp := sp) HX.out k
    by_cases hlt : 0 < rk (itS g sp x n k).2 n
    · rw [decide_eq_true (IO.2 hlt)] at OP
      have FR := hide (freeze_any D.out hn HX.out (fun i hi => it_ok HX.out k hi) (fun i => it_cl k i) spb)
      have LS : Hid (rk (itS g sp x n (k + 1)).2 n < rk (itS g sp x n k).2 n) := step_less hlt
      have hk2 : k + 1 ≤ n := by have := it_left (g := g) (sp := sp) (x := x) (n := n) k; omega
      clear IO D
      go_wp2_with fail
      refine OP.out.mono ?_
      rintro e w' ⟨rfl, rfl⟩
      clear OP
      go_wp2_with fail
      refine FR.out.mono ?_
      rintro e w3 ⟨rfl, hD3⟩
      have D3 : Hid (Dv w1 w3 d wb sb p n c g sp x (zro (itS g sp x n (k + 1)).2 (wtF g x)) (szW x (itS g sp x n (k + 1)).1 (itS g sp x n (k + 1)).2)) := hD3
      clear hD3 FR
      go_wp2_with fail
      go_roundg (rk (itS g sp x n k).2 n)
      case measure => exact hg1
      case rel => exact ⟨k + 1, hk2, LS.out, D3⟩
    · have h0 : rk (itS g sp x n k).2 n = 0 := by omega
      rw [decide_eq_false (fun h => hlt (IO.1 h))] at OP
      have c4 := D.out.blk.cell 4 rfl
      have FIN : Hid (IRow wo sb n (resF av gap x n)) := D.out.rsz.congr fun i hi => by
        rw [RF.out i, ← it_end h0 hk hi]
        unfold szW
        rw [rk_zero h0 hi]
        rfl
      have BB : Hid (Below w.heap.size w wo) := B1.out.trans (D.out.below.mono B1.out.size)
      have HSB : Hid (w.heap.size ≤ sb) := Nat.le_trans B1.out.size D.out.hs
      clear IO D RF
      go_wp2_with fail
      refine OP.out.mono ?_
      rintro e w' ⟨rfl, rfl⟩
      clear OP
      go_wp2_with fail
      go_ret2
      exact ⟨sb, rfl, FIN.out, BB.out, HSB.out⟩
theorem bRes : KRes 49 := by
  intro av gap p n c x w hr hn
  by_cases h : erR av gap x n = 0
  · obtain ⟨h1, h2, h3, h4⟩ := er_zero h
    simp only [h, if_true]
    refine (bResolve_ok av gap p n c x w hr h1 h2 h3 h4).mono ?_
    rintro e w' ⟨b, rfl, hi, hB, _⟩
    exact ⟨some ⟨b, 0, none⟩, n, rfl, hi.reads, hB⟩
  · simp only [if_neg h]
    refine (bResolve_err av gap p n c x w hr hn h).mono ?_
    rintro e w' ⟨rfl, hB⟩
    exact ⟨none, 0, rfl, reads_none _ _, hB⟩
end Go.Proofs.Ytdoenkngmgclmaa
