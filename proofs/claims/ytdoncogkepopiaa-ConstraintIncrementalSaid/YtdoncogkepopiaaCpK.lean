/- Remove of package constraint answers as Solve of the shorter list, in new memory, or that there is no such constraint; no condition but on sizes. -/
import Derived.Test.YtdoncogkepopiaaCpJ
namespace Go.Proofs.Ytdoncogkepopiaa
open Go.RowKit Go.Sort Go.Shelf
set_option linter.unusedVariables false
set_option linter.unusedSimpArgs false

structure RhM (w1 : World) (m : Nat) (l : Nat → Cn) (i : Nat) (D : Nat → Bool) (vs : Nat → Value) (W : World) : Prop where
  h0 : D 9 = false → Below w1.heap.size w1 W
  ha : D 4 = true → D 8 = false → W.ownsRow w1.heap.size 40 5 (vs 4) m (flat m 5 (cnC l))
  hb : D 8 = true → D 9 = false → ∃ q c, vs 8 = .slice q (m - 1) c ∧ m - 1 ≤ c ∧ SRow W q (m - 1) 5 (cnC (woC l i))
theorem RhM.done {w1 W : World} {m i : Nat} {l : Nat → Cn} {D : Nat → Bool} {vs : Nat → Value} (h9 : D 9 = true) (h8 : D 8 = true) : RhM w1 m l i D vs W :=
  ⟨fun q => by rw [h9] at q; exact Bool.noConfusion q, fun _ q => by rw [h8] at q; exact Bool.noConfusion q, fun _ q => by rw [h9] at q; exact Bool.noConfusion q⟩
structure RmM (w w1 : World) (sk : Nat) (vars : Int) (m : Nat) (l : Nat → Cn) (i : Nat) (D : Nat → Bool) (vs : Nat → Value) (W : World) : Prop where
  kp : Kept sk w1 W
  hd : RhM w1 m l i D vs W
  tl : TlM w w1 sk vars (m - 1) (woC l i) 9 10 11 12 13 D vs W
theorem RmM.ext {w w1 W : World} {sk : Nat} {vars : Int} {m i : Nat} {l : Nat → Cn} {D D' : Nat → Bool} {vs vs' : Nat → Value} (h : RmM w w1 sk vars m l i D vs W) (hD : ∀ b ∈ [4, 8, 9, 10, 11, 12, 13], D b = D' b ∧ (D b = true → vs b = vs' b)) : RmM w w1 sk vars m l i D' vs' W := by
  obtain ⟨a4, b4⟩ := hD 4 (by simp)
  obtain ⟨a8, b8⟩ := hD 8 (by simp)
  obtain ⟨a9, b9⟩ := hD 9 (by simp)
  refine ⟨h.kp, ⟨fun q => h.hd.h0 (a9.trans q), fun q r => ?_, fun q r => ?_⟩, h.tl.ext fun b hb => hD b (by simp at hb ⊢; omega)⟩
  · rw [← b4 (a4.trans q)]; exact h.hd.ha (a4.trans q) (a8.trans r)
  · rw [← b8 (a8.trans q)]; exact h.hd.hb (a8.trans q) (a9.trans r)
set_option maxHeartbeats 4000000 in
set_option maxRecDepth 100000 in
theorem gRem_no (vars i : Int) (q1 q2 q3 : Option Addr) (m c1 n2 c2 n3 c3 : Nat) (w : World) (hi : ¬ (0 ≤ i ∧ i < (m : Int))) (hm : m ≤ 90000) :
    Calls Try.prog 20 #[sysV vars q1 m c1 q2 n2 c2 q3 n3 c3, .int .i64 i] w fun e w' => e = .returned (.tuple #[sysZ, .int .i64 7]) ∧ Below w.heap.size w w' := by
  have SA : Hid (Blk ((w.alloc (.cells ([.int .i64 vars, .slice q1 m c1, .slice q2 n2 c2, .slice q3 n3 c3] : List Value).toArray 26)).alloc (.cells #[.int .i64 0, .slice none 0 0, .slice none 0 0, .slice none 0 0] 26)) w.heap.size 26 [.int .i64 vars, .slice q1 m c1, .slice q2 n2 c2, .slice q3 n3 c3]) := Blk.alloc (Blk.new rfl) _
  have SZ : Hid (Blk ((w.alloc (.cells ([.int .i64 vars, .slice q1 m c1, .slice q2 n2 c2, .slice q3 n3 c3] : List Value).toArray 26)).alloc (.cells #[.int .i64 0, .slice none 0 0, .slice none 0 0, .slice none 0 0] 26)) (w.heap.size + 1) 26 [.int .i64 0, .slice none 0 0, .slice none 0 0, .slice none 0 0]) := Blk.new (by simp)
  have HB1 : Hid (Below w.heap.size w ((w.alloc (.cells ([.int .i64 vars, .slice q1 m c1, .slice q2 n2 c2, .slice q3 n3 c3] : List Value).toArray 26)).alloc (.cells #[.int .i64 0, .slice none 0 0, .slice none 0 0, .slice none 0 0] 26))) := ((Below.refl _ _).alloc (Nat.le_refl _) _).alloc (by simp) _
  have RET : Hid (∀ (tm : Array Value) (W : World) (sk : Nat) (er : Int) (cs : List Value), tm.getD 4 undef = .pointer (some ⟨sk, 0, none⟩) → tm.getD 5 undef = .int .i64 er → Blk W sk 26 cs → cs.length = 4 → (results Try.f20 tm).run Try.prog W = .ok (.tuple #[.agg cs.toArray, .int .i64 er]) W) := fun tm W sk er cs h1 h2 h3 h4 => by
    have := results_row_tmp (P := Try.prog) (fn := Try.f20) (p := 4) (u := 5) (ty := 26) rfl tm W sk 26 cs.toArray (0, 0) _ h1 h3 Try.underlying26 rfl (by rw [List.size_toArray, h4]; kernel_rfl)
    rw [this, h2]
  have wm : IntKind.i64.wrap ((m : Int) - 1) = (m : Int) - 1 := wr (by omega) (by omega)
  have K := fun W => hide (cwithin_no i 0 ((m : Int) - 1) (by omega) W)
  clear hi
  go_enter Try.func20, Try.ntmps20
  go_wp2_with fail
  refine (K _).out.mono ?_
  rintro e w' ⟨rfl, h⟩
  subst h
  generalize (w.alloc (.cells ([.int .i64 vars, .slice q1 m c1, .slice q2 n2 c2, .slice q3 n3 c3] : List Value).toArray 26)).alloc (.cells #[.int .i64 0, .slice none 0 0, .slice none 0 0, .slice none 0 0] 26) = w1 at *
  have HS1 : Hid (w.heap.size ≤ w.heap.size + 1) := Nat.le_succ _
  generalize w.heap.size + 1 = sk at *
  have KZ := hide (setZ SZ.out rfl (.int .i64 0) (.slice none 0 0) (.slice none 0 0) (.slice none 0 0))
  have BZ : Hid (∀ a b c d, Below w.heap.size w ((((w1.setCell ⟨sk, 0, none⟩ a).setCell ⟨sk, 1, none⟩ b).setCell ⟨sk, 2, none⟩ c).setCell ⟨sk, 3, none⟩ d)) := fun a b c d => (((HB1.out.setCell HS1.out _).setCell HS1.out _).setCell HS1.out _).setCell HS1.out _
  have y0 := SZ.out.cell 0 rfl
  have y1 := SZ.out.cell 1 rfl
  have y2 := SZ.out.cell 2 rfl
  have y3 := SZ.out.cell 3 rfl
  have z0 := SZ.out.free 0
  have z1 := SZ.out.free 1
  have z2 := SZ.out.free 2
  have z3 := SZ.out.free 3
  go_wp2_with fail
  refine bodyPost_ret (RET.out _ _ _ _ _ rfl rfl KZ.out rfl) rfl ?_
  exact ⟨rfl, BZ.out _ _ _ _⟩
set_option maxHeartbeats 16000000 in
set_option maxRecDepth 100000 in
theorem gRemF (vars : Int) (q1 q2 q3 : Option Addr) (m c1 n2 c2 n3 c3 i : Nat) (l : Nat → Cn) (w : World) (hp : SRow w q1 m 5 (cnC l)) (hmc : m ≤ c1) (hi : i < m) (hm : m ≤ 90000) :
    Calls Try.prog 20 #[sysV vars q1 m c1 q2 n2 c2 q3 n3 c3, .int .i64 (i : Int)] w (SoF vars (m - 1) (woC l i) w) := by
  have SA : Hid (Blk ((w.alloc (.cells ([.int .i64 vars, .slice q1 m c1, .slice q2 n2 c2, .slice q3 n3 c3] : List Value).toArray 26)).alloc (.cells #[.int .i64 0, .slice none 0 0, .slice none 0 0, .slice none 0 0] 26)) w.heap.size 26 [.int .i64 vars, .slice q1 m c1, .slice q2 n2 c2, .slice q3 n3 c3]) := Blk.alloc (Blk.new rfl) _
  have SZ : Hid (Blk ((w.alloc (.cells ([.int .i64 vars, .slice q1 m c1, .slice q2 n2 c2, .slice q3 n3 c3] : List Value).toArray 26)).alloc (.cells #[.int .i64 0, .slice none 0 0, .slice none 0 0, .slice none 0 0] 26)) (w.heap.size + 1) 26 [.int .i64 0, .slice none 0 0, .slice none 0 0, .slice none 0 0]) := Blk.new (by simp)
  have HB1 : Hid (Below w.heap.size w ((w.alloc (.cells ([.int .i64 vars, .slice q1 m c1, .slice q2 n2 c2, .slice q3 n3 c3] : List Value).toArray 26)).alloc (.cells #[.int .i64 0, .slice none 0 0, .slice none 0 0, .slice none 0 0] 26))) := ((Below.refl _ _).alloc (Nat.le_refl _) _).alloc (by simp) _
  have HSK : Hid (w.heap.size ≤ w.heap.size + 1) := by show _ ≤ _; omega
  have RET : Hid (∀ (tm : Array Value) (W : World) (sk : Nat) (er : Int) (cs : List Value), tm.getD 4 undef = .pointer (some ⟨sk, 0, none⟩) → tm.getD 5 undef = .int .i64 er → Blk W sk 26 cs → cs.length = 4 → (results Try.f20 tm).run Try.prog W = .ok (.tuple #[.agg cs.toArray, .int .i64 er]) W) := fun tm W sk er cs h1 h2 h3 h4 => by
    have := results_row_tmp (P := Try.prog) (fn := Try.f20) (p := 4) (u := 5) (ty := 26) rfl tm W sk 26 cs.toArray (0, 0) _ h1 h3 Try.underlying26 rfl (by rw [List.size_toArray, h4]; kernel_rfl)
    rw [this, h2]
  have HP := hide (hp.below HB1.out)
  have wm : IntKind.i64.wrap ((m : Int) - 1) = (m : Int) - 1 := wr (by omega) (by omega)
  have wi : IntKind.i64.wrap ((i : Int) + 1) = (i : Int) + 1 := wr (by omega) (by omega)
  have KW := fun W => hide (cwithin_yes (i : Int) 0 ((m : Int) - 1) (by omega) (by omega) W)
  clear hp
  go_enter Try.func20, Try.ntmps20
  go_wp2_with fail
  refine (KW _).out.mono ?_
  rintro e w' ⟨rfl, h⟩
  subst h
  generalize (w.alloc (.cells ([.int .i64 vars, .slice q1 m c1, .slice q2 n2 c2, .slice q3 n3 c3] : List Value).toArray 26)).alloc (.cells #[.int .i64 0, .slice none 0 0, .slice none 0 0, .slice none 0 0] 26) = w1 at *
  clear KW
  go_wp2_with fail
  have NE : w.heap.size ≠ w.heap.size + 1 := by omega
  generalize w.heap.size + 1 = sk at *
  obtain ⟨sb, hsb⟩ : ∃ sb, sb = w.heap.size := ⟨_, rfl⟩
  rw [← hsb] at SA NE ⊢
  clear hsb
  have HSK1 : Hid (sk < w1.heap.size) := SZ.out.lt
  have JQ : Hid (∀ W', Kept sk w1 W' → W'.cell? ⟨sb, 0, none⟩ = some (.int .i64 vars) ∧ W'.cell? ⟨sb, 1, none⟩ = some (.slice q1 m c1)) := fun W' h => by
    have k1 : Blk W' sb 26 [.int .i64 vars, .slice q1 m c1, .slice q2 n2 c2, .slice q3 n3 c3] := SA.out.kept h NE
    exact ⟨k1.cell 0 rfl, k1.cell 1 rfl⟩
  refine MJ.wp_region_mixed (fun W' => W'.cell? ⟨sb, 0, none⟩ = some (.int .i64 vars) ∧ W'.cell? ⟨sb, 1, none⟩ = some (.slice q1 m c1)) [4, 8, 9, 10, 11, 12, 13] [(18, 4), (22, 8), (23, 9), (24, 10), (25, 11), (5, 13)] (RmM w w1 sk vars m l i) (by kernel_rfl) (by kernel_rfl) (by simp) ?h0 (fun D D' vs vs' W hD h => h.ext hD) (fun D vs W i hM _ _ _ _ => JQ.out W hM.kp) ?_
  case h0 => exact fun vs => ⟨⟨rfl, rfl, rfl, Nat.le_refl _, fun _ _ _ => rfl⟩, ⟨fun _ => ⟨rfl, rfl, rfl, Nat.le_refl _, fun _ _ => rfl⟩, fun h => Bool.noConfusion h, fun h => Bool.noConfusion h⟩, TlM.idle rfl rfl rfl rfl rfl⟩
  repeat (refine MJ.lex_calm rfl (by rfl) (fun K hK => ?_); apply Exists.intro; refine ⟨fun W' hW => ?_, ?_⟩; (dsimp only at hW; go_simp; exact rfl); go_simp; refine hK _ ?_; clear hK K)
  refine MJ.lex_made (by rfl) rfl ?_ ?_
  · rintro D vs W hM hD hcl hdep
    have f8 := off_of (hcl 8 4 (by decide +kernel)) hD
    have f9 := off_of (hcl 9 8 (by decide +kernel)) f8
    have f10 := off_of (hcl 10 9 (by decide +kernel)) f9
    have f11 := off_of (hcl 11 9 (by decide +kernel)) f9
    have f12 := off_of (hcl 12 10 (by decide +kernel)) f10
    have f13 := off_of (hcl 13 11 (by decide +kernel)) f11
    have hw := hM.hd.h0 f9
    have K := hide (pclone_any q1 m c1 l W (HP.out.below hw) hmc (by omega))
    have FIN : Hid (∀ v w', w'.ownsRow W.heap.size 40 5 v m (flat m 5 (cnC l)) → Below W.heap.size W w' → RmM w w1 sk vars m l i (upd D 4 true) (upd vs 4 v) w') := fun v w' hO hB => by
      refine ⟨hM.kp.then hB, ⟨fun _ => hw.trans (hB.mono hw.size), fun _ _ => ?_, fun q => ?_⟩, TlM.idle_upd (by decide) f9 f10 f11 f12 f13⟩
      · rw [show upd vs 4 v 4 = v by simp [upd]]; exact own_base hO hw.size
      · rw [show upd D 4 true 8 = D 8 by simp [upd], f8] at q; exact Bool.noConfusion q
    clear hM hw
    simp [go_sem, evS, List.lookup]
    refine K.out.mono ?_
    rintro e w' ⟨v, rfl, hO, hB⟩
    exact ⟨_, rfl, FIN.out v w' hO hB⟩
  repeat (refine MJ.lex_calm rfl (by rfl) (fun K hK => ?_); apply Exists.intro; refine ⟨fun W' hW => ?_, ?_⟩; (dsimp only at hW; go_simp; exact rfl); go_simp; refine hK _ ?_; clear hK K)
  refine MJ.lex_made (by rfl) rfl ?_ ?_
  · rintro D vs W hM hD hcl hdep
    have f4 := hdep 4 (by decide +kernel)
    have f9 := off_of (hcl 9 8 (by decide +kernel)) hD
    have f10 := off_of (hcl 10 9 (by decide +kernel)) f9
    have f11 := off_of (hcl 11 9 (by decide +kernel)) f9
    have f12 := off_of (hcl 12 10 (by decide +kernel)) f10
    have f13 := off_of (hcl 13 11 (by decide +kernel)) f11
    have hw := hM.hd.h0 f9
    have K := hide (pdelete_any (vs 4) m i w1.heap.size l W (hM.hd.ha f4 hD) hi (by omega))
    have FIN : Hid (∀ e w', DlP w1.heap.size m i l W e w' → ∃ v, e = .returned v ∧ RmM w w1 sk vars m l i (upd D 8 true) (upd vs 8 v) w') := fun e w' h => by
      obtain ⟨q, cq, rfl, hcq, hS, hB⟩ := h
      have h2 := hB w1.heap.size w1 (Nat.le_refl _) hw
      refine ⟨_, rfl, Kept.of h2, ⟨fun _ => h2, fun _ q => by simp [upd] at q, fun _ _ => ⟨q, cq, by simp [upd], hcq, hS⟩⟩, TlM.idle_upd (by decide) f9 f10 f11 f12 f13⟩
    clear hM hw
    simp [go_sem, evS, List.lookup]
    exact K.out.mono FIN.out
  repeat (refine MJ.lex_calm rfl (by rfl) (fun K hK => ?_); apply Exists.intro; refine ⟨fun W' hW => ?_, ?_⟩; (dsimp only at hW; go_simp; exact rfl); go_simp; refine hK _ ?_; clear hK K)
  refine MJ.lex_made (by rfl) rfl ?_ ?_
  · rintro D vs W hM hD hcl hdep
    have f8 := hdep 8 (by decide +kernel)
    have f10 := off_of (hcl 10 9 (by decide +kernel)) hD
    have f11 := off_of (hcl 11 9 (by decide +kernel)) hD
    have f12 := off_of (hcl 12 10 (by decide +kernel)) f10
    have f13 := off_of (hcl 13 11 (by decide +kernel)) f11
    have ⟨q, cq, e, hcq, hS⟩ := hM.hd.hb f8 hD
    have hW := hM.hd.h0 hD
    have K := hide (gSoF vars q (m - 1) cq (woC l i) W hS hcq (by omega))
    have FIN : Hid (∀ e' w', SoF vars (m - 1) (woC l i) W e' w' → ∃ v, e' = .returned v ∧ RmM w w1 sk vars m l i (upd D 9 true) (upd vs 9 v) w') := fun e' w' h => by
      have h2 := h.base hW
      obtain ⟨v, rfl⟩ : ∃ v, e' = .returned v := by
        by_cases h0 : erS vars (m - 1) (woC l i) = 0
        · obtain ⟨_, _, _, _, _, _, q, _⟩ := h.1 h0; exact ⟨_, q⟩
        · exact ⟨_, h.2.1 h0⟩
      exact ⟨v, rfl, Kept.of h2.2.2, RhM.done (by simp [upd]) (by rw [show upd D 9 true 8 = D 8 by simp [upd]]; exact f8), TlM.op0 (by decide) f10 f11 f12 f13 h2 ((h2.2.2.block sk SZ.out.lt).trans SZ.out)⟩
    clear hM hS hW
    simp [go_sem, evS, List.lookup, e]
    exact K.out.mono FIN.out
  repeat (refine MJ.lex_calm rfl (by rfl) (fun K hK => ?_); apply Exists.intro; refine ⟨fun W' hW => ?_, ?_⟩; (dsimp only at hW; go_simp; exact rfl); go_simp; refine hK _ ?_; clear hK K)
  refine MJ.lex_made (by rfl) rfl ?_ ?_
  · rintro D vs W hM hD hcl hdep
    have f0 := hdep 9 (by decide +kernel)
    have D9 := f0
    have f3 := off_of (hcl 12 10 (by decide +kernel)) hD
    have ⟨v0, q1, n1, c1, q2, n2, c2, q3, n3, c3, er, e⟩ := sof_shape (hM.tl.t0 f0 f3).1
    have FIN : Hid (RmM w w1 sk vars m l i (upd D 10 true) (upd vs 10 (sysV v0 q1 n1 c1 q2 n2 c2 q3 n3 c3)) W) := ⟨hM.kp, RhM.done (by rw [show upd D 10 true 9 = D 9 by simp [upd]]; exact D9) (by rw [show upd D 10 true 8 = D 8 by simp [upd]]; exact hcl 9 8 (by decide +kernel) D9), hM.tl.op1 (by decide) f0 e rfl⟩
    clear hM
    simp [go_sem, evS, List.lookup, e]
    exact FIN.out
  repeat (refine MJ.lex_calm rfl (by rfl) (fun K hK => ?_); apply Exists.intro; refine ⟨fun W' hW => ?_, ?_⟩; (dsimp only at hW; go_simp; exact rfl); go_simp; refine hK _ ?_; clear hK K)
  refine MJ.lex_made (by rfl) rfl ?_ ?_
  · rintro D vs W hM hD hcl hdep
    have f0 := hdep 9 (by decide +kernel)
    have D9 := f0
    have f4 := off_of (hcl 13 11 (by decide +kernel)) hD
    have ⟨a, er, e⟩ := hM.tl.int_at f0
    have FIN : Hid (RmM w w1 sk vars m l i (upd D 11 true) (upd vs 11 (.int .i64 er)) W) := ⟨hM.kp, RhM.done (by rw [show upd D 11 true 9 = D 9 by simp [upd]]; exact D9) (by rw [show upd D 11 true 8 = D 8 by simp [upd]]; exact hcl 9 8 (by decide +kernel) D9), hM.tl.op2 (by decide) f0 f4 e rfl⟩
    clear hM
    simp [go_sem, evS, List.lookup, e]
    exact FIN.out
  repeat (refine MJ.lex_calm rfl (by rfl) (fun K hK => ?_); apply Exists.intro; refine ⟨fun W' hW => ?_, ?_⟩; (dsimp only at hW; go_simp; exact rfl); go_simp; refine hK _ ?_; clear hK K)
  refine MJ.lex_made (by rfl) rfl ?_ ?_
  · rintro D vs W hM hD hcl hdep
    have f1 := hdep 10 (by decide +kernel)
    have ⟨v0, q1, n1, c1, q2, n2, c2, q3, n3, c3, e3, f0, s2, hF⟩ := hM.tl.store_at f1 hD HSK.out HSK1.out HB1.out
    have FIN := hide (fun u => (⟨(((hM.kp.set 0 _).set 1 _).set 2 _).set 3 _, RhM.done (by rw [show upd D 12 true 9 = D 9 by simp [upd]]; exact f0) (by rw [show upd D 12 true 8 = D 8 by simp [upd]]; exact hcl 9 8 (by decide +kernel) f0), hM.tl.op3 (v := u) (by decide) f0 hF⟩ : RmM w w1 sk vars m l i (upd D 12 true) (upd vs 12 u) _))
    have y0 := s2.cell 0 rfl
    have y1 := s2.cell 1 rfl
    have y2 := s2.cell 2 rfl
    have y3 := s2.cell 3 rfl
    have z0 := s2.free 0
    have z1 := s2.free 1
    have z2 := s2.free 2
    have z3 := s2.free 3
    clear hM hF s2
    simp [go_sem, evS, List.lookup, e3, y0, y1, y2, y3, z0, z1, z2, z3]
    exact FIN.out _
  repeat (refine MJ.lex_calm rfl (by rfl) (fun K hK => ?_); apply Exists.intro; refine ⟨fun W' hW => ?_, ?_⟩; (dsimp only at hW; go_simp; exact rfl); go_simp; refine hK _ ?_; clear hK K)
  refine MJ.lex_made (by rfl) rfl ?_ ?_
  · rintro D vs W hM hD hcl hdep
    have f2 := hdep 11 (by decide +kernel)
    have D9 := (hM.tl.t2 f2).1
    have FIN : Hid (RmM w w1 sk vars m l i (upd D 13 true) (upd vs 13 (vs 11)) W) := ⟨hM.kp, RhM.done (by rw [show upd D 13 true 9 = D 9 by simp [upd]]; exact D9) (by rw [show upd D 13 true 8 = D 8 by simp [upd]]; exact hcl 9 8 (by decide +kernel) D9), hM.tl.op4 (by decide) f2 rfl⟩
    clear hM
    simp [go_sem, evS, List.lookup]
    exact FIN.out
  refine MJ.lex_nil ?_
  rintro vs w5 hM
  have ⟨v0, q1', n1, c1', q2', n2', c2', q3', n3', c3', er, e5, hK, hS⟩ := hM.tl.at_end
  have HF := hide hS
  have KF := hide hK
  clear hM hK hS JQ SA SZ HP
  simp only [fillS, List.foldl_cons, List.foldl_nil, e5]
  go_wp2_with fail
  go_simp
  refine bodyPost_ret (RET.out _ _ _ _ _ rfl rfl KF.out rfl) rfl ?_
  exact HF.out
end Go.Proofs.Ytdoncogkepopiaa
