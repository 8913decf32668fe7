/- New of package constraint; what a call that returns a system leaves where its two results are stored in whatever order; no condition. -/
import Derived.Test.YtdoncogkepopiaaCpF
namespace Go.Proofs.Ytdoncogkepopiaa
open Go.RowKit Go.Sort Go.Shelf
set_option linter.unusedVariables false
set_option linter.unusedSimpArgs false

theorem sof_shape {vars : Int} {m : Nat} {l : Nat → Cn} {w w' : World} {v : Value} (h : SoF vars m l w (.returned v) w') : ∃ v0 q1 n1 c1 q2 n2 c2 q3 n3 c3 er, v = .tuple #[sysV v0 q1 n1 c1 q2 n2 c2 q3 n3 c3, .int .i64 er] := by
  by_cases h0 : erS vars m l = 0
  · obtain ⟨q1, c1, q2, c2, q3, c3, e, _⟩ := h.1 h0
    injection e with e
    exact ⟨_, _, _, _, _, _, _, _, _, _, _, e⟩
  · have e := h.2.1 h0
    injection e with e
    exact ⟨_, _, _, _, _, _, _, _, _, _, _, e⟩
theorem SRow.sets {W : World} {q : Option Addr} {n k : Nat} {f : Nat → Nat → Value} (h : SRow W q n k f) {sk : Nat} (hq : ∀ ad, q = some ad → ad.block ≠ sk) (a b c d : Value) : SRow ((((W.setCell ⟨sk, 0, none⟩ a).setCell ⟨sk, 1, none⟩ b).setCell ⟨sk, 2, none⟩ c).setCell ⟨sk, 3, none⟩ d) q n k f :=
  (((h.other (p := ⟨sk, 0, none⟩) hq _).other (p := ⟨sk, 1, none⟩) hq _).other (p := ⟨sk, 2, none⟩) hq _).other (p := ⟨sk, 3, none⟩) hq _
theorem cell_sets {W : World} {b o sk : Nat} (h : b ≠ sk) (x y c d : Value) : ((((W.setCell ⟨sk, 0, none⟩ x).setCell ⟨sk, 1, none⟩ y).setCell ⟨sk, 2, none⟩ c).setCell ⟨sk, 3, none⟩ d).cell? ⟨b, o, none⟩ = W.cell? ⟨b, o, none⟩ := by
  rw [World.cell?_setCell_other _ _ _ _ (by intro e; simp_all), World.cell?_setCell_other _ _ _ _ (by intro e; simp_all), World.cell?_setCell_other _ _ _ _ (by intro e; simp_all), World.cell?_setCell_other _ _ _ _ (by intro e; simp_all)]
theorem sof_store {vars : Int} {m sk : Nat} {l : Nat → Cn} {w w1 W : World} {v : Value} (h : SoF vars m l w1 (.returned v) W) (hsk : w.heap.size ≤ sk) (hsk1 : sk < w1.heap.size) (hB : Below w.heap.size w w1) (a b c d : Value) :
    SoF vars m l w (.returned v) ((((W.setCell ⟨sk, 0, none⟩ a).setCell ⟨sk, 1, none⟩ b).setCell ⟨sk, 2, none⟩ c).setCell ⟨sk, 3, none⟩ d) := by
  have hs := hB.size
  refine ⟨fun h0 => ?_, h.2.1, ?_⟩
  · obtain ⟨q1, c1, q2, c2, q3, c3, e, h1, h2, h3, h4, f1, f2, f3⟩ := h.1 h0
    refine ⟨q1, c1, q2, c2, q3, c3, e, h1, h2.sets (fun ad e => by have := f1 ad e; omega) _ _ _ _, fun hn => ?_, fun hn => ?_, fun ad e => Nat.le_trans hs (f1 ad e), fun ad e => Nat.le_trans hs (f2 ad e), fun hn ad e => Nat.le_trans hs (f3 hn ad e)⟩
    · obtain ⟨b', off, rfl, hb, hc⟩ := h3 hn
      have := f2 _ rfl
      exact ⟨b', off, rfl, by simpa [World.setCell] using hb, fun k hk => (cell_sets (by show b' ≠ sk; dsimp only at this; omega) _ _ _ _).trans (hc k hk)⟩
    · obtain ⟨b', off, rfl, hc⟩ := h4 hn
      have := f3 hn _ rfl
      exact ⟨b', off, rfl, fun k hk => (cell_sets (by show b' ≠ sk; dsimp only at this; omega) _ _ _ _).trans (hc k hk)⟩
  · have hb := hB.trans (h.2.2.mono hs)
    exact (((hb.setCell hsk _).setCell hsk _).setCell hsk _).setCell hsk _
set_option maxHeartbeats 4000000 in
set_option maxRecDepth 100000 in
theorem gNewF (vars : Int) (w : World) : Calls Try.prog 19 #[.int .i64 vars] w (SoF vars 0 (fun _ => ⟨0, 0, 0, 0, 0⟩) w) := by
  have K1 : Hid (Blk (w.alloc (.cells #[.int .i64 0, .slice none 0 0, .slice none 0 0, .slice none 0 0] 26)) w.heap.size 26 [.int .i64 0, .slice none 0 0, .slice none 0 0, .slice none 0 0]) := Blk.new rfl
  have B1 : Hid (Below w.heap.size w (w.alloc (.cells #[.int .i64 0, .slice none 0 0, .slice none 0 0, .slice none 0 0] 26))) := (Below.refl _ _).alloc (Nat.le_refl _) _
  have S1 : Hid (w.heap.size < (w.alloc (.cells #[.int .i64 0, .slice none 0 0, .slice none 0 0, .slice none 0 0] 26)).heap.size) := by show _ < _; simp
  have CS := hide (gSoF vars none 0 0 (fun _ => ⟨0, 0, 0, 0, 0⟩) (w.alloc (.cells #[.int .i64 0, .slice none 0 0, .slice none 0 0, .slice none 0 0] 26)) (fun h => absurd h (Nat.lt_irrefl _)) (Nat.le_refl _) (by omega))
  have RET : Hid (∀ (tm : Array Value) (W : World) (sk : Nat) (er : Int) (cs : List Value), tm.getD 2 undef = .pointer (some ⟨sk, 0, none⟩) → tm.getD 3 undef = .int .i64 er → Blk W sk 26 cs → cs.length = 4 → (results Try.f19 tm).run Try.prog W = .ok (.tuple #[.agg cs.toArray, .int .i64 er]) W) := fun tm W sk er cs h1 h2 h3 h4 => by
    have := results_row_tmp (P := Try.prog) (fn := Try.f19) (p := 2) (u := 3) (ty := 26) rfl tm W sk 26 cs.toArray (0, 0) _ h1 h3 Try.underlying26 rfl (by rw [List.size_toArray, h4]; kernel_rfl)
    rw [this, h2]
  go_enter Try.func19, Try.ntmps19
  go_wp2_with fail
  generalize w.alloc (.cells #[.int .i64 0, .slice none 0 0, .slice none 0 0, .slice none 0 0] 26) = w1 at *
  refine CS.out.mono ?_
  rintro e w2 h
  obtain ⟨v, rfl⟩ : ∃ v, e = .returned v := by
    by_cases h0 : erS vars 0 (fun _ => ⟨0, 0, 0, 0, 0⟩) = 0
    · obtain ⟨_, _, _, _, _, _, q, _⟩ := h.1 h0; exact ⟨_, q⟩
    · exact ⟨_, h.2.1 h0⟩
  obtain ⟨v0, q1, n1, c1, q2, n2, c2, q3, n3, c3, er, rfl⟩ := sof_shape h
  have FN := hide (fun a b c d => sof_store h (Nat.le_refl _) S1.out B1.out a b c d)
  have K2 : Hid (Blk w2 w.heap.size 26 [.int .i64 0, .slice none 0 0, .slice none 0 0, .slice none 0 0]) := (h.2.2.block _ K1.out.lt).trans K1.out
  have KZ := hide (setZ K2.out rfl (.int .i64 v0) (.slice q1 n1 c1) (.slice q2 n2 c2) (.slice q3 n3 c3))
  have y0 := K2.out.cell 0 rfl
  have y1 := K2.out.cell 1 rfl
  have y2 := K2.out.cell 2 rfl
  have y3 := K2.out.cell 3 rfl
  have z0 := K2.out.free 0
  have z1 := K2.out.free 1
  have z2 := K2.out.free 2
  have z3 := K2.out.free 3
  clear h CS K1 B1 S1
  go_wp2_with fail
  refine bodyPost_ret (RET.out _ _ _ _ _ rfl rfl KZ.out rfl) rfl ?_
  exact FN.out _ _ _ _
/-! ### The tail of a region that draws its order -/
/-- What stands where the system has been stored in the result's own block. -/
def FinP (w : World) (sk : Nat) (vars : Int) (m : Nat) (l : Nat → Cn) (v : Value) (W : World) : Prop :=
  ∃ v0 q1 n1 c1 q2 n2 c2 q3 n3 c3 er, v = .tuple #[sysV v0 q1 n1 c1 q2 n2 c2 q3 n3 c3, .int .i64 er] ∧ Blk W sk 26 (sysL v0 q1 n1 c1 q2 n2 c2 q3 n3 c3) ∧ SoF vars m l w (.returned v) W
/-- The call (k0) has returned; its two results are taken (k1, k2), the first is stored (k3), the second one assigned (k4). -/
structure TlM (w w1 : World) (sk : Nat) (vars : Int) (m : Nat) (l : Nat → Cn) (k0 k1 k2 k3 k4 : Nat) (D : Nat → Bool) (vs : Nat → Value) (W : World) : Prop where
  t0 : D k0 = true → D k3 = false → SoF vars m l w1 (.returned (vs k0)) W ∧ Blk W sk 26 [.int .i64 0, .slice none 0 0, .slice none 0 0, .slice none 0 0]
  t1 : D k1 = true → D k0 = true ∧ ∃ a b, vs k0 = .tuple #[a, b] ∧ vs k1 = a
  t2 : D k2 = true → D k0 = true ∧ ∃ a b, vs k0 = .tuple #[a, b] ∧ vs k2 = b
  t3 : D k3 = true → D k0 = true ∧ FinP w sk vars m l (vs k0) W
  t4 : D k4 = true → D k2 = true ∧ vs k4 = vs k2
section
variable {w w1 W W' : World} {sk : Nat} {vars : Int} {m : Nat} {l : Nat → Cn} {k0 k1 k2 k3 k4 : Nat} {D D' : Nat → Bool} {vs vs' : Nat → Value}
theorem TlM.idle (h0 : D k0 = false) (h1 : D k1 = false) (h2 : D k2 = false) (h3 : D k3 = false) (h4 : D k4 = false) : TlM w w1 sk vars m l k0 k1 k2 k3 k4 D vs W :=
  ⟨fun h => by rw [h0] at h; exact Bool.noConfusion h, fun h => by rw [h1] at h; exact Bool.noConfusion h, fun h => by rw [h2] at h; exact Bool.noConfusion h, fun h => by rw [h3] at h; exact Bool.noConfusion h, fun h => by rw [h4] at h; exact Bool.noConfusion h⟩
theorem TlM.ext (h : TlM w w1 sk vars m l k0 k1 k2 k3 k4 D vs W) (hD : ∀ b ∈ [k0, k1, k2, k3, k4], D b = D' b ∧ (D b = true → vs b = vs' b)) : TlM w w1 sk vars m l k0 k1 k2 k3 k4 D' vs' W := by
  obtain ⟨a0, b0⟩ := hD k0 (by simp)
  obtain ⟨a1, b1⟩ := hD k1 (by simp)
  obtain ⟨a2, b2⟩ := hD k2 (by simp)
  obtain ⟨a3, b3⟩ := hD k3 (by simp)
  obtain ⟨a4, b4⟩ := hD k4 (by simp)
  refine ⟨fun h0 h3 => ?_, fun h1 => ?_, fun h2 => ?_, fun h3 => ?_, fun h4 => ?_⟩
  · rw [← b0 (a0.trans h0)]; exact h.t0 (a0.trans h0) (a3.trans h3)
  · obtain ⟨q, r⟩ := h.t1 (a1.trans h1)
    exact ⟨a0.symm.trans q, by rw [← b0 q, ← b1 (a1.trans h1)]; exact r⟩
  · obtain ⟨q, r⟩ := h.t2 (a2.trans h2)
    exact ⟨a0.symm.trans q, by rw [← b0 q, ← b2 (a2.trans h2)]; exact r⟩
  · obtain ⟨q, r⟩ := h.t3 (a3.trans h3)
    exact ⟨a0.symm.trans q, by rw [← b0 q]; exact r⟩
  · obtain ⟨q, r⟩ := h.t4 (a4.trans h4)
    exact ⟨a2.symm.trans q, by rw [← b4 (a4.trans h4), ← b2 q]; exact r⟩
/-- The call has returned. -/
theorem TlM.op0 {v : Value} (hne : k0 ≠ k1 ∧ k0 ≠ k2 ∧ k0 ≠ k3 ∧ k0 ≠ k4) (h1 : D k1 = false) (h2 : D k2 = false) (h3 : D k3 = false) (h4 : D k4 = false) (hS : SoF vars m l w1 (.returned v) W) (hZ : Blk W sk 26 [.int .i64 0, .slice none 0 0, .slice none 0 0, .slice none 0 0]) : TlM w w1 sk vars m l k0 k1 k2 k3 k4 (upd D k0 true) (upd vs k0 v) W := by
  obtain ⟨n1, n2, n3, n4⟩ := hne
  have u : ∀ k, k ≠ k0 → upd D k0 true k = D k := fun k hk => by simp [upd, hk]
  refine ⟨fun _ _ => ⟨by simpa [upd] using hS, hZ⟩, fun h => ?_, fun h => ?_, fun h => ?_, fun h => ?_⟩
  · rw [u _ (Ne.symm n1), h1] at h; exact Bool.noConfusion h
  · rw [u _ (Ne.symm n2), h2] at h; exact Bool.noConfusion h
  · rw [u _ (Ne.symm n3), h3] at h; exact Bool.noConfusion h
  · rw [u _ (Ne.symm n4), h4] at h; exact Bool.noConfusion h
/-- An operation that changes nothing but its own value. -/
theorem TlM.op1 {v a b : Value} (h : TlM w w1 sk vars m l k0 k1 k2 k3 k4 D vs W) (hne : k1 ≠ k0 ∧ k1 ≠ k2 ∧ k1 ≠ k3 ∧ k1 ≠ k4) (h0 : D k0 = true) (he : vs k0 = .tuple #[a, b]) (hv : v = a) : TlM w w1 sk vars m l k0 k1 k2 k3 k4 (upd D k1 true) (upd vs k1 v) W := by
  obtain ⟨n0, n2, n3, n4⟩ := hne
  have u : ∀ k, k ≠ k1 → upd D k1 true k = D k := fun k hk => by simp [upd, hk]
  have t : ∀ k, k ≠ k1 → upd vs k1 v k = vs k := fun k hk => by simp [upd, hk]
  refine ⟨fun q0 q3 => ?_, fun _ => ⟨by rw [u _ (Ne.symm n0)]; exact h0, a, b, by rw [t _ (Ne.symm n0)]; exact he, by simpa [upd] using hv⟩, fun q => ?_, fun q => ?_, fun q => ?_⟩
  · rw [u _ (Ne.symm n0)] at q0; rw [u _ (Ne.symm n3)] at q3; rw [t _ (Ne.symm n0)]; exact h.t0 q0 q3
  · rw [u _ (Ne.symm n2)] at q; rw [u _ (Ne.symm n0), t _ (Ne.symm n0), t _ (Ne.symm n2)]; exact h.t2 q
  · rw [u _ (Ne.symm n3)] at q; rw [u _ (Ne.symm n0), t _ (Ne.symm n0)]; exact h.t3 q
  · rw [u _ (Ne.symm n4)] at q; rw [u _ (Ne.symm n2), t _ (Ne.symm n4), t _ (Ne.symm n2)]; exact h.t4 q
theorem TlM.op2 {v a b : Value} (h : TlM w w1 sk vars m l k0 k1 k2 k3 k4 D vs W) (hne : k2 ≠ k0 ∧ k2 ≠ k1 ∧ k2 ≠ k3 ∧ k2 ≠ k4) (h0 : D k0 = true) (h4 : D k4 = false) (he : vs k0 = .tuple #[a, b]) (hv : v = b) : TlM w w1 sk vars m l k0 k1 k2 k3 k4 (upd D k2 true) (upd vs k2 v) W := by
  obtain ⟨n0, n1, n3, n4⟩ := hne
  have u : ∀ k, k ≠ k2 → upd D k2 true k = D k := fun k hk => by simp [upd, hk]
  have t : ∀ k, k ≠ k2 → upd vs k2 v k = vs k := fun k hk => by simp [upd, hk]
  refine ⟨fun q0 q3 => ?_, fun q => ?_, fun _ => ⟨by rw [u _ (Ne.symm n0)]; exact h0, a, b, by rw [t _ (Ne.symm n0)]; exact he, by simpa [upd] using hv⟩, fun q => ?_, fun q => ?_⟩
  · rw [u _ (Ne.symm n0)] at q0; rw [u _ (Ne.symm n3)] at q3; rw [t _ (Ne.symm n0)]; exact h.t0 q0 q3
  · rw [u _ (Ne.symm n1)] at q; rw [u _ (Ne.symm n0), t _ (Ne.symm n0), t _ (Ne.symm n1)]; exact h.t1 q
  · rw [u _ (Ne.symm n3)] at q; rw [u _ (Ne.symm n0), t _ (Ne.symm n0)]; exact h.t3 q
  · rw [u _ (Ne.symm n4), h4] at q; exact Bool.noConfusion q
/-- The store. -/
theorem TlM.op3 {v : Value} (h : TlM w w1 sk vars m l k0 k1 k2 k3 k4 D vs W) (hne : k3 ≠ k0 ∧ k3 ≠ k1 ∧ k3 ≠ k2 ∧ k3 ≠ k4) (h0 : D k0 = true) (hF : FinP w sk vars m l (vs k0) W') : TlM w w1 sk vars m l k0 k1 k2 k3 k4 (upd D k3 true) (upd vs k3 v) W' := by
  obtain ⟨n0, n1, n2, n4⟩ := hne
  have u : ∀ k, k ≠ k3 → upd D k3 true k = D k := fun k hk => by simp [upd, hk]
  have t : ∀ k, k ≠ k3 → upd vs k3 v k = vs k := fun k hk => by simp [upd, hk]
  refine ⟨fun q0 q3 => by simp [upd] at q3, fun q => ?_, fun q => ?_, fun _ => ⟨by rw [u _ (Ne.symm n0)]; exact h0, by rw [t _ (Ne.symm n0)]; exact hF⟩, fun q => ?_⟩
  · rw [u _ (Ne.symm n1)] at q; rw [u _ (Ne.symm n0), t _ (Ne.symm n0), t _ (Ne.symm n1)]; exact h.t1 q
  · rw [u _ (Ne.symm n2)] at q; rw [u _ (Ne.symm n0), t _ (Ne.symm n0), t _ (Ne.symm n2)]; exact h.t2 q
  · rw [u _ (Ne.symm n4)] at q; rw [u _ (Ne.symm n2), t _ (Ne.symm n4), t _ (Ne.symm n2)]; exact h.t4 q
theorem TlM.op4 {v : Value} (h : TlM w w1 sk vars m l k0 k1 k2 k3 k4 D vs W) (hne : k4 ≠ k0 ∧ k4 ≠ k1 ∧ k4 ≠ k2 ∧ k4 ≠ k3) (h2 : D k2 = true) (hv : v = vs k2) : TlM w w1 sk vars m l k0 k1 k2 k3 k4 (upd D k4 true) (upd vs k4 v) W := by
  obtain ⟨n0, n1, n2, n3⟩ := hne
  have u : ∀ k, k ≠ k4 → upd D k4 true k = D k := fun k hk => by simp [upd, hk]
  have t : ∀ k, k ≠ k4 → upd vs k4 v k = vs k := fun k hk => by simp [upd, hk]
  refine ⟨fun q0 q3 => ?_, fun q => ?_, fun q => ?_, fun q => ?_, fun _ => ⟨by rw [u _ (Ne.symm n2)]; exact h2, by rw [t _ (Ne.symm n2)]; simpa [upd] using hv⟩⟩
  · rw [u _ (Ne.symm n0)] at q0; rw [u _ (Ne.symm n3)] at q3; rw [t _ (Ne.symm n0)]; exact h.t0 q0 q3
  · rw [u _ (Ne.symm n1)] at q; rw [u _ (Ne.symm n0), t _ (Ne.symm n0), t _ (Ne.symm n1)]; exact h.t1 q
  · rw [u _ (Ne.symm n2)] at q; rw [u _ (Ne.symm n0), t _ (Ne.symm n0), t _ (Ne.symm n2)]; exact h.t2 q
  · rw [u _ (Ne.symm n3)] at q; rw [u _ (Ne.symm n0), t _ (Ne.symm n0)]; exact h.t3 q
/-- An operation of the head: nothing of the tail has run. -/
theorem TlM.idle_upd {k : Nat} {v : Value} (hne : k ≠ k0 ∧ k ≠ k1 ∧ k ≠ k2 ∧ k ≠ k3 ∧ k ≠ k4) (h0 : D k0 = false) (h1 : D k1 = false) (h2 : D k2 = false) (h3 : D k3 = false) (h4 : D k4 = false) : TlM w w1 sk vars m l k0 k1 k2 k3 k4 (upd D k true) (upd vs k v) W := by
  obtain ⟨n0, n1, n2, n3, n4⟩ := hne
  have u : ∀ j, j ≠ k → upd D k true j = D j := fun j hj => by simp [upd, hj]
  exact TlM.idle (by rw [u _ (Ne.symm n0)]; exact h0) (by rw [u _ (Ne.symm n1)]; exact h1) (by rw [u _ (Ne.symm n2)]; exact h2) (by rw [u _ (Ne.symm n3)]; exact h3) (by rw [u _ (Ne.symm n4)]; exact h4)
/-- What the store makes. -/
theorem fin_of (h : SoF vars m l w1 (.returned (vs k0)) W) (hZ : Blk W sk 26 [.int .i64 0, .slice none 0 0, .slice none 0 0, .slice none 0 0]) (hsk : w.heap.size ≤ sk) (hsk1 : sk < w1.heap.size) (hB : Below w.heap.size w w1) : ∃ v0 q1 n1 c1 q2 n2 c2 q3 n3 c3 er, vs k0 = .tuple #[sysV v0 q1 n1 c1 q2 n2 c2 q3 n3 c3, .int .i64 er] ∧ FinP w sk vars m l (vs k0) ((((W.setCell ⟨sk, 0, none⟩ (.int .i64 v0)).setCell ⟨sk, 1, none⟩ (.slice q1 n1 c1)).setCell ⟨sk, 2, none⟩ (.slice q2 n2 c2)).setCell ⟨sk, 3, none⟩ (.slice q3 n3 c3)) := by
  obtain ⟨v0, q1, n1, c1, q2, n2, c2, q3, n3, c3, er, e⟩ := sof_shape h
  exact ⟨v0, q1, n1, c1, q2, n2, c2, q3, n3, c3, er, e, v0, q1, n1, c1, q2, n2, c2, q3, n3, c3, er, e, setZ hZ rfl _ _ _ _, sof_store h hsk hsk1 hB _ _ _ _⟩
theorem TlM.store_at (h : TlM w w1 sk vars m l k0 k1 k2 k3 k4 D vs W) (f1 : D k1 = true) (h3 : D k3 = false) (hsk : w.heap.size ≤ sk) (hsk1 : sk < w1.heap.size) (hB : Below w.heap.size w w1) : ∃ v0 q1 n1 c1 q2 n2 c2 q3 n3 c3, vs k1 = sysV v0 q1 n1 c1 q2 n2 c2 q3 n3 c3 ∧ D k0 = true ∧ Blk W sk 26 [.int .i64 0, .slice none 0 0, .slice none 0 0, .slice none 0 0] ∧ FinP w sk vars m l (vs k0) ((((W.setCell ⟨sk, 0, none⟩ (.int .i64 v0)).setCell ⟨sk, 1, none⟩ (.slice q1 n1 c1)).setCell ⟨sk, 2, none⟩ (.slice q2 n2 c2)).setCell ⟨sk, 3, none⟩ (.slice q3 n3 c3)) := by
  obtain ⟨f0, a, b, e, e1⟩ := h.t1 f1
  obtain ⟨s1, s2⟩ := h.t0 f0 h3
  obtain ⟨v0, q1, n1, c1, q2, n2, c2, q3, n3, c3, er, e2, hF⟩ := fin_of s1 s2 hsk hsk1 hB
  refine ⟨v0, q1, n1, c1, q2, n2, c2, q3, n3, c3, ?_, f0, s2, hF⟩
  rw [e1]
  rw [e] at e2
  injection e2 with e2
  injection e2 with e2
  injection e2 with e2 _
theorem TlM.int_at (h : TlM w w1 sk vars m l k0 k1 k2 k3 k4 D vs W) (f0 : D k0 = true) : ∃ a er, vs k0 = .tuple #[a, .int .i64 er] := by
  cases f3 : D k3 with
  | false => obtain ⟨v0, q1, n1, c1, q2, n2, c2, q3, n3, c3, er, e⟩ := sof_shape (h.t0 f0 f3).1; exact ⟨_, _, e⟩
  | true => obtain ⟨_, v0, q1, n1, c1, q2, n2, c2, q3, n3, c3, er, e, _⟩ := h.t3 f3; exact ⟨_, _, e⟩
theorem TlM.at_end (h : TlM w w1 sk vars m l k0 k1 k2 k3 k4 (fun _ => true) vs W) : ∃ v0 q1 n1 c1 q2 n2 c2 q3 n3 c3 er, vs k4 = .int .i64 er ∧ Blk W sk 26 (sysL v0 q1 n1 c1 q2 n2 c2 q3 n3 c3) ∧ SoF vars m l w (.returned (.tuple #[sysV v0 q1 n1 c1 q2 n2 c2 q3 n3 c3, .int .i64 er])) W := by
  obtain ⟨-, v0, q1, n1, c1, q2, n2, c2, q3, n3, c3, er, e0, hK, hS⟩ := h.t3 rfl
  obtain ⟨-, a, b, e2, e2'⟩ := h.t2 rfl
  obtain ⟨-, e4⟩ := h.t4 rfl
  rw [e0] at hS
  refine ⟨v0, q1, n1, c1, q2, n2, c2, q3, n3, c3, er, ?_, hK, hS⟩
  rw [e4, e2']
  rw [e0] at e2
  injection e2 with e2
  injection e2 with e2
  injection e2 with _ e2
  injection e2 with e2 _
  exact e2.symm
end
end Go.Proofs.Ytdoncogkepopiaa
