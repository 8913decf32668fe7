/- A copy of a list of constraints and one more behind it, made in whatever order; no condition. -/
import Derived.Test.YtdoncogkepopiaaCpG
import Derived.Test.YtdoncogkepopiaaCoBu
namespace Go.Proofs.Ytdoncogkepopiaa
open Go.RowKit Go.Sort Go.Shelf
set_option linter.unusedVariables false
set_option linter.unusedSimpArgs false

theorem flat_snocH (n : Nat) (x : Nat → Cn) (c : Cn) : flat (n + 1) 5 (cnC (upd x n c)) = flat n 5 (cnC x) ++ [.int .i64 c.a, .int .i64 c.b, .int .i64 c.rel, .int .i64 c.cc, .int .i64 c.st] := by
  rw [flat_succ]
  congr 1
  · exact flat_congr fun i' hi' j => by
      have : upd x n c i' = x i' := by simp [upd, Nat.ne_of_lt hi']
      unfold cnC; rw [this]
  · simp [upd, cnC, List.range_succ]
theorem SoF.base {vars : Int} {m : Nat} {l : Nat → Cn} {w1 W W' : World} {e : Ending} (h : SoF vars m l W e W') (hB : Below w1.heap.size w1 W) : SoF vars m l w1 e W' := by
  have hs := hB.size
  refine ⟨fun h0 => ?_, h.2.1, hB.trans (h.2.2.mono hs)⟩
  obtain ⟨q1, c1, q2, c2, q3, c3, e, h1, h2, h3, h4, f1, f2, f3⟩ := h.1 h0
  exact ⟨q1, c1, q2, c2, q3, c3, e, h1, h2, h3, h4, fun ad e => Nat.le_trans hs (f1 ad e), fun ad e => Nat.le_trans hs (f2 ad e), fun hn ad e => Nat.le_trans hs (f3 hn ad e)⟩
/-- The copy (ka), the new element's row (kb), the append (kc); kd: what follows. -/
structure HdM (w1 : World) (m : Nat) (l : Nat → Cn) (x : Cn) (ka kb kc kd : Nat) (D : Nat → Bool) (vs : Nat → Value) (W : World) : Prop where
  h0 : D kd = false → Below w1.heap.size w1 W
  ha : D ka = true → D kc = false → W.ownsRow w1.heap.size 40 5 (vs ka) m (flat m 5 (cnC l)) ∧ (D kb = true → ∀ g, vs kb = .slice (some ⟨g, 0, none⟩) 1 1 → (vs ka).ownBlock ≠ some g)
  hb : D kb = true → D kc = false → ∃ g, vs kb = .slice (some ⟨g, 0, none⟩) 1 1 ∧ Blk W g 40 [.int .i64 x.a, .int .i64 x.b, .int .i64 x.rel, .int .i64 x.cc, .int .i64 x.st]
  hc : D kc = true → D kd = false → W.ownsRow w1.heap.size 40 5 (vs kc) (m + 1) (flat (m + 1) 5 (cnC (upd l m x)))
section
variable {w1 W W' : World} {m : Nat} {l : Nat → Cn} {x : Cn} {ka kb kc kd : Nat} {D D' : Nat → Bool} {vs vs' : Nat → Value} {v : Value}
theorem HdM.start (h : Below w1.heap.size w1 W) : HdM w1 m l x ka kb kc kd (fun _ => false) vs W := ⟨fun _ => h, fun h => Bool.noConfusion h, fun h => Bool.noConfusion h, fun h => Bool.noConfusion h⟩
theorem HdM.ext (h : HdM w1 m l x ka kb kc kd D vs W) (hD : ∀ b ∈ [ka, kb, kc, kd], D b = D' b ∧ (D b = true → vs b = vs' b)) : HdM w1 m l x ka kb kc kd D' vs' W := by
  obtain ⟨a1, b1⟩ := hD ka (by simp)
  obtain ⟨a2, b2⟩ := hD kb (by simp)
  obtain ⟨a3, b3⟩ := hD kc (by simp)
  obtain ⟨a4, b4⟩ := hD kd (by simp)
  refine ⟨fun q => h.h0 (a4.trans q), fun q r => ?_, fun q r => ?_, fun q r => ?_⟩
  · obtain ⟨o1, o2⟩ := h.ha (a1.trans q) (a3.trans r)
    rw [← b1 (a1.trans q)]
    refine ⟨o1, fun q2 g e => o2 (a2.trans q2) g ?_⟩
    rw [b2 (a2.trans q2)]; exact e
  · rw [← b2 (a2.trans q)]; exact h.hb (a2.trans q) (a3.trans r)
  · rw [← b3 (a3.trans q)]; exact h.hc (a3.trans q) (a4.trans r)
theorem HdM.opA (h : HdM w1 m l x ka kb kc kd D vs W) (n1 : kb ≠ ka) (n2 : kc ≠ ka) (n3 : kd ≠ ka) (hc : D kc = false) (hd : D kd = false) (hO : W'.ownsRow W.heap.size 40 5 v m (flat m 5 (cnC l))) (hB : Below W.heap.size W W') : HdM w1 m l x ka kb kc kd (upd D ka true) (upd vs ka v) W' := by
  have u : ∀ j, j ≠ ka → upd D ka true j = D j := fun j hj => by simp [upd, hj]
  have t : ∀ j, j ≠ ka → upd vs ka v j = vs j := fun j hj => by simp [upd, hj]
  have hw := h.h0 hd
  refine ⟨fun _ => hw.trans (hB.mono hw.size), fun _ _ => ⟨?_, fun q g e => ?_⟩, fun q r => ?_, fun q => ?_⟩
  · rw [show upd vs ka v ka = v by simp [upd]]; exact own_base hO hw.size
  · rw [show upd vs ka v ka = v by simp [upd]]
    rw [t _ n1] at e
    rw [u _ n1] at q
    obtain ⟨g', e', hg⟩ := h.hb q hc
    rw [e'] at e
    injection e with e
    injection e with e
    injection e with e
    subst e
    intro e2
    have h1 := (hO.lt g' e2).1
    have h2 := hg.lt
    omega
  · rw [u _ n1] at q
    rw [t _ n1]
    obtain ⟨g', e', hg⟩ := h.hb q hc
    exact ⟨g', e', (hB.block g' hg.lt).trans hg⟩
  · rw [u _ n2, hc] at q; exact Bool.noConfusion q
theorem HdM.opB (h : HdM w1 m l x ka kb kc kd D vs W) (n1 : ka ≠ kb) (n2 : kc ≠ kb) (n3 : kd ≠ kb) (hc : D kc = false) (hd : D kd = false) : HdM w1 m l x ka kb kc kd (upd D kb true) (upd vs kb (.slice (some ⟨W.heap.size, 0, none⟩) 1 1)) (W.alloc (.cells ([.int .i64 x.a, .int .i64 x.b, .int .i64 x.rel, .int .i64 x.cc, .int .i64 x.st] : List Value).toArray 40)) := by
  have u : ∀ j, j ≠ kb → upd D kb true j = D j := fun j hj => by simp [upd, hj]
  have t : ∀ j, j ≠ kb → upd vs kb (.slice (some ⟨W.heap.size, 0, none⟩) 1 1) j = vs j := fun j hj => by simp [upd, hj]
  have hw := h.h0 hd
  refine ⟨fun _ => hw.alloc hw.size _, fun q _ => ?_, fun _ _ => ⟨W.heap.size, by simp [upd], Blk.new rfl⟩, fun q => ?_⟩
  · rw [u _ n1] at q
    rw [t _ n1]
    obtain ⟨o1, _⟩ := h.ha q hc
    refine ⟨o1.alloc _, fun _ g e => ?_⟩
    rw [show upd vs kb (.slice (some ⟨W.heap.size, 0, none⟩) 1 1) kb = .slice (some ⟨W.heap.size, 0, none⟩) 1 1 by simp [upd]] at e
    injection e with e
    injection e with e
    injection e with e
    subst e
    intro e2
    have := (o1.lt _ e2).2
    omega
  · rw [u _ n2, hc] at q; exact Bool.noConfusion q
theorem HdM.opC (h : HdM w1 m l x ka kb kc kd D vs W) (n3 : kd ≠ kc) (n1 : ka ≠ kc) (n2 : kb ≠ kc) (ha : D ka = true) (hc : D kc = false) (hd : D kd = false) (hO : W'.ownsRow w1.heap.size 40 5 v (m + 1) (flat m 5 (cnC l) ++ [.int .i64 x.a, .int .i64 x.b, .int .i64 x.rel, .int .i64 x.cc, .int .i64 x.st])) (hg : W.grownBy W' (vs ka).ownBlock) : HdM w1 m l x ka kb kc kd (upd D kc true) (upd vs kc v) W' := by
  have hw := h.h0 hd
  have oa := (h.ha ha hc).1
  refine ⟨fun _ => Below.by hw oa hg (Nat.le_refl _) (Nat.le_refl _), fun _ q => by simp [upd] at q, fun _ q => by simp [upd] at q, fun _ _ => ?_⟩
  rw [show upd vs kc v kc = v by simp [upd], flat_snocH]
  exact hO
theorem HdM.done (hd : D kd = true) (hc : D kc = true) : HdM w1 m l x ka kb kc kd D vs W :=
  ⟨fun q => by rw [hd] at q; exact Bool.noConfusion q, fun _ q => by rw [hc] at q; exact Bool.noConfusion q, fun _ q => by rw [hc] at q; exact Bool.noConfusion q, fun _ q => by rw [hd] at q; exact Bool.noConfusion q⟩
end
/-- A copy, one more element, the call, its results. -/
structure AdM (w w1 : World) (sk : Nat) (vars : Int) (m : Nat) (l : Nat → Cn) (x : Cn) (D : Nat → Bool) (vs : Nat → Value) (W : World) : Prop where
  kp : Kept sk w1 W
  hd : HdM w1 m l x 4 6 7 8 D vs W
  tl : TlM w w1 sk vars (m + 1) (upd l m x) 8 9 10 11 12 D vs W
theorem AdM.ext {w w1 W : World} {sk : Nat} {vars : Int} {m : Nat} {l : Nat → Cn} {x : Cn} {D D' : Nat → Bool} {vs vs' : Nat → Value} (h : AdM w w1 sk vars m l x D vs W) (hD : ∀ b ∈ [4, 6, 7, 8, 9, 10, 11, 12], D b = D' b ∧ (D b = true → vs b = vs' b)) : AdM w w1 sk vars m l x D' vs' W :=
  ⟨h.kp, h.hd.ext fun b hb => hD b (by simp at hb ⊢; omega), h.tl.ext fun b hb => hD b (by simp at hb ⊢; omega)⟩
end Go.Proofs.Ytdoncogkepopiaa
