/- What demands of the reference of package grid returns: the least and the most sizes of the tracks; all numbers in range. -/
import Derived.Test.YtdoenkngmgclmaaGdR2
namespace Go.Proofs.Ytdoenkngmgclmaa
open Go.RowKit Go.Sort
set_option linter.unusedVariables false
set_option linter.unusedSimpArgs false

/-- Two rows of the call's own. -/
structure Rw2 (w W : World) (lb mb n : Nat) (L M : Nat → Int) : Prop where
  below : Below w.heap.size w W
  l : IRow W lb n L
  m : IRow W mb n M
  ne : lb ≠ mb
  hl : w.heap.size ≤ lb
  hm : w.heap.size ≤ mb
section
variable {w W W' : World} {lb mb n : Nat} {L M L' M' : Nat → Int}
theorem Rw2.setl (h : Rw2 w W lb mb n L M) (k : Nat) (v : Int) : Rw2 w (W.setCell ⟨lb, k, none⟩ (.int .i64 v)) lb mb n (fun j => if j = k then v else L j) M := ⟨h.below.setCell h.hl _, h.l.set_ k v, h.m.far (Ne.symm h.ne) _, h.ne, h.hl, h.hm⟩
theorem Rw2.setm (h : Rw2 w W lb mb n L M) (k : Nat) (v : Int) : Rw2 w (W.setCell ⟨mb, k, none⟩ (.int .i64 v)) lb mb n L (fun j => if j = k then v else M j) := ⟨h.below.setCell h.hm _, h.l.far h.ne _, h.m.set_ k v, h.ne, h.hl, h.hm⟩
theorem Rw2.congr (h : Rw2 w W lb mb n L M) (h1 : ∀ j, j < n → L j = L' j) (h2 : ∀ j, j < n → M j = M' j) : Rw2 w W lb mb n L' M' := ⟨h.below, h.l.congr h1, h.m.congr h2, h.ne, h.hl, h.hm⟩
theorem Rw2.keptl (h : Rw2 w W lb mb n L M) (hr : IRow W' lb n L') (hk : Kept lb W W') : Rw2 w W' lb mb n L' M := ⟨h.below.trans (hk.below h.hl h.below.size), hr, h.m.kept hk (Ne.symm h.ne), h.ne, h.hl, h.hm⟩
theorem Rw2.keptm (h : Rw2 w W lb mb n L M) (hr : IRow W' mb n M') (hk : Kept mb W W') : Rw2 w W' lb mb n L M' := ⟨h.below.trans (hk.below h.hm h.below.size), h.l.kept hk h.ne, hr, h.ne, h.hl, h.hm⟩
theorem Rw2.drewN (h : Rw2 w W lb mb n L M) (k : Nat) : Rw2 w (W.drewN k) lb mb n L M := ⟨⟨h.below.os, h.below.tape, h.below.output, h.below.size, h.below.block⟩, h.l, h.m, h.ne, h.hl, h.hm⟩
end
structure mk2 (w : World) (n : Nat) (D : Nat → Bool) (vs : Nat → Value) (W : World) : Prop where
  m0 : Below w.heap.size w W
  m2 : D 2 = true → ∃ b, vs 2 = .slice (some ⟨b, 0, none⟩) n n ∧ w.heap.size ≤ b ∧ IRow W b n (fun _ => 0) ∧ (D 5 = true → ∀ b', vs 5 = .slice (some ⟨b', 0, none⟩) n n → b ≠ b')
  m5 : D 5 = true → ∃ b, vs 5 = .slice (some ⟨b, 0, none⟩) n n ∧ w.heap.size ≤ b ∧ IRow W b n (fun _ => 0)
  m6 : D 6 = true → D 2 = true ∧ vs 6 = vs 2
  m7 : D 7 = true → D 5 = true ∧ vs 7 = vs 5
section
variable {w W W' : World} {n : Nat} {D D' : Nat → Bool} {vs vs' : Nat → Value}
theorem mk2.ext (h : mk2 w n D vs W) (hD : ∀ b ∈ [2, 5, 6, 7], D b = D' b ∧ (D b = true → vs b = vs' b)) : mk2 w n D' vs' W := by
  obtain ⟨a2, b2⟩ := hD 2 (by simp)
  obtain ⟨a5, b5⟩ := hD 5 (by simp)
  obtain ⟨a6, b6⟩ := hD 6 (by simp)
  obtain ⟨a7, b7⟩ := hD 7 (by simp)
  refine ⟨h.m0, fun hd => ?_, fun hd => ?_, fun hd => ?_, fun hd => ?_⟩
  · rw [← a2] at hd
    obtain ⟨b, e, h1, h2, h3⟩ := h.m2 hd
    refine ⟨b, by rw [← b2 hd]; exact e, h1, h2, fun hd6 b' e' => ?_⟩
    rw [← a5] at hd6
    exact h3 hd6 b' (by rw [b5 hd6]; exact e')
  · rw [← a5] at hd
    rw [← b5 hd]; exact h.m5 hd
  · rw [← a6] at hd
    obtain ⟨h1, h2⟩ := h.m6 hd
    exact ⟨by rw [← a2]; exact h1, by rw [← b6 hd, ← b2 h1]; exact h2⟩
  · rw [← a7] at hd
    obtain ⟨h1, h2⟩ := h.m7 hd
    exact ⟨by rw [← a5]; exact h1, by rw [← b7 hd, ← b5 h1]; exact h2⟩
theorem mk2.op2 (h : mk2 w n D vs W) (h6 : D 6 = false) : mk2 w n (upd D 2 true) (upd vs 2 (.slice (some ⟨W.heap.size, 0, none⟩) n n)) (W.alloc (.cells (ints n (fun _ => 0)) 3)) := by
  have hB := (Below.refl W.heap.size W).alloc (Nat.le_refl _) (.cells (ints n (fun _ => 0)) 3)
  refine ⟨h.m0.trans (hB.mono h.m0.size), fun _ => ⟨W.heap.size, rfl, h.m0.size, IRow.new W n _, fun hd5 b' e' => ?_⟩, fun hd => ?_, fun hd => ?_, fun hd => ?_⟩
  · obtain ⟨b, e, _, hr⟩ := h.m5 hd5
    have e2 : vs 5 = .slice (some ⟨b', 0, none⟩) n n := e'
    rw [e] at e2
    simp at e2
    rw [← e2]
    exact Nat.ne_of_gt hr.lt
  · obtain ⟨b, e, h1, h2⟩ := h.m5 hd
    exact ⟨b, e, h1, h2.below hB h2.lt⟩
  · have : D 6 = true := hd
    rw [h6] at this
    exact Bool.noConfusion this
  · exact h.m7 hd
theorem mk2.op5 (h : mk2 w n D vs W) (h7 : D 7 = false) : mk2 w n (upd D 5 true) (upd vs 5 (.slice (some ⟨W.heap.size, 0, none⟩) n n)) (W.alloc (.cells (ints n (fun _ => 0)) 3)) := by
  have hB := (Below.refl W.heap.size W).alloc (Nat.le_refl _) (.cells (ints n (fun _ => 0)) 3)
  refine ⟨h.m0.trans (hB.mono h.m0.size), fun hd => ?_, fun _ => ⟨W.heap.size, rfl, h.m0.size, IRow.new W n _⟩, fun hd => ?_, fun hd => ?_⟩
  · obtain ⟨b, e, h1, h2, _⟩ := h.m2 hd
    refine ⟨b, e, h1, h2.below hB h2.lt, fun _ b' e' => ?_⟩
    have e2 : Value.slice (some ⟨W.heap.size, 0, none⟩) n n = .slice (some ⟨b', 0, none⟩) n n := e'
    simp at e2
    have := h2.lt
    omega
  · exact h.m6 hd
  · have : D 7 = true := hd
    rw [h7] at this
    exact Bool.noConfusion this
theorem mk2.op6 (h : mk2 w n D vs W) (h2 : D 2 = true) : mk2 w n (upd D 6 true) (upd vs 6 (vs 2)) W := ⟨h.m0, fun hd => h.m2 hd, fun hd => h.m5 hd, fun _ => ⟨h2, rfl⟩, fun hd => h.m7 hd⟩
theorem mk2.op7 (h : mk2 w n D vs W) (h5 : D 5 = true) : mk2 w n (upd D 7 true) (upd vs 7 (vs 5)) W := ⟨h.m0, fun hd => h.m2 hd, fun hd => h.m5 hd, fun hd => h.m6 hd, fun _ => ⟨h5, rfl⟩⟩
end
def s1t (A0 A1 : World → Prop) : List Value → World → Prop
  | [], W => A0 W
  | _ :: _, W => A1 W
theorem s1t_J {A0 A1 J : World → Prop} (h0 : ∀ W, A0 W → J W) : ∀ (vals : List Value) (W : World), vals.length < 1 → s1t A0 A1 vals W → J W
  | [], W, _, h => h0 W h
  | _ :: _, W, hl, _ => absurd hl (by simp)
theorem s1t_A {A0 A1 J : World → Prop} (h0 : ∀ W, A0 W → J W) (h1 : ∀ W, A1 W → J W) : ∀ (vals : List Value) (W : World), s1t A0 A1 vals W → J W
  | [], W, h => h0 W h
  | _ :: _, W, h => h1 W h
def s2t (A0 A1 A2 : World → Prop) : List Value → World → Prop
  | [], W => A0 W
  | [_], W => A1 W
  | _ :: _ :: _, W => A2 W
theorem s2t_J {A0 A1 A2 J : World → Prop} (h0 : ∀ W, A0 W → J W) (h1 : ∀ W, A1 W → J W) : ∀ (vals : List Value) (W : World), vals.length < 2 → s2t A0 A1 A2 vals W → J W
  | [], W, _, h => h0 W h
  | [_], W, _, h => h1 W h
  | _ :: _ :: _, W, hl, _ => absurd hl (by simp)
def s4t (A0 A1 A2 : World → Prop) (a b : Int) : List Value → World → Prop
  | [], W => A0 W
  | [v], W => v = .int .i64 a ∧ A0 W
  | [_, v], W => v = .int .i64 b ∧ A0 W
  | [_, _, _], W => A1 W
  | _ :: _ :: _ :: _ :: _, W => A2 W
theorem s4t_J {A0 A1 A2 J : World → Prop} {a b : Int} (h0 : ∀ W, A0 W → J W) (h1 : ∀ W, A1 W → J W) : ∀ (vals : List Value) (W : World), vals.length < 4 → s4t A0 A1 A2 a b vals W → J W
  | [], W, _, h => h0 W h
  | [_], W, _, h => h0 W h.2
  | [_, _], W, _, h => h0 W h.2
  | [_, _, _], W, _, h => h1 W h
  | _ :: _ :: _ :: _ :: _, W, hl, _ => absurd hl (by simp)
set_option maxHeartbeats 40000000 in
set_option maxRecDepth 100000 in
theorem rdem_any (gap : Int) (p q : Option Addr) (n m c d : Nat) (t : Nat → Tk) (I : Nat → It) (w : World) (hp : SRow w p n 2 (trC t)) (hq : SRow w q m 4 (itC I)) (hn : n ≤ 24) (hm : m ≤ 100) (hg : 0 ≤ gap ∧ gap ≤ 1048576) (ht : ∀ i, i < n → okT (t i)) (hI : ∀ k, k < m → okI n (I k)) :
    Calls Try.prog 37 #[.int .i64 gap, .slice p n c, .slice q m d] w fun e w' => ∃ lb mb, e = .returned (.tuple #[.slice (some ⟨lb, 0, none⟩) n n, .slice (some ⟨mb, 0, none⟩) n n]) ∧ Rw2 w w' lb mb n (lqF t gap I n m) (mqF t gap I n m) := by
  have HP := hide hp
  have HQ := hide hq
  have HT := hide ht
  have HI := hide hI
  have hmk : ∀ W : World, (Instr.makeSlice 22 (.int .i64 (n : Int)) (.int .i64 (n : Int))).run Try.prog W = .ok (.slice (some ⟨W.heap.size, 0, none⟩) n n) (W.alloc (.cells (ints n (fun _ => 0)) 3)) := make_ints n (by omega)
  have ABL : Hid (∀ k, k ≤ m → ∀ i, i < n → 0 ≤ addG t gap I n (fun k => (I k).mn) (ls0 t I m) k i ∧ addG t gap I n (fun k => (I k).mn) (ls0 t I m) k i ≤ 134217728) := fun k hk i hi => by
    have := add_bd (t := t) (gap := gap) (f := fun k => (I k).mn) (s0 := ls0 t I m) hg.1 hI (fun k hk => (hI k hk).1.2) (fun i hi => ls0_bd ht hI hi) k hk i hi
    have := ls0_bd ht hI hi
    omega
  have ABM : Hid (∀ k, k ≤ m → ∀ i, i < n → 0 ≤ addG t gap I n (fun k => (I k).mx) (ms0 t I m) k i ∧ addG t gap I n (fun k => (I k).mx) (ms0 t I m) k i ≤ 134217728) := fun k hk i hi => by
    have := add_bd (t := t) (gap := gap) (f := fun k => (I k).mx) (s0 := ms0 t I m) hg.1 hI (fun k hk => (hI k hk).2.1.2) (fun i hi => ms0_bd ht hI hi) k hk i hi
    have := ms0_bd ht hI hi
    omega
  have HG := hide hg
  clear hp hq ht hI hg
  go_enter Try.func37, Try.ntmps37
  go_wp2_with fail
  refine MJ.wp_region_mixed (fun _ => True) [2, 5, 6, 7] [(17, 2), (20, 5), (8, 6), (9, 7)] (mk2 w n) (by kernel_rfl) (by kernel_rfl) (by simp) ?h0 (fun D D' vs vs' W hD h => h.ext hD) (fun _ _ _ _ _ _ _ _ _ => trivial) ?_
  case h0 => exact fun vs => ⟨(Below.refl _ _).drew, fun h => Bool.noConfusion h, fun h => Bool.noConfusion h, fun h => Bool.noConfusion h, fun h => Bool.noConfusion h⟩
  repeat (refine MJ.lex_calm rfl (by rfl) (fun K hK => ?_); apply Exists.intro; refine ⟨fun W' hW => ?_, ?_⟩; (dsimp only at hW; go_simp; exact rfl); go_simp; refine hK _ ?_; clear hK K)
  refine MJ.lex_made (by rfl) rfl ?_ ?_
  · rintro D vs W hM h4 hcl hdep
    have FIN := hide (hM.op2 (by
      cases h6 : D 6 with
      | false => rfl
      | true => rw [hcl 6 2 (by decide +kernel) h6] at h4; exact Bool.noConfusion h4))
    clear hM
    have hm := hmk W
    simp [go_sem, evS, List.lookup, hm]
    exact FIN.out
  repeat (refine MJ.lex_calm rfl (by rfl) (fun K hK => ?_); apply Exists.intro; refine ⟨fun W' hW => ?_, ?_⟩; (dsimp only at hW; go_simp; exact rfl); go_simp; refine hK _ ?_; clear hK K)
  refine MJ.lex_made (by rfl) rfl ?_ ?_
  · rintro D vs W hM h4 hcl hdep
    have FIN := hide (hM.op5 (by
      cases h6 : D 7 with
      | false => rfl
      | true => rw [hcl 7 5 (by decide +kernel) h6] at h4; exact Bool.noConfusion h4))
    clear hM
    have hm := hmk W
    simp [go_sem, evS, List.lookup, hm]
    exact FIN.out
  refine MJ.lex_made (by rfl) rfl ?_ ?_
  · rintro D vs W hM h4 hcl hdep
    have FIN := hide (hM.op6 (hdep 2 (by decide +kernel)))
    obtain ⟨b, e8, _⟩ := hM.m2 (hdep 2 (by decide +kernel))
    rw [e8] at FIN
    clear hM
    simp [go_sem, evS, List.lookup, e8]
    exact FIN.out
  refine MJ.lex_made (by rfl) rfl ?_ ?_
  · rintro D vs W hM h4 hcl hdep
    have FIN := hide (hM.op7 (hdep 5 (by decide +kernel)))
    obtain ⟨b, e8, _⟩ := hM.m5 (hdep 5 (by decide +kernel))
    rw [e8] at FIN
    clear hM
    simp [go_sem, evS, List.lookup, e8]
    exact FIN.out
  refine MJ.lex_nil ?_
  rintro vs w1 hM
  obtain ⟨lb, e2, n1, r1, ne⟩ := hM.m2 rfl
  obtain ⟨mb, e5, n2, r2⟩ := hM.m5 rfl
  have e6 := (hM.m6 rfl).2
  have e7 := (hM.m7 rfl).2
  have R1 : Hid (Rw2 w w1 lb mb n (fun j => if j < 0 then ls0 t I m j else 0) (fun j => if j < 0 then ms0 t I m j else 0)) := ⟨hM.m0, r1.congr fun j _ => by simp, r2.congr fun j _ => by simp, ne rfl mb e5, n1, n2⟩
  rw [e2] at e6
  rw [e5] at e7
  clear hM r1 r2 ne n1 n2 hmk
  simp only [fillS, List.foldl_cons, List.foldl_nil, e2, e5, e6, e7]
  clear e2 e5 e6 e7
  go_wp2_with fail
  go_loopg [10] (n + 1) (fun g1 vk wr => ∃ i : Nat, vk = .int .i64 (i : Int) ∧ i ≤ n ∧ n - i < g1 ∧ Hid (Rw2 w wr lb mb n (fun j => if j < i then ls0 t I m j else 0) (fun j => if j < i then ms0 t I m j else 0)))
  case atStart => exact ⟨0, by go_num, by omega, by omega, R1⟩
  case round =>
    clear R1
    obtain ⟨wo, rfl⟩ : ∃ wo : World, wo = wr := ⟨_, rfl⟩
    obtain ⟨i, rfl, hi, hgg, RR⟩ := hrel
    by_cases hlt : i < n
    · have hltz : (i : Int) < (n : Int) := by omega
      obtain ⟨b, off, rfl, hb, hc⟩ := (HP.out.below RR.out.below) (by omega)
      have c0 : wo.cell? ⟨b, off + i * 2, none⟩ = some (.int .i64 (t i).kd) := hc i hlt 0 (by decide)
      have JT : Hid (∀ W', Below w.heap.size w W' → W'.cell? ⟨b, off + i * 2 + 1, none⟩ = some (.int .i64 (t i).nn)) := fun W' h => by
        obtain ⟨b', off', e', hb', hc'⟩ := (HP.out.below h) (by omega)
        simp only [Option.some.injEq, Addr.mk.injEq, and_true] at e'
        obtain ⟨rfl, rfl⟩ := e'
        exact hc' i hlt 1 (by decide)
      have E1 : Hid ((t i).kd = 0 → ls0 t I m i = (t i).nn ∧ ms0 t I m i = (t i).nn) := fun h => ⟨by unfold ls0; rw [if_pos h], by unfold ms0; rw [if_pos h]⟩
      have E2 : Hid (¬ (t i).kd = 0 → ls0 t I m i = mxK (oneB I i) (fun k => (I k).mn) m ∧ ms0 t I m i = max (mxK (oneB I i) (fun k => (I k).mx) m) (mxK (oneB I i) (fun k => (I k).mn) m)) := fun h => ⟨by unfold ls0; rw [if_neg h], by unfold ms0 ls0; rw [if_neg h, if_neg h]⟩
      clear hc hb
      generalize (t i).kd = kd at *
      by_cases hkd : kd = 0
      · have d1 : (kd == 0) = true := by simpa using hkd
        obtain ⟨e1, e2⟩ := E1.out hkd
        have N1 : Hid (∀ j, j < n → (if j = i then (t i).nn else if j < i then ls0 t I m j else 0) = if j < i + 1 then ls0 t I m j else 0) := fun j _ => by
          by_cases h1 : j = i
          · subst h1; rw [if_pos rfl, if_pos (by omega), e1]
          · by_cases h2 : j < i
            · rw [if_neg h1, if_pos h2, if_pos (by omega)]
            · rw [if_neg h1, if_neg h2, if_neg (by omega)]
        have N2 : Hid (∀ j, j < n → (if j = i then (t i).nn else if j < i then ms0 t I m j else 0) = if j < i + 1 then ms0 t I m j else 0) := fun j _ => by
          by_cases h1 : j = i
          · subst h1; rw [if_pos rfl, if_pos (by omega), e2]
          · by_cases h2 : j < i
            · rw [if_neg h1, if_pos h2, if_pos (by omega)]
            · rw [if_neg h1, if_neg h2, if_neg (by omega)]
        clear e1 e2 E1 E2 hkd
        generalize (t i).nn = nn at *
        have ST0 : Hid (∀ W', Rw2 w W' lb mb n (fun j => if j < i then ls0 t I m j else 0) (fun j => if j < i then ms0 t I m j else 0) → W'.cell? ⟨lb, i, none⟩ = some (.int .i64 0) ∧ W'.frozen? ⟨lb, i, none⟩ = false ∧ Rw2 w (W'.setCell ⟨lb, i, none⟩ (.int .i64 nn)) lb mb n (fun j => if j < i + 1 then ls0 t I m j else 0) (fun j => if j < i then ms0 t I m j else 0)) := fun W' h => ⟨by have := h.l.cell hlt; rw [if_neg (Nat.lt_irrefl _)] at this; exact this, h.l.frozen _, (h.setl i nn).congr (fun j hj => N1.out j hj) (fun _ _ => rfl)⟩
        have ST1 : Hid (∀ W', Rw2 w W' lb mb n (fun j => if j < i + 1 then ls0 t I m j else 0) (fun j => if j < i then ms0 t I m j else 0) → W'.cell? ⟨mb, i, none⟩ = some (.int .i64 0) ∧ W'.frozen? ⟨mb, i, none⟩ = false ∧ Rw2 w (W'.setCell ⟨mb, i, none⟩ (.int .i64 nn)) lb mb n (fun j => if j < i + 1 then ls0 t I m j else 0) (fun j => if j < i + 1 then ms0 t I m j else 0)) := fun W' h => ⟨by have := h.m.cell hlt; rw [if_neg (Nat.lt_irrefl _)] at this; exact this, h.m.frozen _, (h.setm i nn).congr (fun _ _ => rfl) (fun j hj => N2.out j hj)⟩
        have PRE : Hid (Rw2 w wo.drew lb mb n (fun j => if j < i then ls0 t I m j else 0) (fun j => if j < i then ms0 t I m j else 0)) := RR.out.drewN 1
        clear N1 N2
        go_wp2_with fail
        refine MJ.wp_region_chain (fun W' => W'.cell? ⟨b, off + i * 2 + 1, none⟩ = some (.int .i64 nn)) [15, 17] [] (s2t (fun W' => Rw2 w W' lb mb n (fun j => if j < i then ls0 t I m j else 0) (fun j => if j < i then ms0 t I m j else 0)) (fun W' => Rw2 w W' lb mb n (fun j => if j < i + 1 then ls0 t I m j else 0) (fun j => if j < i then ms0 t I m j else 0)) (fun W' => Rw2 w W' lb mb n (fun j => if j < i + 1 then ls0 t I m j else 0) (fun j => if j < i + 1 then ms0 t I m j else 0))) (by kernel_rfl) (by kernel_rfl) (by simp) ?h0 ?hJ ?_
        case h0 => exact PRE.out
        case hJ =>
          rintro vals W' (hl | hl) hS'
          · exact s2t_J (J := fun W' => W'.cell? ⟨b, off + i * 2 + 1, none⟩ = some (.int .i64 nn)) (fun W h => JT.out W h.below) (fun W h => JT.out W h.below) vals W' hl hS'
          · exact absurd hl (by rw [show MJ.sinkL _ _ = true by kernel_rfl]; exact Bool.noConfusion)
        repeat (refine MJ.lex_calm rfl (by rfl) (fun K hK => ?_); apply Exists.intro; refine ⟨fun W' hW => ?_, ?_⟩; (dsimp only at hW; go_simp; exact rfl); go_simp; refine hK _ ?_; clear hK K)
        refine MJ.lex_chain 0 rfl (by kernel_rfl) rfl ?_ ?_
        · rintro vs W' hS'
          obtain ⟨y1, y2, y3⟩ := ST0.out W' hS'
          have y3 := hide y3
          clear hS'
          simp [go_sem, evS, List.lookup, y1, y2]
          exact y3.out
        repeat (refine MJ.lex_calm rfl (by rfl) (fun K hK => ?_); apply Exists.intro; refine ⟨fun W' hW => ?_, ?_⟩; (dsimp only at hW; go_simp; exact rfl); go_simp; refine hK _ ?_; clear hK K)
        refine MJ.lex_chain 1 rfl (by kernel_rfl) rfl ?_ ?_
        · rintro vs W' hS'
          obtain ⟨y1, y2, y3⟩ := ST1.out W' hS'
          have y3 := hide y3
          clear hS'
          simp [go_sem, evS, List.lookup, y1, y2]
          exact y3.out
        refine MJ.lex_nil ?_
        rintro vs w5 s1
        have R5 : Hid (Rw2 w w5 lb mb n (fun j => if j < i + 1 then ls0 t I m j else 0) (fun j => if j < i + 1 then ms0 t I m j else 0)) := s1
        clear s1 ST0 ST1 PRE RR
        simp only [fillS, List.foldl_nil]
        go_wp2_with fail
        go_roundg (n - i)
        case measure => omega
        case rel => exact ⟨i + 1, by go_num, by omega, by omega, R5⟩
      · have d1 : (kd == 0) = false := by simpa using hkd
        obtain ⟨e1, e2⟩ := E2.out hkd
        have EL := hide e1
        have EM := hide e2
        have R2 : Hid (Rw2 w wo lb mb n (fun j => if j = i then mxK (oneB I i) (fun k => (I k).mn) 0 else if j < i then ls0 t I m j else 0) (fun j => if j = i then mxK (oneB I i) (fun k => (I k).mx) 0 else if j < i then ms0 t I m j else 0)) := RR.out.congr (fun j _ => by
          by_cases h1 : j = i
          · subst h1; rw [if_pos rfl, if_neg (by omega)]; rfl
          · by_cases h2 : j < i
            · rw [if_neg h1, if_pos h2]
            · rw [if_neg h1, if_neg h2]) (fun j _ => by
          by_cases h1 : j = i
          · subst h1; rw [if_pos rfl, if_neg (by omega)]; rfl
          · by_cases h2 : j < i
            · rw [if_neg h1, if_pos h2]
            · rw [if_neg h1, if_neg h2])
        clear e1 e2 E1 E2 hkd RR JT
        go_wp2_with fail
        go_loopg [11] (m + 1) (fun g2 vk wr => ∃ k : Nat, vk = .int .i64 (k : Int) ∧ k ≤ m ∧ m - k < g2 ∧ Hid (Rw2 w wr lb mb n (fun j => if j = i then mxK (oneB I i) (fun k => (I k).mn) k else if j < i then ls0 t I m j else 0) (fun j => if j = i then mxK (oneB I i) (fun k => (I k).mx) k else if j < i then ms0 t I m j else 0)))
        case atStart => exact ⟨0, by go_num, by omega, by omega, R2⟩
        case round =>
          clear R2
          obtain ⟨wz, rfl⟩ : ∃ wz : World, wz = wr := ⟨_, rfl⟩
          obtain ⟨k, rfl, hk, hg2, RR⟩ := hrel
          by_cases hltk : k < m
          · have hltkz : (k : Int) < (m : Int) := by omega
            obtain ⟨b2, off2, rfl, hb, hc⟩ := (HQ.out.below RR.out.below) (by omega)
            have q0 : wz.cell? ⟨b2, off2 + k * 4, none⟩ = some (.int .i64 (I k).at_) := hc k hltk 0 (by decide)
            have q1 : wz.cell? ⟨b2, off2 + k * 4 + 1, none⟩ = some (.int .i64 (I k).sp) := hc k hltk 1 (by decide)
            have JQ : Hid (∀ W', Below w.heap.size w W' → W'.cell? ⟨b2, off2 + k * 4 + 2, none⟩ = some (.int .i64 (I k).mn) ∧ W'.cell? ⟨b2, off2 + k * 4 + 3, none⟩ = some (.int .i64 (I k).mx)) := fun W' h => by
              obtain ⟨b', off', e', hb', hc'⟩ := (HQ.out.below h) (by omega)
              simp only [Option.some.injEq, Addr.mk.injEq, and_true] at e'
              obtain ⟨rfl, rfl⟩ := e'
              exact ⟨hc' k hltk 2 (by decide), hc' k hltk 3 (by decide)⟩
            have OB : Hid (oneB I i k = (decide ((I k).sp = 1) && decide ((I k).at_ = i))) := rfl
            have KL : Hid (mxK (oneB I i) (fun k => (I k).mn) (k + 1) = if oneB I i k then max (mxK (oneB I i) (fun k => (I k).mn) k) (I k).mn else mxK (oneB I i) (fun k => (I k).mn) k) := rfl
            have KM : Hid (mxK (oneB I i) (fun k => (I k).mx) (k + 1) = if oneB I i k then max (mxK (oneB I i) (fun k => (I k).mx) k) (I k).mx else mxK (oneB I i) (fun k => (I k).mx) k) := rfl
            clear hc hb
            generalize (I k).at_ = at_ at *
            generalize (I k).sp = sp at *
            by_cases hone : sp = 1 ∧ at_ = i
            · have f1 : (sp == 1) = true := by simpa using hone.1
              have f2 : (at_ == (i : Int)) = true := by simpa using hone.2
              have ob : oneB I i k = true := by rw [OB.out, decide_eq_true hone.1, decide_eq_true hone.2]; rfl
              rw [ob] at KL KM
              simp only [if_true] at KL KM
              obtain ⟨l0, hl0⟩ : ∃ l0, l0 = mxK (oneB I i) (fun k => (I k).mn) k := ⟨_, rfl⟩
              obtain ⟨m0, hm0⟩ : ∃ m0, m0 = mxK (oneB I i) (fun k => (I k).mx) k := ⟨_, rfl⟩
              obtain ⟨a1, ha1⟩ : ∃ a1, a1 = (I k).mn := ⟨_, rfl⟩
              obtain ⟨a2, ha2⟩ : ∃ a2, a2 = (I k).mx := ⟨_, rfl⟩
              have ST0 : Hid (∀ W', Rw2 w W' lb mb n (fun j => if j = i then mxK (oneB I i) (fun k => (I k).mn) k else if j < i then ls0 t I m j else 0) (fun j => if j = i then mxK (oneB I i) (fun k => (I k).mx) k else if j < i then ms0 t I m j else 0) → W'.cell? ⟨lb, i, none⟩ = some (.int .i64 l0)) := fun W' h => by have := h.l.cell hlt; rw [if_pos rfl, ← hl0] at this; exact this
              have ST2 : Hid (∀ W', Rw2 w W' lb mb n (fun j => if j = i then mxK (oneB I i) (fun k => (I k).mn) k else if j < i then ls0 t I m j else 0) (fun j => if j = i then mxK (oneB I i) (fun k => (I k).mx) k else if j < i then ms0 t I m j else 0) → W'.cell? ⟨lb, i, none⟩ = some (.int .i64 l0) ∧ W'.frozen? ⟨lb, i, none⟩ = false ∧ Rw2 w (W'.setCell ⟨lb, i, none⟩ (.int .i64 (max l0 a1))) lb mb n (fun j => if j = i then mxK (oneB I i) (fun k => (I k).mn) (k + 1) else if j < i then ls0 t I m j else 0) (fun j => if j = i then mxK (oneB I i) (fun k => (I k).mx) k else if j < i then ms0 t I m j else 0)) := fun W' h => ⟨ST0.out W' h, h.l.frozen _, (h.setl i _).congr (fun j _ => by
                by_cases h1 : j = i
                · subst h1; rw [if_pos rfl, if_pos rfl, KL.out, hl0, ha1]
                · rw [if_neg h1, if_neg h1, if_neg h1]) (fun _ _ => rfl)⟩
              have ST3 : Hid (∀ W', Rw2 w W' lb mb n (fun j => if j = i then mxK (oneB I i) (fun k => (I k).mn) (k + 1) else if j < i then ls0 t I m j else 0) (fun j => if j = i then mxK (oneB I i) (fun k => (I k).mx) k else if j < i then ms0 t I m j else 0) → W'.cell? ⟨mb, i, none⟩ = some (.int .i64 m0) ∧ W'.frozen? ⟨mb, i, none⟩ = false ∧ Rw2 w (W'.setCell ⟨mb, i, none⟩ (.int .i64 (max m0 a2))) lb mb n (fun j => if j = i then mxK (oneB I i) (fun k => (I k).mn) (k + 1) else if j < i then ls0 t I m j else 0) (fun j => if j = i then mxK (oneB I i) (fun k => (I k).mx) (k + 1) else if j < i then ms0 t I m j else 0)) := fun W' h => ⟨by have := h.m.cell hlt; rw [if_pos rfl, ← hm0] at this; exact this, h.m.frozen _, (h.setm i _).congr (fun _ _ => rfl) (fun j _ => by
                by_cases h1 : j = i
                · subst h1; rw [if_pos rfl, if_pos rfl, KM.out, hm0, ha2]
                · rw [if_neg h1, if_neg h1, if_neg h1])⟩
              have JM : Hid (∀ W' L, Rw2 w W' lb mb n L (fun j => if j = i then mxK (oneB I i) (fun k => (I k).mx) k else if j < i then ms0 t I m j else 0) → W'.cell? ⟨mb, i, none⟩ = some (.int .i64 m0) ∧ W'.cell? ⟨b2, off2 + k * 4 + 2, none⟩ = some (.int .i64 a1) ∧ W'.cell? ⟨b2, off2 + k * 4 + 3, none⟩ = some (.int .i64 a2)) := fun W' L h => ⟨by have := h.m.cell hlt; rw [if_pos rfl, ← hm0] at this; exact this, by rw [ha1, ha2]; exact JQ.out W' h.below⟩
              have PRE : Hid (Rw2 w wz.drew lb mb n (fun j => if j = i then mxK (oneB I i) (fun k => (I k).mn) k else if j < i then ls0 t I m j else 0) (fun j => if j = i then mxK (oneB I i) (fun k => (I k).mx) k else if j < i then ms0 t I m j else 0)) := RR.out.drewN 1
              clear KL KM hone ob OB JQ hl0 hm0 ha1 ha2 RR
              go_wp2_with fail
              refine MJ.wp_region_chain (fun W' => W'.cell? ⟨mb, i, none⟩ = some (.int .i64 m0) ∧ W'.cell? ⟨b2, off2 + k * 4 + 2, none⟩ = some (.int .i64 a1) ∧ W'.cell? ⟨b2, off2 + k * 4 + 3, none⟩ = some (.int .i64 a2)) [7, 13, 25, 27] [(77, 7), (83, 13)] (s4t (fun W' => Rw2 w W' lb mb n (fun j => if j = i then mxK (oneB I i) (fun k => (I k).mn) k else if j < i then ls0 t I m j else 0) (fun j => if j = i then mxK (oneB I i) (fun k => (I k).mx) k else if j < i then ms0 t I m j else 0)) (fun W' => Rw2 w W' lb mb n (fun j => if j = i then mxK (oneB I i) (fun k => (I k).mn) (k + 1) else if j < i then ls0 t I m j else 0) (fun j => if j = i then mxK (oneB I i) (fun k => (I k).mx) k else if j < i then ms0 t I m j else 0)) (fun W' => Rw2 w W' lb mb n (fun j => if j = i then mxK (oneB I i) (fun k => (I k).mn) (k + 1) else if j < i then ls0 t I m j else 0) (fun j => if j = i then mxK (oneB I i) (fun k => (I k).mx) (k + 1) else if j < i then ms0 t I m j else 0)) l0 (max l0 a1)) (by kernel_rfl) (by kernel_rfl) (by simp) ?h0 ?hJ ?_
              case h0 => exact PRE.out
              case hJ =>
                rintro vals W' (hl | hl) hS'
                · exact s4t_J (J := fun W' => W'.cell? ⟨mb, i, none⟩ = some (.int .i64 m0) ∧ W'.cell? ⟨b2, off2 + k * 4 + 2, none⟩ = some (.int .i64 a1) ∧ W'.cell? ⟨b2, off2 + k * 4 + 3, none⟩ = some (.int .i64 a2)) (fun W h => JM.out W _ h) (fun W h => JM.out W _ h) vals W' hl hS'
                · exact absurd hl (by rw [show MJ.sinkL _ _ = true by kernel_rfl]; exact Bool.noConfusion)
              repeat (refine MJ.lex_calm rfl (by rfl) (fun K hK => ?_); apply Exists.intro; refine ⟨fun W' hW => ?_, ?_⟩; (dsimp only at hW; go_simp; exact rfl); go_simp; refine hK _ ?_; clear hK K)
              refine MJ.lex_chain 0 rfl (by kernel_rfl) rfl ?_ ?_
              · rintro vs W' hS'
                have y1 := ST0.out W' hS'
                have y3 := hide hS'
                clear hS'
                simp [go_sem, evS, List.lookup, y1]
                exact ⟨rfl, y3.out⟩
              repeat (refine MJ.lex_calm rfl (by rfl) (fun K hK => ?_); apply Exists.intro; refine ⟨fun W' hW => ?_, ?_⟩; (dsimp only at hW; go_simp; exact rfl); go_simp; refine hK _ ?_; clear hK K)
              refine MJ.lex_chain 1 rfl (by kernel_rfl) rfl ?_ ?_
              · rintro vs W' ⟨e, h⟩
                replace e : vs 7 = .int .i64 l0 := e
                have y3 := hide h
                clear h
                simp [go_sem, evS, List.lookup, e]
                exact ⟨rfl, y3.out⟩
              repeat (refine MJ.lex_calm rfl (by rfl) (fun K hK => ?_); apply Exists.intro; refine ⟨fun W' hW => ?_, ?_⟩; (dsimp only at hW; go_simp; exact rfl); go_simp; refine hK _ ?_; clear hK K)
              refine MJ.lex_chain 2 rfl (by kernel_rfl) rfl ?_ ?_
              · rintro vs W' ⟨e, h⟩
                replace e : vs 13 = .int .i64 (max l0 a1) := e
                obtain ⟨y1, y2, y3⟩ := ST2.out W' h
                have y3 := hide y3
                clear h
                simp [go_sem, evS, List.lookup, e, y1, y2]
                exact y3.out
              repeat (refine MJ.lex_calm rfl (by rfl) (fun K hK => ?_); apply Exists.intro; refine ⟨fun W' hW => ?_, ?_⟩; (dsimp only at hW; go_simp; exact rfl); go_simp; refine hK _ ?_; clear hK K)
              refine MJ.lex_chain 3 rfl (by kernel_rfl) rfl ?_ ?_
              · rintro vs W' h
                obtain ⟨y1, y2, y3⟩ := ST3.out W' h
                have y3 := hide y3
                clear h
                simp [go_sem, evS, List.lookup, y1, y2]
                exact y3.out
              refine MJ.lex_nil ?_
              rintro vs w5 s1
              have R5 : Hid (Rw2 w w5 lb mb n (fun j => if j = i then mxK (oneB I i) (fun k => (I k).mn) (k + 1) else if j < i then ls0 t I m j else 0) (fun j => if j = i then mxK (oneB I i) (fun k => (I k).mx) (k + 1) else if j < i then ms0 t I m j else 0)) := s1
              clear s1 ST0 ST2 ST3 JM PRE
              simp only [fillS, List.foldl_cons, List.foldl_nil]
              go_wp2_with fail
              go_roundg (m - k)
              case measure => omega
              case rel => exact ⟨k + 1, by go_num, by omega, by omega, R5⟩
            · have ob : oneB I i k = false := by
                rw [OB.out]
                by_cases h1 : sp = 1
                · rw [decide_eq_false (fun h => hone ⟨h1, h⟩), Bool.and_false]
                · rw [decide_eq_false h1, Bool.false_and]
              rw [ob] at KL KM
              simp only [Bool.false_eq_true, if_false] at KL KM
              have R5 : Hid (Rw2 w wz lb mb n (fun j => if j = i then mxK (oneB I i) (fun k => (I k).mn) (k + 1) else if j < i then ls0 t I m j else 0) (fun j => if j = i then mxK (oneB I i) (fun k => (I k).mx) (k + 1) else if j < i then ms0 t I m j else 0)) := RR.out.congr (fun j _ => by rw [KL.out]) (fun j _ => by rw [KM.out])
              clear KL KM ob OB JQ RR
              rcases (show ¬ sp = 1 ∨ (sp = 1 ∧ ¬ at_ = i) by omega) with h | ⟨h, h'⟩
              · have f1 : (sp == 1) = false := by simpa using h
                clear hone
                go_wp2_with fail
                go_roundg (m - k)
                case measure => omega
                case rel => exact ⟨k + 1, by go_num, by omega, by omega, R5⟩
              · have f1 : (sp == 1) = true := by simpa using h
                have f2 : (at_ == (i : Int)) = false := by simpa using h'
                clear hone
                go_wp2_with fail
                go_roundg (m - k)
                case measure => omega
                case rel => exact ⟨k + 1, by go_num, by omega, by omega, R5⟩
          · have hltkz : ¬ (k : Int) < (m : Int) := by omega
            obtain rfl : m = k := by omega
            obtain ⟨mi, hmi⟩ : ∃ mi, mi = mxK (oneB I i) (fun k => (I k).mx) m := ⟨_, rfl⟩
            obtain ⟨li, hli⟩ : ∃ li, li = mxK (oneB I i) (fun k => (I k).mn) m := ⟨_, rfl⟩
            have HMI : Hid (mxK (oneB I i) (fun k => (I k).mx) m = mi) := hmi.symm
            have HLI : Hid (mxK (oneB I i) (fun k => (I k).mn) m = li) := hli.symm
            have NEWM : Hid (∀ j, j < n → (if j = i then max mi li else if j = i then mxK (oneB I i) (fun k => (I k).mx) m else if j < i then ms0 t I m j else 0) = if j < i + 1 then ms0 t I m j else 0) := fun j _ => by
              by_cases h1 : j = i
              · subst h1; rw [if_pos rfl, if_pos (by omega), EM.out, hmi, hli]
              · by_cases h2 : j < i
                · rw [if_neg h1, if_neg h1, if_pos h2, if_pos (by omega)]
                · rw [if_neg h1, if_neg h1, if_neg h2, if_neg (by omega)]
            have NEWL : Hid (∀ j, j < n → (if j = i then mxK (oneB I i) (fun k => (I k).mn) m else if j < i then ls0 t I m j else 0) = if j < i + 1 then ls0 t I m j else 0) := fun j _ => by
              by_cases h1 : j = i
              · subst h1; rw [if_pos rfl, if_pos (by omega), EL.out]
              · by_cases h2 : j < i
                · rw [if_neg h1, if_pos h2, if_pos (by omega)]
                · rw [if_neg h1, if_neg h2, if_neg (by omega)]
            clear hmi hli EL EM
            go_wp2_with fail
            have ST0 : Hid (∀ W', Rw2 w W' lb mb n (fun j => if j = i then mxK (oneB I i) (fun k => (I k).mn) m else if j < i then ls0 t I m j else 0) (fun j => if j = i then mxK (oneB I i) (fun k => (I k).mx) m else if j < i then ms0 t I m j else 0) → W'.cell? ⟨mb, i, none⟩ = some (.int .i64 mi) ∧ W'.frozen? ⟨mb, i, none⟩ = false ∧ Rw2 w (W'.setCell ⟨mb, i, none⟩ (.int .i64 (max mi li))) lb mb n (fun j => if j = i then mxK (oneB I i) (fun k => (I k).mn) m else if j < i then ls0 t I m j else 0) (fun j => if j < i + 1 then ms0 t I m j else 0)) := fun W' h => ⟨by have := h.m.cell (i := i) hlt; rw [if_pos rfl] at this; rw [← HMI.out]; exact this, h.m.frozen _, (h.setm i _).congr (fun _ _ => rfl) (fun j hj => NEWM.out j hj)⟩
            have JJ : Hid (∀ W', Rw2 w W' lb mb n (fun j => if j = i then mxK (oneB I i) (fun k => (I k).mn) m else if j < i then ls0 t I m j else 0) (fun j => if j = i then mxK (oneB I i) (fun k => (I k).mx) m else if j < i then ms0 t I m j else 0) → W'.cell? ⟨mb, i, none⟩ = some (.int .i64 mi) ∧ W'.cell? ⟨lb, i, none⟩ = some (.int .i64 li)) := fun W' h => ⟨by have := h.m.cell (i := i) hlt; rw [if_pos rfl] at this; rw [← HMI.out]; exact this, by have := h.l.cell (i := i) hlt; rw [if_pos rfl] at this; rw [← HLI.out]; exact this⟩
            have PRE : Hid (Rw2 w wz.drew lb mb n (fun j => if j = i then mxK (oneB I i) (fun k => (I k).mn) m else if j < i then ls0 t I m j else 0) (fun j => if j = i then mxK (oneB I i) (fun k => (I k).mx) m else if j < i then ms0 t I m j else 0)) := RR.out.drewN 1
            refine MJ.wp_region_chain (fun W' => W'.cell? ⟨mb, i, none⟩ = some (.int .i64 mi) ∧ W'.cell? ⟨lb, i, none⟩ = some (.int .i64 li)) [12] [] (s1t (fun W' => Rw2 w W' lb mb n (fun j => if j = i then mxK (oneB I i) (fun k => (I k).mn) m else if j < i then ls0 t I m j else 0) (fun j => if j = i then mxK (oneB I i) (fun k => (I k).mx) m else if j < i then ms0 t I m j else 0)) (fun W' => Rw2 w W' lb mb n (fun j => if j = i then mxK (oneB I i) (fun k => (I k).mn) m else if j < i then ls0 t I m j else 0) (fun j => if j < i + 1 then ms0 t I m j else 0))) (by kernel_rfl) (by kernel_rfl) (by simp) ?h0 ?hJ ?_
            case h0 => exact PRE.out
            case hJ =>
              rintro vals W' (hl | hl) hS'
              · exact s1t_J (J := fun W' => W'.cell? ⟨mb, i, none⟩ = some (.int .i64 mi) ∧ W'.cell? ⟨lb, i, none⟩ = some (.int .i64 li)) (fun W h => JJ.out W h) vals W' hl hS'
              · exact absurd hl (by rw [show MJ.sinkL _ _ = true by kernel_rfl]; exact Bool.noConfusion)
            repeat (refine MJ.lex_calm rfl (by rfl) (fun K hK => ?_); apply Exists.intro; refine ⟨fun W' hW => ?_, ?_⟩; (dsimp only at hW; go_simp; exact rfl); go_simp; refine hK _ ?_; clear hK K)
            refine MJ.lex_chain 0 rfl (by kernel_rfl) rfl ?_ ?_
            · rintro vs W' hS'
              obtain ⟨y1, y2, y3⟩ := ST0.out W' hS'
              have y3 := hide y3
              clear hS'
              simp [go_sem, evS, List.lookup, y1, y2]
              exact y3.out
            refine MJ.lex_nil ?_
            rintro vs w5 s1
            have R5 := hide s1
            replace R5 : Hid (Rw2 w w5 lb mb n (fun j => if j = i then mxK (oneB I i) (fun k => (I k).mn) m else if j < i then ls0 t I m j else 0) (fun j => if j < i + 1 then ms0 t I m j else 0)) := R5.out
            clear s1 ST0 JJ PRE RR NEWM HMI HLI
            simp only [fillS, List.foldl_nil]
            have R6 : Hid (Rw2 w w5 lb mb n (fun j => if j < i + 1 then ls0 t I m j else 0) (fun j => if j < i + 1 then ms0 t I m j else 0)) := R5.out.congr (fun j hj => NEWL.out j hj) (fun _ _ => rfl)
            clear R5 NEWL
            go_wp2_with fail
            go_roundg (n - i)
            case measure => omega
            case rel => exact ⟨i + 1, by go_num, by omega, by omega, R6⟩
    · have hltz : ¬ (i : Int) < (n : Int) := by omega
      obtain rfl : n = i := by omega
      have R8 : Hid (Rw2 w wo lb mb n (addG t gap I n (fun k => (I k).mn) (ls0 t I m) 0) (ms0 t I m)) := RR.out.congr (fun j hj => by rw [if_pos hj]; rfl) (fun j hj => by rw [if_pos hj])
      clear RR
      go_wp2_with fail
      go_loopg [12] (m + 1) (fun g2 vk wr => ∃ k : Nat, vk = .int .i64 (k : Int) ∧ k ≤ m ∧ m - k < g2 ∧ Hid (Rw2 w wr lb mb n (addG t gap I n (fun k => (I k).mn) (ls0 t I m) k) (ms0 t I m)))
      case atStart => exact ⟨0, by go_num, by omega, by omega, R8⟩
      case round =>
        clear R8
        obtain ⟨wz, rfl⟩ : ∃ wz : World, wz = wr := ⟨_, rfl⟩
        obtain ⟨k, rfl, hk, hg2, RR⟩ := hrel
        by_cases hltk : k < m
        · have hltkz : (k : Int) < (m : Int) := by omega
          obtain ⟨b2, off2, rfl, hb, hc⟩ := (HQ.out.below RR.out.below) (by omega)
          have q1 : wz.cell? ⟨b2, off2 + k * 4 + 1, none⟩ = some (.int .i64 (I k).sp) := hc k hltk 1 (by decide)
          have JQ : Hid (∀ W', Below w.heap.size w W' → W'.cell? ⟨b2, off2 + k * 4, none⟩ = some (.int .i64 (I k).at_) ∧ W'.cell? ⟨b2, off2 + k * 4 + 1, none⟩ = some (.int .i64 (I k).sp) ∧ W'.cell? ⟨b2, off2 + k * 4 + 2, none⟩ = some (.int .i64 (I k).mn) ∧ W'.cell? ⟨b2, off2 + k * 4 + 3, none⟩ = some (.int .i64 (I k).mx)) := fun W' h => by
            obtain ⟨b', off', e', hb', hc'⟩ := (HQ.out.below h) (by omega)
            simp only [Option.some.injEq, Addr.mk.injEq, and_true] at e'
            obtain ⟨rfl, rfl⟩ := e'
            exact ⟨hc' k hltk 0 (by decide), hc' k hltk 1 (by decide), hc' k hltk 2 (by decide), hc' k hltk 3 (by decide)⟩
          have AE : Hid (addG t gap I n (fun k => (I k).mn) (ls0 t I m) (k + 1) = if 1 < (I k).sp then sprG t gap (I k).mn (I k) n (addG t gap I n (fun k => (I k).mn) (ls0 t I m) k) else addG t gap I n (fun k => (I k).mn) (ls0 t I m) k) := rfl
          clear hc hb
          by_cases hsp : 1 < (I k).sp
          · have hx := HI.out k hltk
            have SPC : Hid (∀ W', Rw2 w W' lb mb n (addG t gap I n (fun k => (I k).mn) (ls0 t I m) k) (ms0 t I m) → Calls Try.prog 51 #[.int .i64 gap, .slice p n c, itU (I k), .int .i64 (I k).mn, .slice (some ⟨lb, 0, none⟩) n n] W' fun e w' => e = .returned (.tuple #[]) ∧ Rw2 w w' lb mb n (addG t gap I n (fun k => (I k).mn) (ls0 t I m) (k + 1)) (ms0 t I m)) := fun W' h => (rspr_any gap (I k).mn p n c t (I k) lb (addG t gap I n (fun k => (I k).mn) (ls0 t I m) k) w W' HP.out h.below h.hl h.l hn HT.out hx HG.out (HI.out k hltk).1 (ABL.out k hk)).mono (by
              rintro e w' ⟨he, hr, hkp⟩
              refine ⟨he, ?_⟩
              rw [AE.out, if_pos hsp]
              exact h.keptl hr hkp)
            have PRE : Hid (Rw2 w wz.drew lb mb n (addG t gap I n (fun k => (I k).mn) (ls0 t I m) k) (ms0 t I m)) := RR.out.drewN 1
            have dsp : decide (1 < (I k).sp) = true := decide_eq_true hsp
            clear AE hx RR
            go_wp2_with fail
            refine MJ.wp_region_chain (fun W' => W'.cell? ⟨b2, off2 + k * 4, none⟩ = some (.int .i64 (I k).at_) ∧ W'.cell? ⟨b2, off2 + k * 4 + 1, none⟩ = some (.int .i64 (I k).sp) ∧ W'.cell? ⟨b2, off2 + k * 4 + 2, none⟩ = some (.int .i64 (I k).mn) ∧ W'.cell? ⟨b2, off2 + k * 4 + 3, none⟩ = some (.int .i64 (I k).mx)) [12] [(132, 12)] (s1t (fun W' => Rw2 w W' lb mb n (addG t gap I n (fun k => (I k).mn) (ls0 t I m) k) (ms0 t I m)) (fun W' => Rw2 w W' lb mb n (addG t gap I n (fun k => (I k).mn) (ls0 t I m) (k + 1)) (ms0 t I m))) (by kernel_rfl) (by kernel_rfl) (by simp) ?h0 ?hJ ?_
            case h0 => exact PRE.out
            case hJ =>
              rintro vals W' _ hS'
              exact s1t_A (J := fun W' => W'.cell? ⟨b2, off2 + k * 4, none⟩ = some (.int .i64 (I k).at_) ∧ W'.cell? ⟨b2, off2 + k * 4 + 1, none⟩ = some (.int .i64 (I k).sp) ∧ W'.cell? ⟨b2, off2 + k * 4 + 2, none⟩ = some (.int .i64 (I k).mn) ∧ W'.cell? ⟨b2, off2 + k * 4 + 3, none⟩ = some (.int .i64 (I k).mx)) (fun W h => JQ.out W h.below) (fun W h => JQ.out W h.below) vals W' hS'
            repeat (refine MJ.lex_calm rfl (by rfl) (fun K hK => ?_); apply Exists.intro; refine ⟨fun W' hW => ?_, ?_⟩; (dsimp only at hW; go_simp; exact rfl); go_simp; refine hK _ ?_; clear hK K)
            refine MJ.lex_chain 0 rfl (by kernel_rfl) rfl ?_ ?_
            · rintro vs W' hS'
              have y3 := hide (SPC.out W' hS')
              clear hS'
              simp [go_sem, evS, List.lookup]
              refine y3.out.mono ?_
              rintro e w' ⟨rfl, hR⟩
              exact ⟨_, rfl, hR⟩
            refine MJ.lex_nil ?_
            rintro vs w5 s1
            have R5 : Hid (Rw2 w w5 lb mb n (addG t gap I n (fun k => (I k).mn) (ls0 t I m) (k + 1)) (ms0 t I m)) := s1
            clear s1 SPC PRE JQ
            simp only [fillS, List.foldl_cons, List.foldl_nil]
            go_wp2_with fail
            go_roundg (m - k)
            case measure => omega
            case rel => exact ⟨k + 1, by go_num, by omega, by omega, R5⟩
          · have dsp : decide (1 < (I k).sp) = false := decide_eq_false hsp
            have R5 : Hid (Rw2 w wz lb mb n (addG t gap I n (fun k => (I k).mn) (ls0 t I m) (k + 1)) (ms0 t I m)) := by rw [AE.out, if_neg hsp]; exact RR.out
            clear AE RR JQ
            go_wp2_with fail
            go_roundg (m - k)
            case measure => omega
            case rel => exact ⟨k + 1, by go_num, by omega, by omega, R5⟩
        · have hltkz : ¬ (k : Int) < (m : Int) := by omega
          obtain rfl : m = k := by omega
          have R9 : Hid (Rw2 w wz lb mb n (addG t gap I n (fun k => (I k).mn) (ls0 t I m) m) (addG t gap I n (fun k => (I k).mx) (ms0 t I m) 0)) := RR.out.congr (fun _ _ => rfl) (fun _ _ => rfl)
          clear RR
          go_wp2_with fail
          go_loopg [13] (m + 1) (fun g2 vk wr => ∃ k : Nat, vk = .int .i64 (k : Int) ∧ k ≤ m ∧ m - k < g2 ∧ Hid (Rw2 w wr lb mb n (addG t gap I n (fun k => (I k).mn) (ls0 t I m) m) (addG t gap I n (fun k => (I k).mx) (ms0 t I m) k)))
          case atStart => exact ⟨0, by go_num, by omega, by omega, R9⟩
          case round =>
            clear R9
            obtain ⟨wz, rfl⟩ : ∃ wz : World, wz = wr := ⟨_, rfl⟩
            obtain ⟨k, rfl, hk, hg2, RR⟩ := hrel
            by_cases hltk : k < m
            · have hltkz : (k : Int) < (m : Int) := by omega
              obtain ⟨b2, off2, rfl, hb, hc⟩ := (HQ.out.below RR.out.below) (by omega)
              have q1 : wz.cell? ⟨b2, off2 + k * 4 + 1, none⟩ = some (.int .i64 (I k).sp) := hc k hltk 1 (by decide)
              have JQ : Hid (∀ W', Below w.heap.size w W' → W'.cell? ⟨b2, off2 + k * 4, none⟩ = some (.int .i64 (I k).at_) ∧ W'.cell? ⟨b2, off2 + k * 4 + 1, none⟩ = some (.int .i64 (I k).sp) ∧ W'.cell? ⟨b2, off2 + k * 4 + 2, none⟩ = some (.int .i64 (I k).mn) ∧ W'.cell? ⟨b2, off2 + k * 4 + 3, none⟩ = some (.int .i64 (I k).mx)) := fun W' h => by
                obtain ⟨b', off', e', hb', hc'⟩ := (HQ.out.below h) (by omega)
                simp only [Option.some.injEq, Addr.mk.injEq, and_true] at e'
                obtain ⟨rfl, rfl⟩ := e'
                exact ⟨hc' k hltk 0 (by decide), hc' k hltk 1 (by decide), hc' k hltk 2 (by decide), hc' k hltk 3 (by decide)⟩
              have AE : Hid (addG t gap I n (fun k => (I k).mx) (ms0 t I m) (k + 1) = if 1 < (I k).sp then sprG t gap (I k).mx (I k) n (addG t gap I n (fun k => (I k).mx) (ms0 t I m) k) else addG t gap I n (fun k => (I k).mx) (ms0 t I m) k) := rfl
              clear hc hb
              by_cases hsp : 1 < (I k).sp
              · have hx := HI.out k hltk
                have SPC : Hid (∀ W', Rw2 w W' lb mb n (addG t gap I n (fun k => (I k).mn) (ls0 t I m) m) (addG t gap I n (fun k => (I k).mx) (ms0 t I m) k) → Calls Try.prog 51 #[.int .i64 gap, .slice p n c, itU (I k), .int .i64 (I k).mx, .slice (some ⟨mb, 0, none⟩) n n] W' fun e w' => e = .returned (.tuple #[]) ∧ Rw2 w w' lb mb n (addG t gap I n (fun k => (I k).mn) (ls0 t I m) m) (addG t gap I n (fun k => (I k).mx) (ms0 t I m) (k + 1))) := fun W' h => (rspr_any gap (I k).mx p n c t (I k) mb (addG t gap I n (fun k => (I k).mx) (ms0 t I m) k) w W' HP.out h.below h.hm h.m hn HT.out hx HG.out (HI.out k hltk).2.1 (ABM.out k hk)).mono (by
                  rintro e w' ⟨he, hr, hkp⟩
                  refine ⟨he, ?_⟩
                  rw [AE.out, if_pos hsp]
                  exact h.keptm hr hkp)
                have PRE : Hid (Rw2 w wz.drew lb mb n (addG t gap I n (fun k => (I k).mn) (ls0 t I m) m) (addG t gap I n (fun k => (I k).mx) (ms0 t I m) k)) := RR.out.drewN 1
                have dsp : decide (1 < (I k).sp) = true := decide_eq_true hsp
                clear AE hx RR
                go_wp2_with fail
                refine MJ.wp_region_chain (fun W' => W'.cell? ⟨b2, off2 + k * 4, none⟩ = some (.int .i64 (I k).at_) ∧ W'.cell? ⟨b2, off2 + k * 4 + 1, none⟩ = some (.int .i64 (I k).sp) ∧ W'.cell? ⟨b2, off2 + k * 4 + 2, none⟩ = some (.int .i64 (I k).mn) ∧ W'.cell? ⟨b2, off2 + k * 4 + 3, none⟩ = some (.int .i64 (I k).mx)) [12] [(157, 12)] (s1t (fun W' => Rw2 w W' lb mb n (addG t gap I n (fun k => (I k).mn) (ls0 t I m) m) (addG t gap I n (fun k => (I k).mx) (ms0 t I m) k)) (fun W' => Rw2 w W' lb mb n (addG t gap I n (fun k => (I k).mn) (ls0 t I m) m) (addG t gap I n (fun k => (I k).mx) (ms0 t I m) (k + 1)))) (by kernel_rfl) (by kernel_rfl) (by simp) ?h0 ?hJ ?_
                case h0 => exact PRE.out
                case hJ =>
                  rintro vals W' _ hS'
                  exact s1t_A (J := fun W' => W'.cell? ⟨b2, off2 + k * 4, none⟩ = some (.int .i64 (I k).at_) ∧ W'.cell? ⟨b2, off2 + k * 4 + 1, none⟩ = some (.int .i64 (I k).sp) ∧ W'.cell? ⟨b2, off2 + k * 4 + 2, none⟩ = some (.int .i64 (I k).mn) ∧ W'.cell? ⟨b2, off2 + k * 4 + 3, none⟩ = some (.int .i64 (I k).mx)) (fun W h => JQ.out W h.below) (fun W h => JQ.out W h.below) vals W' hS'
                repeat (refine MJ.lex_calm rfl (by rfl) (fun K hK => ?_); apply Exists.intro; refine ⟨fun W' hW => ?_, ?_⟩; (dsimp only at hW; go_simp; exact rfl); go_simp; refine hK _ ?_; clear hK K)
                refine MJ.lex_chain 0 rfl (by kernel_rfl) rfl ?_ ?_
                · rintro vs W' hS'
                  have y3 := hide (SPC.out W' hS')
                  clear hS'
                  simp [go_sem, evS, List.lookup]
                  refine y3.out.mono ?_
                  rintro e w' ⟨rfl, hR⟩
                  exact ⟨_, rfl, hR⟩
                refine MJ.lex_nil ?_
                rintro vs w5 s1
                have R5 : Hid (Rw2 w w5 lb mb n (addG t gap I n (fun k => (I k).mn) (ls0 t I m) m) (addG t gap I n (fun k => (I k).mx) (ms0 t I m) (k + 1))) := s1
                clear s1 SPC PRE JQ
                simp only [fillS, List.foldl_cons, List.foldl_nil]
                go_wp2_with fail
                go_roundg (m - k)
                case measure => omega
                case rel => exact ⟨k + 1, by go_num, by omega, by omega, R5⟩
              · have dsp : decide (1 < (I k).sp) = false := decide_eq_false hsp
                have R5 : Hid (Rw2 w wz lb mb n (addG t gap I n (fun k => (I k).mn) (ls0 t I m) m) (addG t gap I n (fun k => (I k).mx) (ms0 t I m) (k + 1))) := by rw [AE.out, if_neg hsp]; exact RR.out
                clear AE RR JQ
                go_wp2_with fail
                go_roundg (m - k)
                case measure => omega
                case rel => exact ⟨k + 1, by go_num, by omega, by omega, R5⟩
            · have hltkz : ¬ (k : Int) < (m : Int) := by omega
              obtain rfl : m = k := by omega
              have R7 : Hid (Rw2 w wz lb mb n (addG t gap I n (fun k => (I k).mn) (ls0 t I m) m) (fun j => if j < 0 then mqF t gap I n m j else addG t gap I n (fun k => (I k).mx) (ms0 t I m) m j)) := RR.out.congr (fun _ _ => rfl) (fun j _ => by simp)
              have MQ : Hid (∀ j, mqF t gap I n m j = max (addG t gap I n (fun k => (I k).mx) (ms0 t I m) m j) (addG t gap I n (fun k => (I k).mn) (ls0 t I m) m j)) := fun j => rfl
              clear RR
              go_wp2_with fail
              go_loopg [14] (n + 1) (fun g1 vk wr => ∃ i : Nat, vk = .int .i64 (i : Int) ∧ i ≤ n ∧ n - i < g1 ∧ Hid (Rw2 w wr lb mb n (addG t gap I n (fun k => (I k).mn) (ls0 t I m) m) (fun j => if j < i then mqF t gap I n m j else addG t gap I n (fun k => (I k).mx) (ms0 t I m) m j)))
              case atStart => exact ⟨0, by go_num, by omega, by omega, R7⟩
              case round =>
                clear R7
                obtain ⟨wz, rfl⟩ : ∃ wz : World, wz = wr := ⟨_, rfl⟩
                obtain ⟨i, rfl, hi, hgg, RR⟩ := hrel
                by_cases hlt : i < n
                · have hltz : (i : Int) < (n : Int) := by omega
                  obtain ⟨mi, hmi⟩ : ∃ mi, mi = addG t gap I n (fun k => (I k).mx) (ms0 t I m) m i := ⟨_, rfl⟩
                  obtain ⟨li, hli⟩ : ∃ li, li = addG t gap I n (fun k => (I k).mn) (ls0 t I m) m i := ⟨_, rfl⟩
                  have HMI : Hid (addG t gap I n (fun k => (I k).mx) (ms0 t I m) m i = mi) := hmi.symm
                  have HLI : Hid (addG t gap I n (fun k => (I k).mn) (ls0 t I m) m i = li) := hli.symm
                  have NEWM : Hid (∀ j, j < n → (if j = i then max mi li else if j < i then mqF t gap I n m j else addG t gap I n (fun k => (I k).mx) (ms0 t I m) m j) = if j < i + 1 then mqF t gap I n m j else addG t gap I n (fun k => (I k).mx) (ms0 t I m) m j) := fun j _ => by
                    by_cases h1 : j = i
                    · subst h1; rw [if_pos rfl, if_pos (by omega), MQ.out, hmi, hli]
                    · by_cases h2 : j < i
                      · rw [if_neg h1, if_pos h2, if_pos (by omega)]
                      · rw [if_neg h1, if_neg h2, if_neg (by omega)]
                  clear hmi hli
                  go_wp2_with fail
                  have ST0 : Hid (∀ W', Rw2 w W' lb mb n (addG t gap I n (fun k => (I k).mn) (ls0 t I m) m) (fun j => if j < i then mqF t gap I n m j else addG t gap I n (fun k => (I k).mx) (ms0 t I m) m j) → W'.cell? ⟨mb, i, none⟩ = some (.int .i64 mi) ∧ W'.frozen? ⟨mb, i, none⟩ = false ∧ Rw2 w (W'.setCell ⟨mb, i, none⟩ (.int .i64 (max mi li))) lb mb n (addG t gap I n (fun k => (I k).mn) (ls0 t I m) m) (fun j => if j < i + 1 then mqF t gap I n m j else addG t gap I n (fun k => (I k).mx) (ms0 t I m) m j)) := fun W' h => ⟨by have := h.m.cell (i := i) hlt; rw [if_neg (Nat.lt_irrefl _)] at this; rw [← HMI.out]; exact this, h.m.frozen _, (h.setm i _).congr (fun _ _ => rfl) (fun j hj => NEWM.out j hj)⟩
                  have JJ : Hid (∀ W', Rw2 w W' lb mb n (addG t gap I n (fun k => (I k).mn) (ls0 t I m) m) (fun j => if j < i then mqF t gap I n m j else addG t gap I n (fun k => (I k).mx) (ms0 t I m) m j) → W'.cell? ⟨mb, i, none⟩ = some (.int .i64 mi) ∧ W'.cell? ⟨lb, i, none⟩ = some (.int .i64 li)) := fun W' h => ⟨by have := h.m.cell (i := i) hlt; rw [if_neg (Nat.lt_irrefl _)] at this; rw [← HMI.out]; exact this, by rw [← HLI.out]; exact h.l.cell (i := i) hlt⟩
                  have PRE : Hid (Rw2 w wz.drew lb mb n (addG t gap I n (fun k => (I k).mn) (ls0 t I m) m) (fun j => if j < i then mqF t gap I n m j else addG t gap I n (fun k => (I k).mx) (ms0 t I m) m j)) := RR.out.drewN 1
                  refine MJ.wp_region_chain (fun W' => W'.cell? ⟨mb, i, none⟩ = some (.int .i64 mi) ∧ W'.cell? ⟨lb, i, none⟩ = some (.int .i64 li)) [12] [] (s1t (fun W' => Rw2 w W' lb mb n (addG t gap I n (fun k => (I k).mn) (ls0 t I m) m) (fun j => if j < i then mqF t gap I n m j else addG t gap I n (fun k => (I k).mx) (ms0 t I m) m j)) (fun W' => Rw2 w W' lb mb n (addG t gap I n (fun k => (I k).mn) (ls0 t I m) m) (fun j => if j < i + 1 then mqF t gap I n m j else addG t gap I n (fun k => (I k).mx) (ms0 t I m) m j))) (by kernel_rfl) (by kernel_rfl) (by simp) ?h0 ?hJ ?_
                  case h0 => exact PRE.out
                  case hJ =>
                    rintro vals W' (hl | hl) hS'
                    · exact s1t_J (J := fun W' => W'.cell? ⟨mb, i, none⟩ = some (.int .i64 mi) ∧ W'.cell? ⟨lb, i, none⟩ = some (.int .i64 li)) (fun W h => JJ.out W h) vals W' hl hS'
                    · exact absurd hl (by rw [show MJ.sinkL _ _ = true by kernel_rfl]; exact Bool.noConfusion)
                  repeat (refine MJ.lex_calm rfl (by rfl) (fun K hK => ?_); apply Exists.intro; refine ⟨fun W' hW => ?_, ?_⟩; (dsimp only at hW; go_simp; exact rfl); go_simp; refine hK _ ?_; clear hK K)
                  refine MJ.lex_chain 0 rfl (by kernel_rfl) rfl ?_ ?_
                  · rintro vs W' hS'
                    obtain ⟨y1, y2, y3⟩ := ST0.out W' hS'
                    have y3 := hide y3
                    clear hS'
                    simp [go_sem, evS, List.lookup, y1, y2]
                    exact y3.out
                  refine MJ.lex_nil ?_
                  rintro vs w5 s1
                  have R5 := hide s1
                  replace R5 : Hid (Rw2 w w5 lb mb n (addG t gap I n (fun k => (I k).mn) (ls0 t I m) m) (fun j => if j < i + 1 then mqF t gap I n m j else addG t gap I n (fun k => (I k).mx) (ms0 t I m) m j)) := R5.out
                  clear s1 ST0 JJ PRE RR NEWM HMI HLI
                  simp only [fillS, List.foldl_nil]
                  go_wp2_with fail
                  go_roundg (n - i)
                  case measure => omega
                  case rel => exact ⟨i + 1, by go_num, by omega, by omega, R5⟩
                · have hltz : ¬ (i : Int) < (n : Int) := by omega
                  obtain rfl : n = i := by omega
                  go_wp2_with fail
                  go_ret2
                  first
                    | exact ⟨lb, mb, rfl, RR.out.congr (fun _ _ => rfl) (fun j hj => by rw [if_pos hj])⟩
                    | exact ⟨lb, rfl, mb, RR.out.congr (fun _ _ => rfl) (fun j hj => by rw [if_pos hj])⟩
                    | exact ⟨lb, mb, ⟨rfl, rfl⟩, RR.out.congr (fun _ _ => rfl) (fun j hj => by rw [if_pos hj])⟩
end Go.Proofs.Ytdoenkngmgclmaa
