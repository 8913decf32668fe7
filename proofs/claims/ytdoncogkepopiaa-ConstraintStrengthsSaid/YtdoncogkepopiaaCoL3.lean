/- Satisfied of the reference; no condition. -/
import Derived.Test.YtdoncogkepopiaaCoL2
namespace Go.Proofs.Ytdoncogkepopiaa
open Go.RowKit Go.Sort
set_option linter.unusedVariables false
set_option linter.unusedSimpArgs false

def satB (x : Nat → Int) (c : Cn) : Bool := if c.rel = 0 then decide (vF x c.b + c.cc ≤ vF x c.a) else if c.rel = 1 then decide (vF x c.a ≤ vF x c.b + c.cc) else decide (vF x c.a = vF x c.b + c.cc)
theorem satB_iff {x : Nat → Int} {c : Cn} (h : 0 ≤ c.rel ∧ c.rel ≤ 2) : satB x c = true ↔ satG x c := by
  unfold satB satG
  by_cases h0 : c.rel = 0
  · rw [if_pos h0]
    constructor
    · intro q
      have := of_decide_eq_true q
      exact ⟨fun _ => this, fun q2 => absurd h0 q2⟩
    · intro q
      exact decide_eq_true (q.1 (by omega))
  · rw [if_neg h0]
    by_cases h1 : c.rel = 1
    · rw [if_pos h1]
      constructor
      · intro q
        have := of_decide_eq_true q
        exact ⟨fun q2 => absurd h1 q2, fun _ => by omega⟩
      · intro q
        have := q.2 h0
        exact decide_eq_true (by omega)
    · rw [if_neg h1]
      constructor
      · intro q
        have := of_decide_eq_true q
        exact ⟨fun _ => by omega, fun _ => by omega⟩
      · intro q
        have a := q.1 h1
        have b := q.2 h0
        exact decide_eq_true (by omega)
theorem vF_bd {n : Nat} {x : Nat → Int} (hb : ∀ i, i < n → 0 ≤ x i ∧ x i ≤ 1048576) {i : Int} (hi : i < n) : 0 ≤ vF x i ∧ vF x i ≤ 1048576 := by
  unfold vF
  split
  · omega
  · exact hb _ (by omega)
theorem below_grown (w : World) (n : Nat) (os : Array Obj) : Below w.heap.size w (grow (w.drewN n) os) :=
  ⟨rfl, rfl, rfl, by simp [grow], fun k hk => heap_grow_old (w.drewN n) os (k := k) hk⟩
set_option maxHeartbeats 4000000 in
theorem rSat_any (p : Option Addr) (n d : Nat) (x : Nat → Int) (c : Cn) (w : World) (hr : Reads w p n x) (hb : ∀ i, i < n → 0 ≤ x i ∧ x i ≤ 1048576) (hc : okC n c) :
    Calls Try.prog 17 #[.slice p n d, cnU c] w fun e w' => e = .returned (.bool (satB x c)) ∧ Below w.heap.size w w' ∧ ∃ q os, w' = grow (w.drewN q) os := by
  have G := hide (fun o => (Below.refl w.heap.size w).alloc (Nat.le_refl _) o)
  have V : Hid (∀ (o : Obj) (k : Nat) (i : Int), i < n → Calls Try.prog 30 #[.slice p n d, .int .i64 i] ((w.alloc o).drewN k) fun e w' => e = .returned (.int .i64 (vF x i)) ∧ w' = (w.alloc o).drewN k) := fun o k i hi => (rval_any p n d x i ((w.alloc o).drewN k) (hr.below (w' := (w.alloc o).drewN k) ⟨(G.out o).os, (G.out o).tape, (G.out o).output, (G.out o).size, (G.out o).block⟩) hi).mono (by rintro e w' ⟨h1, h2⟩; exact ⟨h1, h2.symm⟩)
  obtain ⟨⟨⟨_, ha2⟩, _, hb2⟩, ⟨r1, r2⟩, ⟨cc1, cc2⟩, _, _⟩ := hc
  have A1 := vF_bd hb ha2
  have B1 := vF_bd hb hb2
  obtain ⟨A1a, A1b⟩ := A1
  obtain ⟨B1a, B1b⟩ := B1
  have K1 := hide (fun k i hi => V.out (.cells #[.int .i64 c.a, .int .i64 c.b, .int .i64 c.rel, .int .i64 c.cc, .int .i64 c.st] 40) k i hi)
  have S : Hid (satB x c = if c.rel = 0 then decide (vF x c.b + c.cc ≤ vF x c.a) else if c.rel = 1 then decide (vF x c.a ≤ vF x c.b + c.cc) else decide (vF x c.a = vF x c.b + c.cc)) := rfl
  have w1 : IntKind.i64.wrap (vF x c.b + c.cc) = vF x c.b + c.cc := wr (by omega) (by omega)
  generalize satB x c = sv at *
  obtain ⟨x0, x1, x2, x3, x4⟩ := c
  dsimp only at *
  clear hr hb V
  have T := hide (Blk.new (W := w) (T := 40) (vs := [.int .i64 x0, .int .i64 x1, .int .i64 x2, .int .i64 x3, .int .i64 x4]) rfl)
  have t0 := T.out.cell 0 rfl
  have t1 := T.out.cell 1 rfl
  have t2 := T.out.cell 2 rfl
  have t3 := T.out.cell 3 rfl
  go_enter Try.func17, Try.ntmps17
  go_wp2_with fail
  have t4 := T.out.cell 4 rfl
  have GB := hide (G.out (.cells #[.int .i64 x0, .int .i64 x1, .int .i64 x2, .int .i64 x3, .int .i64 x4] 40))
  have GW : Hid (∀ k, ∃ q os, (w.alloc (.cells #[.int .i64 x0, .int .i64 x1, .int .i64 x2, .int .i64 x3, .int .i64 x4] 40)).drewN k = grow (w.drewN q) os) := fun k => ⟨k, #[.cells #[.int .i64 x0, .int .i64 x1, .int .i64 x2, .int .i64 x3, .int .i64 x4] 40], by rw [alloc_eq_grow]; rfl⟩
  clear G T
  generalize w.alloc (.cells #[.int .i64 x0, .int .i64 x1, .int .i64 x2, .int .i64 x3, .int .i64 x4] 40) = w5 at *
  go_quiet ((go_at_call 30; exact Calls.quiet_of_same (K1.out _ _ (by assumption))))
  have u2 : (w5.drewN nq).cell? ⟨w.heap.size, 2, none⟩ = some (.int .i64 x2) := t2
  have GC : Hid (Below w.heap.size w (w5.drewN nq)) := ⟨GB.out.os, GB.out.tape, GB.out.output, GB.out.size, GB.out.block⟩
  have GX := hide (GW.out nq)
  clear GW K1 t0 t1 t2 t3 t4 GB
  generalize w5.drewN nq = w6 at *
  by_cases h0 : x2 = 0
  · have e0 : (x2 == 0) = true := by simpa using h0
    have SV := S.out
    rw [if_pos h0] at SV
    subst SV
    clear S h0
    go_wp2_with fail
    go_ret
    exact ⟨rfl, GC.out, GX.out⟩
  have e0 : (x2 == 0) = false := by simpa using h0
  by_cases h1 : x2 = 1
  · have e1 : (x2 == 1) = true := by simpa using h1
    have SV := S.out
    rw [if_neg h0, if_pos h1] at SV
    subst SV
    clear S h0 h1
    go_wp2_with fail
    go_ret
    exact ⟨rfl, GC.out, GX.out⟩
  have e1 : (x2 == 1) = false := by simpa using h1
  have SV := S.out
  rw [if_neg h0, if_neg h1] at SV
  subst SV
  clear S h0 h1
  go_wp2_with fail
  go_ret
  exact ⟨rfl, GC.out, GX.out⟩
end Go.Proofs.Ytdoncogkepopiaa
