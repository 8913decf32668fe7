/- What value, raise and valid of the reference of package constraint return; no condition but on the variables' numbers. -/
import Derived.Test.YtdoncogkepopiaaCoM
import Derived.Test.YtdoncogkepopiaaKep
import Derived.Test.YtdoncogkepopiaaFxShare
namespace Go.Proofs.Ytdoncogkepopiaa
open Go.RowKit Go.Sort
set_option linter.unusedVariables false
set_option linter.unusedSimpArgs false

theorem rval_any (p : Option Addr) (n c : Nat) (x : Nat → Int) (i : Int) (w : World) (hr : Reads w p n x) (hi : i < n) :
    Calls Try.prog 30 #[.slice p n c, .int .i64 i] w fun e w' => e = .returned (.int .i64 (vF x i)) ∧ w = w' := by
  by_cases h : i < 0
  · rw [vF_neg h]
    clear hr
    go_enter Try.func30, Try.ntmps30
    go_wp2_with fail
    go_ret
    exact ⟨rfl, rfl⟩
  · rw [vF_pos (by omega)]
    obtain ⟨k, rfl⟩ : ∃ k : Nat, i = (k : Int) := ⟨i.toNat, by omega⟩
    obtain ⟨b, off, rfl, hc⟩ := hr (by omega)
    have ck := hc k (by omega)
    have h0 : (0 : Int) ≤ (k : Int) := by omega
    rw [Int.toNat_natCast]
    clear hc
    go_enter Try.func30, Try.ntmps30
    go_wp2_with fail
    go_ret
    exact ⟨rfl, rfl⟩
set_option maxHeartbeats 2000000 in
theorem rraise_any (b n c : Nat) (x : Nat → Int) (i nn : Int) (w : World) (hr : IRow w b n x) (hi : i < n) :
    Calls Try.prog 37 #[.slice (some ⟨b, 0, none⟩) n c, .int .i64 i, .int .i64 nn] w fun e w' => e = .returned (.tuple #[.bool (chF x i nn), .bool (poF x i nn)]) ∧ IRow w' b n (raF x i nn) ∧ Kept b w w' := by
  by_cases h : i < 0
  · have e1 : chF x i nn = false := by unfold chF; rw [decide_eq_false (show ¬ 0 ≤ i by omega)]; rfl
    have e2 : poF x i nn = decide (nn ≤ 0) := by unfold poF; rw [if_pos h]
    have hR := hide (hr.congr fun j _ => (ra_same (nn := nn) e1 j).symm)
    rw [e1, e2]
    clear hr e1 e2
    generalize raF x i nn = rx at *
    go_enter Try.func37, Try.ntmps37
    go_wp2_with fail
    go_ret2
    exact ⟨rfl, hR.out, Kept.refl _ _⟩
  · obtain ⟨k, rfl⟩ : ∃ k : Nat, i = (k : Int) := ⟨i.toNat, by omega⟩
    have h0 : (0 : Int) ≤ (k : Int) := by omega
    have ck := hr.cell (i := k) (by omega)
    by_cases hn : nn ≤ x k
    · have e1 : chF x (k : Int) nn = false := by unfold chF; rw [vF_nat, decide_eq_false (show ¬ x k < nn by omega), Bool.and_false]
      have e2 : poF x (k : Int) nn = true := by unfold poF; rw [if_neg h, vF_nat, if_pos hn]
      have hR := hide (hr.congr fun j _ => (ra_same (nn := nn) e1 j).symm)
      rw [e1, e2]
      clear hr e1 e2
      generalize raF x (k : Int) nn = rx at *
      generalize x k = xk at *
      go_enter Try.func37, Try.ntmps37
      go_wp2_with fail
      go_ret2
      exact ⟨rfl, hR.out, Kept.refl _ _⟩
    · have e1 : chF x (k : Int) nn = true := by unfold chF; rw [vF_nat, decide_eq_true h0, decide_eq_true (show x k < nn by omega)]; rfl
      have e2 : poF x (k : Int) nn = decide (nn ≤ 1048576) := by unfold poF; rw [if_neg h, vF_nat, if_neg hn]
      have hR : Hid (IRow (w.setCell ⟨b, k, none⟩ (.int .i64 nn)) b n (raF x (k : Int) nn)) := (hr.set_ k nn).congr fun j _ => by
        unfold raF
        rw [e1, Int.toNat_natCast]
        by_cases q : j = k
        · rw [if_pos q, if_pos ⟨rfl, q⟩]
        · rw [if_neg q, if_neg (fun q2 => q q2.2)]
      have hK : Hid (Kept b w (w.setCell ⟨b, k, none⟩ (.int .i64 nn))) := (Kept.refl b w).set _ _
      have fz := hr.frozen k
      rw [e1, e2]
      clear hr e1 e2
      generalize raF x (k : Int) nn = rx at *
      generalize x k = xk at *
      go_enter Try.func37, Try.ntmps37
      go_wp2_with fail
      go_ret2
      exact ⟨rfl, hR.out, hK.out⟩
abbrev cnU (x : Cn) : Value := .agg #[.int .i64 x.a, .int .i64 x.b, .int .i64 x.rel, .int .i64 x.cc, .int .i64 x.st]
noncomputable def okCB (vars : Int) (x : Cn) : Bool := open Classical in decide (okC vars x)
theorem okCB_iff (vars : Int) (x : Cn) : okCB vars x = true ↔ okC vars x := by
  unfold okCB
  exact @decide_eq_true_iff _ (Classical.propDecidable _)
set_option maxHeartbeats 8000000 in
set_option maxRecDepth 100000 in
theorem rvalid_any (vars : Int) (x : Cn) (w : World) :
    Calls Try.prog 28 #[.int .i64 vars, cnU x] w fun e w' => e = .returned (.bool (okCB vars x)) ∧ Below w.heap.size w w' := by
  have G := hide (fun o => (Below.refl w.heap.size w).alloc (Nat.le_refl _) o)
  have YES : Hid (okC vars x → okCB vars x = true) := fun h => (okCB_iff vars x).2 h
  have NO : Hid (¬ okC vars x → okCB vars x = false) := fun h => by
    show _ = _
    cases q : okCB vars x with
    | false => rfl
    | true => exact absurd ((okCB_iff vars x).1 q) h
  generalize okCB vars x = v at *
  obtain ⟨x0, x1, x2, x3, x4⟩ := x
  unfold okC at YES NO
  dsimp only at *
  by_cases a0 : -1 ≤ x0
  case neg =>
    have e9 := NO.out (by omega)
    have d_a0 : decide (-1 ≤ x0) = false := decide_eq_false a0
    clear YES NO
    rw [e9]
    go_enter Try.func28, Try.ntmps28
    go_wp2_with fail
    go_ret
    exact ⟨rfl, G.out _⟩
  by_cases a1 : x0 < vars
  case neg =>
    have e9 := NO.out (by omega)
    have d_a0 : decide (-1 ≤ x0) = true := decide_eq_true a0
    have d_a1 : decide (x0 < vars) = false := decide_eq_false a1
    clear YES NO
    rw [e9]
    go_enter Try.func28, Try.ntmps28
    go_wp2_with fail
    go_ret
    exact ⟨rfl, G.out _⟩
  by_cases a2 : -1 ≤ x1
  case neg =>
    have e9 := NO.out (by omega)
    have d_a0 : decide (-1 ≤ x0) = true := decide_eq_true a0
    have d_a1 : decide (x0 < vars) = true := decide_eq_true a1
    have d_a2 : decide (-1 ≤ x1) = false := decide_eq_false a2
    clear YES NO
    rw [e9]
    go_enter Try.func28, Try.ntmps28
    go_wp2_with fail
    go_ret
    exact ⟨rfl, G.out _⟩
  by_cases a3 : x1 < vars
  case neg =>
    have e9 := NO.out (by omega)
    have d_a0 : decide (-1 ≤ x0) = true := decide_eq_true a0
    have d_a1 : decide (x0 < vars) = true := decide_eq_true a1
    have d_a2 : decide (-1 ≤ x1) = true := decide_eq_true a2
    have d_a3 : decide (x1 < vars) = false := decide_eq_false a3
    clear YES NO
    rw [e9]
    go_enter Try.func28, Try.ntmps28
    go_wp2_with fail
    go_ret
    exact ⟨rfl, G.out _⟩
  by_cases a4 : 0 ≤ x2
  case neg =>
    have e9 := NO.out (by omega)
    have d_a0 : decide (-1 ≤ x0) = true := decide_eq_true a0
    have d_a1 : decide (x0 < vars) = true := decide_eq_true a1
    have d_a2 : decide (-1 ≤ x1) = true := decide_eq_true a2
    have d_a3 : decide (x1 < vars) = true := decide_eq_true a3
    have d_a4 : decide (0 ≤ x2) = false := decide_eq_false a4
    clear YES NO
    rw [e9]
    go_enter Try.func28, Try.ntmps28
    go_wp2_with fail
    go_ret
    exact ⟨rfl, G.out _⟩
  by_cases a5 : x2 ≤ 2
  case neg =>
    have e9 := NO.out (by omega)
    have d_a0 : decide (-1 ≤ x0) = true := decide_eq_true a0
    have d_a1 : decide (x0 < vars) = true := decide_eq_true a1
    have d_a2 : decide (-1 ≤ x1) = true := decide_eq_true a2
    have d_a3 : decide (x1 < vars) = true := decide_eq_true a3
    have d_a4 : decide (0 ≤ x2) = true := decide_eq_true a4
    have d_a5 : decide (x2 ≤ 2) = false := decide_eq_false a5
    clear YES NO
    rw [e9]
    go_enter Try.func28, Try.ntmps28
    go_wp2_with fail
    go_ret
    exact ⟨rfl, G.out _⟩
  by_cases a6 : -1048576 ≤ x3
  case neg =>
    have e9 := NO.out (by omega)
    have d_a0 : decide (-1 ≤ x0) = true := decide_eq_true a0
    have d_a1 : decide (x0 < vars) = true := decide_eq_true a1
    have d_a2 : decide (-1 ≤ x1) = true := decide_eq_true a2
    have d_a3 : decide (x1 < vars) = true := decide_eq_true a3
    have d_a4 : decide (0 ≤ x2) = true := decide_eq_true a4
    have d_a5 : decide (x2 ≤ 2) = true := decide_eq_true a5
    have d_a6 : decide (-1048576 ≤ x3) = false := decide_eq_false a6
    clear YES NO
    rw [e9]
    go_enter Try.func28, Try.ntmps28
    go_wp2_with fail
    go_ret
    exact ⟨rfl, G.out _⟩
  by_cases a7 : x3 ≤ 1048576
  case neg =>
    have e9 := NO.out (by omega)
    have d_a0 : decide (-1 ≤ x0) = true := decide_eq_true a0
    have d_a1 : decide (x0 < vars) = true := decide_eq_true a1
    have d_a2 : decide (-1 ≤ x1) = true := decide_eq_true a2
    have d_a3 : decide (x1 < vars) = true := decide_eq_true a3
    have d_a4 : decide (0 ≤ x2) = true := decide_eq_true a4
    have d_a5 : decide (x2 ≤ 2) = true := decide_eq_true a5
    have d_a6 : decide (-1048576 ≤ x3) = true := decide_eq_true a6
    have d_a7 : decide (x3 ≤ 1048576) = false := decide_eq_false a7
    clear YES NO
    rw [e9]
    go_enter Try.func28, Try.ntmps28
    go_wp2_with fail
    go_ret
    exact ⟨rfl, G.out _⟩
  by_cases a8 : 0 ≤ x4
  case neg =>
    have e9 := NO.out (by omega)
    have d_a0 : decide (-1 ≤ x0) = true := decide_eq_true a0
    have d_a1 : decide (x0 < vars) = true := decide_eq_true a1
    have d_a2 : decide (-1 ≤ x1) = true := decide_eq_true a2
    have d_a3 : decide (x1 < vars) = true := decide_eq_true a3
    have d_a4 : decide (0 ≤ x2) = true := decide_eq_true a4
    have d_a5 : decide (x2 ≤ 2) = true := decide_eq_true a5
    have d_a6 : decide (-1048576 ≤ x3) = true := decide_eq_true a6
    have d_a7 : decide (x3 ≤ 1048576) = true := decide_eq_true a7
    have d_a8 : decide (0 ≤ x4) = false := decide_eq_false a8
    clear YES NO
    rw [e9]
    go_enter Try.func28, Try.ntmps28
    go_wp2_with fail
    go_ret
    exact ⟨rfl, G.out _⟩
  by_cases a9 : x4 ≤ 3
  case neg =>
    have e9 := NO.out (by omega)
    have d_a0 : decide (-1 ≤ x0) = true := decide_eq_true a0
    have d_a1 : decide (x0 < vars) = true := decide_eq_true a1
    have d_a2 : decide (-1 ≤ x1) = true := decide_eq_true a2
    have d_a3 : decide (x1 < vars) = true := decide_eq_true a3
    have d_a4 : decide (0 ≤ x2) = true := decide_eq_true a4
    have d_a5 : decide (x2 ≤ 2) = true := decide_eq_true a5
    have d_a6 : decide (-1048576 ≤ x3) = true := decide_eq_true a6
    have d_a7 : decide (x3 ≤ 1048576) = true := decide_eq_true a7
    have d_a8 : decide (0 ≤ x4) = true := decide_eq_true a8
    have d_a9 : decide (x4 ≤ 3) = false := decide_eq_false a9
    clear YES NO
    rw [e9]
    go_enter Try.func28, Try.ntmps28
    go_wp2_with fail
    go_ret
    exact ⟨rfl, G.out _⟩
  have e9 := YES.out (by omega)
  have d_a0 : decide (-1 ≤ x0) = true := decide_eq_true a0
  have d_a1 : decide (x0 < vars) = true := decide_eq_true a1
  have d_a2 : decide (-1 ≤ x1) = true := decide_eq_true a2
  have d_a3 : decide (x1 < vars) = true := decide_eq_true a3
  have d_a4 : decide (0 ≤ x2) = true := decide_eq_true a4
  have d_a5 : decide (x2 ≤ 2) = true := decide_eq_true a5
  have d_a6 : decide (-1048576 ≤ x3) = true := decide_eq_true a6
  have d_a7 : decide (x3 ≤ 1048576) = true := decide_eq_true a7
  have d_a8 : decide (0 ≤ x4) = true := decide_eq_true a8
  have d_a9 : decide (x4 ≤ 3) = true := decide_eq_true a9
  clear YES NO
  rw [e9]
  go_enter Try.func28, Try.ntmps28
  go_wp2_with fail
  go_ret
  exact ⟨rfl, G.out _⟩
end Go.Proofs.Ytdoncogkepopiaa
