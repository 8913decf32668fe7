/- What Align of the reference of package box returns; no condition. -/
import Derived.Test.YtjaapdkhjgolfaaBoB
namespace Go.Proofs.Ytjaapdkhjgolfaa
open Go.RowKit Go.Sort
set_option linter.unusedVariables false
set_option linter.unusedSimpArgs false

def alX (al av sz : Int) : Int := if al = 3 then av else sz
def alP (al av sz : Int) : Int := if al = 1 then av - sz else if al = 2 then flr (av - sz) 2 else 0
def alOk (al av sz : Int) : Prop := (0 ≤ av ∧ av ≤ 1048576) ∧ (0 ≤ sz ∧ sz ≤ 1048576) ∧ 0 ≤ al ∧ al ≤ 4
def alA (al av sz : Int) (r : Bool) : Int := if r then av - alX al av sz - alP al av sz else alP al av sz
theorem half_bd {x : Int} (h1 : -1048576 ≤ x) (h2 : x ≤ 1048576) : -1048576 ≤ flr x 2 ∧ flr x 2 ≤ 1048576 := by
  unfold flr
  rw [Int.fdiv_eq_ediv_of_nonneg _ (by omega)]
  omega
set_option maxHeartbeats 4000000 in
theorem rAlign_ok (al av sz : Int) (r : Bool) (w : World) (h : alOk al av sz) :
    Calls Try.prog 23 #[.int .i64 al, .int .i64 av, .int .i64 sz, .bool r] w fun e w' => e = .returned (.tuple #[.int .i64 (alA al av sz r), .int .i64 (alX al av sz)]) ∧ w = w' := by
  obtain ⟨h1, h2, h3, h4⟩ := h
  have L1 := fun W => hide (rlength_any av W)
  have L2 := fun W => hide (rlength_any sz W)
  have e1 : lenB av = true := decide_eq_true h1
  have e2 : lenB sz = true := decide_eq_true h2
  rw [e1] at L1
  rw [e2] at L2
  clear e1 e2
  obtain ⟨h1, h1'⟩ := h1
  obtain ⟨h2, h2'⟩ := h2
  have F := fun W => hide (rFloor_in (av - sz) 2 W ⟨by omega, by omega, by omega⟩)
  have fb := half_bd (x := av - sz) (by omega) (by omega)
  generalize hq : flr (av - sz) 2 = q at F fb
  obtain ⟨fb1, fb2⟩ := fb
  have hal : al = 0 ∨ al = 1 ∨ al = 2 ∨ al = 3 ∨ al = 4 := by omega
  clear h3 h4
  rcases hal with rfl | rfl | rfl | rfl | rfl <;> cases r
  all_goals
    unfold alA alX alP
    simp only [hq]
    clear hq
    simp only [Int.reduceEq, if_true, if_false, Bool.false_eq_true]
    go_enter Try.func23, Try.ntmps23
    go_wp2_with fail
    refine (L1 _).out.mono ?_
    rintro e w' ⟨rfl, rfl⟩
    go_wp2_with fail
    refine (L2 _).out.mono ?_
    rintro e w' ⟨rfl, rfl⟩
    go_wp2_with fail
    try (refine (F _).out.mono ?_; rintro e w' ⟨rfl, rfl⟩; go_wp2_with fail)
    go_ret2
    exact ⟨by simp, rfl⟩
set_option maxHeartbeats 4000000 in
theorem rAlign_err (al av sz : Int) (r : Bool) (w : World) (h : ¬ alOk al av sz) :
    Calls Try.prog 23 #[.int .i64 al, .int .i64 av, .int .i64 sz, .bool r] w fun e w' => e = .returned (.tuple #[.int .i64 0, .int .i64 0]) ∧ w = w' := by
  have L1 := fun W => hide (rlength_any av W)
  have L2 := fun W => hide (rlength_any sz W)
  unfold alOk at h
  by_cases h1 : 0 ≤ av ∧ av ≤ 1048576
  · have e1 : lenB av = true := decide_eq_true h1
    rw [e1] at L1
    by_cases h2 : 0 ≤ sz ∧ sz ≤ 1048576
    · have e2 : lenB sz = true := decide_eq_true h2
      rw [e2] at L2
      clear e1 e2
      by_cases h3 : al < 0
      · clear h h1 h2
        go_enter Try.func23, Try.ntmps23
        go_wp2_with fail
        refine (L1 _).out.mono ?_
        rintro e w' ⟨rfl, rfl⟩
        go_wp2_with fail
        refine (L2 _).out.mono ?_
        rintro e w' ⟨rfl, rfl⟩
        go_wp2_with fail
        go_ret2
        exact ⟨by simp, rfl⟩
      · have h4 : 4 < al := by omega
        clear h h1 h2
        go_enter Try.func23, Try.ntmps23
        go_wp2_with fail
        refine (L1 _).out.mono ?_
        rintro e w' ⟨rfl, rfl⟩
        go_wp2_with fail
        refine (L2 _).out.mono ?_
        rintro e w' ⟨rfl, rfl⟩
        go_wp2_with fail
        go_ret2
        exact ⟨by simp, rfl⟩
    · have e2 : lenB sz = false := decide_eq_false h2
      rw [e2] at L2
      clear e1 e2 h h1 h2
      go_enter Try.func23, Try.ntmps23
      go_wp2_with fail
      refine (L1 _).out.mono ?_
      rintro e w' ⟨rfl, rfl⟩
      go_wp2_with fail
      refine (L2 _).out.mono ?_
      rintro e w' ⟨rfl, rfl⟩
      go_wp2_with fail
      go_ret2
      exact ⟨by simp, rfl⟩
  · have e1 : lenB av = false := decide_eq_false h1
    rw [e1] at L1
    clear e1 h h1
    go_enter Try.func23, Try.ntmps23
    go_wp2_with fail
    refine (L1 _).out.mono ?_
    rintro e w' ⟨rfl, rfl⟩
    go_wp2_with fail
    go_ret2
    exact ⟨by simp, rfl⟩
end Go.Proofs.Ytjaapdkhjgolfaa
