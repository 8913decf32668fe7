/- What inRange, Clamp, Reveal, validRows and validSections of package scroll return; no condition but on sizes. -/
import Derived.Test.YtbmkamnjjfmdiaaScR4
import Derived.BigQuiet
namespace Go.Proofs.Ytbmkamnjjfmdiaa
open Go.RowKit Go.Sort
set_option linter.unusedVariables false
set_option linter.unusedSimpArgs false

theorem inr_any (p : Option Addr) (n c : Nat) (f : Nat → Int) (w : World) (hn : n ≤ 1048576) (hr : Reads w p n f) :
    Calls Try.prog 22 #[.slice p n c] w fun e w' => e = .returned (.bool (alF (fun i => inRB (f i)) n)) ∧ w = w' := by
  rcases Nat.eq_zero_or_pos n with rfl | hp
  · clear hr
    go_enter Try.func22, Try.ntmps22
    go_wp2
    refine wp_loop_rounds 1 ?_
    rw [rounds_succ]
    go_wp2
    go_ret
    exact ⟨rfl, rfl⟩
  · obtain ⟨b, off, rfl, hc⟩ := hr hp
    have HC := hide hc
    clear hr hc
    go_enter Try.func22, Try.ntmps22
    go_wp2
    go_loop [7] (fun i => ∃ k : Nat, k ≤ n ∧ i = .int .i64 k ∧ Hid (alF (fun i => inRB (f i)) k = true)) (fun i => n - (intOf i).toNat)
    case atStart => exact ⟨0, Nat.zero_le _, rfl, rfl⟩
    case round =>
      obtain ⟨k, hk, rfl, T⟩ := hrel
      by_cases hlt : k < n
      · have hltz : (k : Int) < (n : Int) := by omega
        have ck := HC.out k hlt
        cases hl : inRB (f k) with
        | true =>
          have T2 : Hid (alF (fun i => inRB (f i)) (k + 1) = true) := by show _ = _; rw [alF, T.out, hl]; rfl
          obtain ⟨x1, x2⟩ := inR_iff.1 hl
          have d1 : decide (f k < -1099511627776) = false := decide_eq_false (by omega)
          have d2 : decide (1099511627776 < f k) = false := decide_eq_false (by omega)
          clear hl T
          generalize f k = y at *
          go_wp2
          go_round
          case rel => exact ⟨k + 1, by omega, by go_num, T2⟩
          case measure => simp [intOf]; omega
        | false =>
          have e9 := hide (alF_bad (P := fun i => inRB (f i)) hlt hl)
          by_cases h1 : f k < -1099511627776
          · have d1 : decide (f k < -1099511627776) = true := decide_eq_true h1
            clear hl T
            generalize f k = y at *
            go_wp2
            go_ret
            exact ⟨ret_bool e9.out.symm, rfl⟩
          · have h2 : 1099511627776 < f k := by
              have : ¬ (inRB (f k) = true) := by rw [hl]; decide
              rw [inR_iff] at this
              omega
            have d1 : decide (f k < -1099511627776) = false := decide_eq_false h1
            have d2 : decide (1099511627776 < f k) = true := decide_eq_true h2
            clear hl T
            generalize f k = y at *
            go_wp2
            go_ret
            exact ⟨ret_bool e9.out.symm, rfl⟩
      · have hltz : ¬ (k : Int) < (n : Int) := by omega
        obtain rfl : n = k := by omega
        go_wp2
        go_ret
        exact ⟨ret_bool T.out.symm, rfl⟩
theorem inr1 (a : Int) (w : World) : Calls Try.prog 22 #[.slice (some ⟨w.heap.size, 0, none⟩) 1 1] (w.alloc (.cells #[.int .i64 a] 3)) fun e w' => e = .returned (.bool (inRB a)) ∧ (w.alloc (.cells #[.int .i64 a] 3)) = w' := by
  have h := inr_any (some ⟨w.heap.size, 0, none⟩) 1 1 (fun i => a) (w.alloc (.cells #[.int .i64 a] 3)) (by omega) (IRow.new w 1 (fun i => a)).reads
  have e : alF (fun i => inRB ((fun i => a) i)) 1 = (inRB a) := by simp [alF]
  rw [e] at h
  exact h
theorem inr2 (a b : Int) (w : World) : Calls Try.prog 22 #[.slice (some ⟨w.heap.size, 0, none⟩) 2 2] (w.alloc (.cells #[.int .i64 a, .int .i64 b] 3)) fun e w' => e = .returned (.bool (inRB a && inRB b)) ∧ (w.alloc (.cells #[.int .i64 a, .int .i64 b] 3)) = w' := by
  have h := inr_any (some ⟨w.heap.size, 0, none⟩) 2 2 (fun i => if i = 0 then a else b) (w.alloc (.cells #[.int .i64 a, .int .i64 b] 3)) (by omega) (IRow.new w 2 (fun i => if i = 0 then a else b)).reads
  have e : alF (fun i => inRB ((fun i => if i = 0 then a else b) i)) 2 = (inRB a && inRB b) := by simp [alF]
  rw [e] at h
  exact h
theorem inr3 (a b c : Int) (w : World) : Calls Try.prog 22 #[.slice (some ⟨w.heap.size, 0, none⟩) 3 3] (w.alloc (.cells #[.int .i64 a, .int .i64 b, .int .i64 c] 3)) fun e w' => e = .returned (.bool ((inRB a && inRB b) && inRB c)) ∧ (w.alloc (.cells #[.int .i64 a, .int .i64 b, .int .i64 c] 3)) = w' := by
  have h := inr_any (some ⟨w.heap.size, 0, none⟩) 3 3 (fun i => if i = 0 then a else if i = 1 then b else c) (w.alloc (.cells #[.int .i64 a, .int .i64 b, .int .i64 c] 3)) (by omega) (IRow.new w 3 (fun i => if i = 0 then a else if i = 1 then b else c)).reads
  have e : alF (fun i => inRB ((fun i => if i = 0 then a else if i = 1 then b else c) i)) 3 = ((inRB a && inRB b) && inRB c) := by simp [alF]
  rw [e] at h
  exact h
theorem inr4 (a b c d : Int) (w : World) : Calls Try.prog 22 #[.slice (some ⟨w.heap.size, 0, none⟩) 4 4] (w.alloc (.cells #[.int .i64 a, .int .i64 b, .int .i64 c, .int .i64 d] 3)) fun e w' => e = .returned (.bool (((inRB a && inRB b) && inRB c) && inRB d)) ∧ (w.alloc (.cells #[.int .i64 a, .int .i64 b, .int .i64 c, .int .i64 d] 3)) = w' := by
  have h := inr_any (some ⟨w.heap.size, 0, none⟩) 4 4 (fun i => if i = 0 then a else if i = 1 then b else if i = 2 then c else d) (w.alloc (.cells #[.int .i64 a, .int .i64 b, .int .i64 c, .int .i64 d] 3)) (by omega) (IRow.new w 4 (fun i => if i = 0 then a else if i = 1 then b else if i = 2 then c else d)).reads
  have e : alF (fun i => inRB ((fun i => if i = 0 then a else if i = 1 then b else if i = 2 then c else d) i)) 4 = (((inRB a && inRB b) && inRB c) && inRB d) := by simp [alF]
  rw [e] at h
  exact h
theorem inr_sz {x : Int} (h : inRB x = true) (h2 : 0 ≤ x) : szRB x = true := szR_iff.2 ⟨h2, (inR_iff.1 h).2⟩
theorem sz_inr {x : Int} (h : szRB x = true) : inRB x = true := by have := szR_iff.1 h; exact inR_iff.2 ⟨by omega, this.2⟩
theorem sz_neg {x : Int} (h : x < 0) : szRB x = false := by
  cases q : szRB x with
  | false => rfl
  | true => have := (szR_iff.1 q).1; omega
theorem not_inr {x : Int} (h : inRB x = false) : szRB x = false := by
  cases q : szRB x with
  | false => rfl
  | true => rw [sz_inr q] at h; exact Bool.noConfusion h
set_option maxHeartbeats 2000000 in
theorem pcl_any (o c h : Int) (w : World) : Calls Try.prog 14 #[.int .i64 o, .int .i64 c, .int .i64 h] w fun e w' => e = .returned (.int .i64 (ocF o c h)) ∧ Below w.heap.size w w' := by
  have G := hide (fun o => (Below.refl w.heap.size w).alloc (Nat.le_refl _) o)
  have M := hide (inr3 o c h w)
  cases hv : (inRB o && inRB c) && inRB h with
  | false =>
    have e : ocF o c h = 0 := by
      unfold ocF
      rw [if_neg]
      intro q
      rw [Bool.and_eq_true] at q
      rw [q.1, sz_inr q.2] at hv
      exact Bool.noConfusion hv
    rw [e]
    rw [hv] at M
    clear hv e
    go_enter Try.func14, Try.ntmps14
    go_wp2_with fail
    refine M.out.mono ?_
    rintro e w' ⟨rfl, rfl⟩
    go_wp2_with fail
    go_ret
    exact ⟨rfl, G.out _⟩
  | true =>
    rw [hv] at M
    obtain ⟨q1, q2⟩ := (Bool.and_eq_true _ _).mp hv
    obtain ⟨q0, q1⟩ := (Bool.and_eq_true _ _).mp q1
    by_cases hh : h < 0
    · have e : ocF o c h = 0 := by unfold ocF; rw [sz_neg hh, Bool.and_false]; rfl
      have d1 : decide (h < 0) = true := decide_eq_true hh
      rw [e]
      clear hv e q0 q1 q2
      go_enter Try.func14, Try.ntmps14
      go_wp2_with fail
      refine M.out.mono ?_
      rintro e w' ⟨rfl, rfl⟩
      go_wp2_with fail
      go_ret
      exact ⟨rfl, G.out _⟩
    have d1 : decide (h < 0) = false := decide_eq_false hh
    have z : szRB h = true := inr_sz q2 (by omega)
    have e : ocF o c h = if c ≤ h then 0 else clampS o 0 (c - h) := by unfold ocF; rw [q0, q1, z]; rfl
    obtain ⟨c1, c2⟩ := inR_iff.1 q1
    obtain ⟨z1, z2⟩ := szR_iff.1 z
    rw [e]
    clear hv e q0 q1 q2 z
    by_cases hle : c ≤ h
    · rw [if_pos hle]
      have d : decide (c ≤ h) = true := decide_eq_true hle
      go_enter Try.func14, Try.ntmps14
      go_wp2_with fail
      refine M.out.mono ?_
      rintro e w' ⟨rfl, rfl⟩
      go_wp2_with fail
      go_ret
      exact ⟨rfl, G.out _⟩
    · rw [if_neg hle]
      have d : decide (c ≤ h) = false := decide_eq_false hle
      have wc : IntKind.i64.wrap (c - h) = c - h := wr (by omega) (by omega)
      have KC := fun W => hide (Clamp_any o 0 (c - h) W)
      go_enter Try.func14, Try.ntmps14
      go_wp2_with fail
      refine M.out.mono ?_
      rintro e w' ⟨rfl, rfl⟩
      go_wp2_with fail
      refine (KC _).out.mono ?_
      rintro e w' ⟨rfl, hw⟩
      subst hw
      go_wp2_with fail
      go_ret
      exact ⟨rfl, G.out _⟩
set_option maxHeartbeats 4000000 in
theorem pre_any (o h a x : Int) (w : World) : Calls Try.prog 16 #[.int .i64 o, .int .i64 h, .int .i64 a, .int .i64 x] w fun e w' => e = .returned (.int .i64 (reF o h a x)) ∧ Below w.heap.size w w' := by
  have G := hide (fun o => (Below.refl w.heap.size w).alloc (Nat.le_refl _) o)
  have M := hide (inr4 o h a x w)
  cases hv : ((inRB o && inRB h) && inRB a) && inRB x with
  | false =>
    have e : reF o h a x = 0 := by
      unfold reF
      rw [if_neg]
      intro q
      simp only [Bool.and_eq_true] at q
      rw [q.1.1.1, sz_inr q.1.1.2, q.1.2, q.2] at hv
      exact Bool.noConfusion hv
    rw [e]
    rw [hv] at M
    clear hv e
    go_enter Try.func16, Try.ntmps16
    go_wp2_with fail
    refine M.out.mono ?_
    rintro e w' ⟨rfl, rfl⟩
    go_wp2_with fail
    go_ret
    exact ⟨rfl, G.out _⟩
  | true =>
    rw [hv] at M
    simp only [Bool.and_eq_true] at hv
    obtain ⟨⟨⟨q0, q1⟩, q2⟩, q3⟩ := hv
    by_cases hh : h < 0
    · have e : reF o h a x = 0 := by unfold reF; rw [sz_neg hh, Bool.and_false]; rfl
      have d1 : decide (h < 0) = true := decide_eq_true hh
      rw [e]
      clear e q0 q1 q2 q3
      go_enter Try.func16, Try.ntmps16
      go_wp2_with fail
      refine M.out.mono ?_
      rintro e w' ⟨rfl, rfl⟩
      go_wp2_with fail
      go_ret
      exact ⟨rfl, G.out _⟩
    have d0 : decide (h < 0) = false := decide_eq_false hh
    have z : szRB h = true := inr_sz q1 (by omega)
    have e : reF o h a x = if a < o ∨ h < x then a else if o + h < a + x then a + x - h else o := by unfold reF; rw [q0, z, q2, q3]; rfl
    obtain ⟨o1, o2⟩ := inR_iff.1 q0
    obtain ⟨z1, z2⟩ := szR_iff.1 z
    obtain ⟨a1, a2⟩ := inR_iff.1 q2
    obtain ⟨x1, x2⟩ := inR_iff.1 q3
    have wa : IntKind.i64.wrap (a + x) = a + x := wr (by omega) (by omega)
    have wo : IntKind.i64.wrap (o + h) = o + h := wr (by omega) (by omega)
    have wh : IntKind.i64.wrap (a + x - h) = a + x - h := wr (by omega) (by omega)
    rw [e]
    clear e q0 q1 q2 q3 z
    by_cases p1 : a < o
    · rw [if_pos (Or.inl p1)]
      have d : decide (a < o) = true := decide_eq_true p1
      go_enter Try.func16, Try.ntmps16
      go_wp2_with fail
      refine M.out.mono ?_
      rintro e w' ⟨rfl, rfl⟩
      go_wp2_with fail
      go_ret
      exact ⟨rfl, G.out _⟩
    have d1 : decide (a < o) = false := decide_eq_false p1
    by_cases p2 : h < x
    · rw [if_pos (Or.inr p2)]
      have d : decide (h < x) = true := decide_eq_true p2
      go_enter Try.func16, Try.ntmps16
      go_wp2_with fail
      refine M.out.mono ?_
      rintro e w' ⟨rfl, rfl⟩
      go_wp2_with fail
      go_ret
      exact ⟨rfl, G.out _⟩
    have d2 : decide (h < x) = false := decide_eq_false p2
    rw [if_neg (fun q => by rcases q with q | q; exact p1 q; exact p2 q)]
    by_cases p3 : o + h < a + x
    · rw [if_pos p3]
      have d : decide (o + h < a + x) = true := decide_eq_true p3
      go_enter Try.func16, Try.ntmps16
      go_wp2_with fail
      refine M.out.mono ?_
      rintro e w' ⟨rfl, rfl⟩
      go_wp2_with fail
      go_ret
      exact ⟨rfl, G.out _⟩
    rw [if_neg p3]
    have d : decide (o + h < a + x) = false := decide_eq_false p3
    go_enter Try.func16, Try.ntmps16
    go_wp2_with fail
    refine M.out.mono ?_
    rintro e w' ⟨rfl, rfl⟩
    go_wp2_with fail
    go_ret
    exact ⟨rfl, G.out _⟩
end Go.Proofs.Ytbmkamnjjfmdiaa
