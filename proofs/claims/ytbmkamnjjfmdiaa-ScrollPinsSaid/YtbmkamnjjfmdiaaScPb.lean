/- What validRows and validSections of package scroll return; no condition but on sizes. -/
import Derived.Test.YtbmkamnjjfmdiaaScPa
namespace Go.Proofs.Ytbmkamnjjfmdiaa
open Go.RowKit Go.Sort
set_option linter.unusedVariables false
set_option linter.unusedSimpArgs false

set_option maxHeartbeats 4000000 in
theorem pvr_any (p : Option Addr) (n c : Nat) (l : Nat → Stp) (w : World) (hp : SRow w p n 2 (stC l)) (hn : n ≤ 9223372036854775807) : Calls Try.prog 23 #[.slice p n c] w fun e w' => e = .returned (.bool (rowsB n l)) ∧ Below w.heap.size w w' := by
  by_cases hl : 10000 < n
  · have e : rowsB n l = false := by unfold rowsB; rw [decide_eq_false (by omega)]; rfl
    have hz : (10000 : Int) < (n : Int) := by omega
    rw [e]
    clear hp e
    go_enter Try.func23, Try.ntmps23
    go_wp2_with fail
    go_ret
    exact ⟨rfl, Below.refl _ _⟩
  have hz : ¬ (10000 : Int) < (n : Int) := by omega
  have HP := hide hp
  have BAD : Hid (∀ i, i < n → szRB (l i).h = false → rowsB n l = false) := fun i hi h => by
    show _ = _
    unfold rowsB
    rw [alF_bad hi h, Bool.and_false]
  have ALL : Hid ((∀ i, i < n → szRB (l i).h = true) → rowsB n l = true) := fun h => by
    show _ = _
    unfold rowsB
    rw [decide_eq_true (show n ≤ 10000 by omega), alF_iff.2 h]; rfl
  generalize rowsB n l = rb at *
  have B0 : Hid (Below w.heap.size w w) := Below.refl _ _
  clear hp
  go_enter Try.func23, Try.ntmps23
  go_wp2_with fail
  go_loopg [10] (n + 1) (fun g1 vk wr => ∃ k : Nat, vk = .int .i64 (k : Int) ∧ k ≤ n ∧ n - k < g1 ∧ Hid (∀ i, i < k → szRB (l i).h = true) ∧ Hid (Below w.heap.size w wr))
  case atStart => exact ⟨0, by go_num, by omega, by omega, fun i hi => absurd hi (Nat.not_lt_zero _), B0⟩
  case round =>
    clear B0
    obtain ⟨wo, rfl⟩ : ∃ wo : World, wo = wr := ⟨_, rfl⟩
    obtain ⟨k, rfl, hk, hg, OK, BB⟩ := hrel
    by_cases hlt : k < n
    · have hltz : (k : Int) < (n : Int) := by omega
      have hk0 : (0 : Int) ≤ (k : Int) := by omega
      obtain ⟨b, off, rfl, hb, hc⟩ := (HP.out.below BB.out) (by omega)
      have c0 : wo.cell? ⟨b, off + k * 2, none⟩ = some (.string (l k).k) := hc k hlt 0 (by decide)
      have c1 : wo.cell? ⟨b, off + k * 2 + 1, none⟩ = some (.int .i64 (l k).h) := hc k hlt 1 (by decide)
      have F1 : Hid (szRB (l k).h = true → ∀ i, i < k + 1 → szRB (l i).h = true) := fun hs i hi => by
        by_cases e : i = k
        · subst e; exact hs
        · exact OK.out i (by omega)
      have F2 : Hid (szRB (l k).h = false → rowsB n l = rb → rb = false) := fun hs e => by
        rw [← BAD.out k hlt hs]
      have F3 : Hid (szRB (l k).h = false → rb = false) := fun hs => BAD.out k hlt hs
      clear F2 hc hb OK
      generalize (l k).h = y at *
      generalize (l k).k = ky at *
      have M1 : ∀ o, Hid (Calls Try.prog 22 #[.slice (some ⟨wo.heap.size + 1, 0, none⟩) 1 1] ((wo.alloc o).alloc (.cells #[.int .i64 y] 3)) fun e w' => e = .returned (.bool (inRB y)) ∧ (wo.alloc o).alloc (.cells #[.int .i64 y] 3) = w') := fun o => by
        have := inr1 y (wo.alloc o)
        rw [World.size_alloc] at this
        exact hide this
      have t1 : ∀ o, ((wo.alloc (.cells #[.string ky, .int .i64 y] 38)).alloc o).cell? ⟨wo.heap.size, 1, none⟩ = some (.int .i64 y) := fun o =>
        ((Blk.new (T := 38) (vs := [.string ky, .int .i64 y]) (W := wo) rfl).alloc o).cell 1 rfl
      have B2 : Hid (∀ o o', Below w.heap.size w ((wo.alloc o).alloc o')) := fun o o' => (BB.out.alloc BB.out.size o).alloc (by rw [World.size_alloc]; have := BB.out.size; omega) o'
      clear BAD ALL BB
      cases hi : inRB y with
      | false =>
        have e9 := hide (F3.out (not_inr hi))
        simp only [hi] at M1
        clear hi F1 F3
        go_wp2_with fail
        refine (M1 _).out.mono ?_
        rintro e w' ⟨rfl, rfl⟩
        go_wp2_with fail
        go_ret
        exact ⟨ret_bool e9.out.symm, B2.out _ _⟩
      | true =>
        simp only [hi] at M1
        by_cases hs : y < 0
        · have d1 : decide (y < 0) = true := decide_eq_true hs
          have e9 := hide (F3.out (sz_neg hs))
          clear hi F1 F3
          go_wp2_with fail
          refine (M1 _).out.mono ?_
          rintro e w' ⟨rfl, rfl⟩
          go_wp2_with fail
          go_ret
          exact ⟨ret_bool e9.out.symm, B2.out _ _⟩
        · have d1 : decide (y < 0) = false := decide_eq_false hs
          have OK2 := hide (F1.out (inr_sz hi (by omega)))
          clear hi F1 F3
          go_wp2_with fail
          refine (M1 _).out.mono ?_
          rintro e w' ⟨rfl, rfl⟩
          go_wp2_with fail
          go_roundg (n - k)
          case measure => exact hg
          case rel => exact ⟨k + 1, by go_num, by omega, by omega, OK2, B2.out _ _⟩
    · have hltz : ¬ (k : Int) < (n : Int) := by omega
      obtain rfl : n = k := by omega
      have e9 := hide (ALL.out OK.out)
      clear BAD ALL OK
      go_wp2_with fail
      go_ret
      exact ⟨ret_bool e9.out.symm, BB.out⟩
def scB (l : Nat → Sct) (n : Nat) : Bool := decide (n ≤ 10000) && alF (fun i => (inRB (l i).tp && szRB (l i).ht) && szRB (l i).hd) n
theorem pi_sc {n : Nat} {l : Nat → Sct} {o : Int} : piB n l o = (inRB o && scB l n) := by unfold piB scB; rw [Bool.and_assoc]
set_option maxHeartbeats 4000000 in
theorem pvs_any (p : Option Addr) (n c : Nat) (l : Nat → Sct) (w : World) (hp : SRow w p n 3 (scC l)) : Calls Try.prog 28 #[.slice p n c] w fun e w' => e = .returned (.bool (scB l n)) ∧ Below w.heap.size w w' := by
  by_cases hl : 10000 < n
  · have e : scB l n = false := by unfold scB; rw [decide_eq_false (by omega)]; rfl
    have hz : (10000 : Int) < (n : Int) := by omega
    rw [e]
    clear hp e
    go_enter Try.func28, Try.ntmps28
    go_wp2_with fail
    go_ret
    exact ⟨rfl, Below.refl _ _⟩
  have hz : ¬ (10000 : Int) < (n : Int) := by omega
  have HP := hide hp
  have BAD : Hid (∀ i, i < n → okS l i = false → scB l n = false) := fun i hi h => by
    show _ = _
    unfold scB
    rw [alF_bad (P := fun i => (inRB (l i).tp && szRB (l i).ht) && szRB (l i).hd) hi h, Bool.and_false]
  have ALL : Hid ((∀ i, i < n → okS l i = true) → scB l n = true) := fun h => by
    show _ = _
    unfold scB
    rw [decide_eq_true (show n ≤ 10000 by omega), show alF (fun i => (inRB (l i).tp && szRB (l i).ht) && szRB (l i).hd) n = true from alF_iff.2 h]; rfl
  generalize scB l n = rb at *
  have B0 : Hid (Below w.heap.size w w) := Below.refl _ _
  clear hp
  go_enter Try.func28, Try.ntmps28
  go_wp2_with fail
  go_loopg [10] (n + 1) (fun g1 vk wr => ∃ k : Nat, vk = .int .i64 (k : Int) ∧ k ≤ n ∧ n - k < g1 ∧ Hid (∀ i, i < k → okS l i = true) ∧ Hid (Below w.heap.size w wr))
  case atStart => exact ⟨0, by go_num, by omega, by omega, fun i hi => absurd hi (Nat.not_lt_zero _), B0⟩
  case round =>
    clear B0
    obtain ⟨wo, rfl⟩ : ∃ wo : World, wo = wr := ⟨_, rfl⟩
    obtain ⟨k, rfl, hk, hg, OK, BB⟩ := hrel
    by_cases hlt : k < n
    · have hltz : (k : Int) < (n : Int) := by omega
      have hk0 : (0 : Int) ≤ (k : Int) := by omega
      obtain ⟨b, off, rfl, hb, hc⟩ := (HP.out.below BB.out) (by omega)
      have c0 : wo.cell? ⟨b, off + k * 3, none⟩ = some (.int .i64 (l k).tp) := hc k hlt 0 (by decide)
      have c1 : wo.cell? ⟨b, off + k * 3 + 1, none⟩ = some (.int .i64 (l k).ht) := hc k hlt 1 (by decide)
      have c2 : wo.cell? ⟨b, off + k * 3 + 2, none⟩ = some (.int .i64 (l k).hd) := hc k hlt 2 (by decide)
      have F1 : Hid (((inRB (l k).tp && szRB (l k).ht) && szRB (l k).hd) = true → ∀ i, i < k + 1 → okS l i = true) := fun hs i hi => by
        by_cases e : i = k
        · subst e; exact hs
        · exact OK.out i (by omega)
      have F3 : Hid (((inRB (l k).tp && szRB (l k).ht) && szRB (l k).hd) = false → rb = false) := fun hs => BAD.out k hlt hs
      clear hc hb OK
      generalize (l k).tp = x at *
      generalize (l k).ht = y at *
      generalize (l k).hd = z at *
      have M1 : ∀ o, Hid (Calls Try.prog 22 #[.slice (some ⟨wo.heap.size + 1, 0, none⟩) 3 3] ((wo.alloc o).alloc (.cells #[.int .i64 x, .int .i64 y, .int .i64 z] 3)) fun e w' => e = .returned (.bool ((inRB x && inRB y) && inRB z)) ∧ (wo.alloc o).alloc (.cells #[.int .i64 x, .int .i64 y, .int .i64 z] 3) = w') := fun o => by
        have := inr3 x y z (wo.alloc o)
        rw [World.size_alloc] at this
        exact hide this
      have BL : ∀ o, Blk ((wo.alloc (.cells #[.int .i64 x, .int .i64 y, .int .i64 z] 43)).alloc o) wo.heap.size 43 [.int .i64 x, .int .i64 y, .int .i64 z] := fun o =>
        (Blk.new (T := 43) (vs := [.int .i64 x, .int .i64 y, .int .i64 z]) (W := wo) rfl).alloc o
      have t1 : ∀ o, ((wo.alloc (.cells #[.int .i64 x, .int .i64 y, .int .i64 z] 43)).alloc o).cell? ⟨wo.heap.size, 1, none⟩ = some (.int .i64 y) := fun o => (BL o).cell 1 rfl
      have t2 : ∀ o, ((wo.alloc (.cells #[.int .i64 x, .int .i64 y, .int .i64 z] 43)).alloc o).cell? ⟨wo.heap.size, 2, none⟩ = some (.int .i64 z) := fun o => (BL o).cell 2 rfl
      have B2 : Hid (∀ o o', Below w.heap.size w ((wo.alloc o).alloc o')) := fun o o' => (BB.out.alloc BB.out.size o).alloc (by rw [World.size_alloc]; have := BB.out.size; omega) o'
      clear BAD ALL BB BL
      cases hi : (inRB x && inRB y) && inRB z with
      | false =>
        have e9 := hide (F3.out (by
          cases q : (inRB x && szRB y) && szRB z with
          | false => rfl
          | true =>
            simp only [Bool.and_eq_true] at q
            rw [q.1.1, sz_inr q.1.2, sz_inr q.2] at hi
            exact Bool.noConfusion hi))
        simp only [hi] at M1
        clear hi F1 F3
        go_wp2_with fail
        refine (M1 _).out.mono ?_
        rintro e w' ⟨rfl, rfl⟩
        go_wp2_with fail
        go_ret
        exact ⟨ret_bool e9.out.symm, B2.out _ _⟩
      | true =>
        simp only [hi] at M1
        simp only [Bool.and_eq_true] at hi
        obtain ⟨⟨i1, i2⟩, i3⟩ := hi
        by_cases hs : y < 0
        · have d1 : decide (y < 0) = true := decide_eq_true hs
          have e9 := hide (F3.out (by rw [sz_neg hs, Bool.and_false, Bool.false_and]))
          clear i1 i2 i3 F1 F3
          go_wp2_with fail
          refine (M1 _).out.mono ?_
          rintro e w' ⟨rfl, rfl⟩
          go_wp2_with fail
          go_ret
          exact ⟨ret_bool e9.out.symm, B2.out _ _⟩
        have d1 : decide (y < 0) = false := decide_eq_false hs
        by_cases hs2 : z < 0
        · have d2 : decide (z < 0) = true := decide_eq_true hs2
          have e9 := hide (F3.out (by rw [sz_neg hs2, Bool.and_false]))
          clear i1 i2 i3 F1 F3
          go_wp2_with fail
          refine (M1 _).out.mono ?_
          rintro e w' ⟨rfl, rfl⟩
          go_wp2_with fail
          go_ret
          exact ⟨ret_bool e9.out.symm, B2.out _ _⟩
        have d2 : decide (z < 0) = false := decide_eq_false hs2
        have OK2 := hide (F1.out (by rw [i1, inr_sz i2 (by omega), inr_sz i3 (by omega)]; rfl))
        clear i1 i2 i3 F1 F3
        go_wp2_with fail
        refine (M1 _).out.mono ?_
        rintro e w' ⟨rfl, rfl⟩
        go_wp2_with fail
        go_roundg (n - k)
        case measure => exact hg
        case rel => exact ⟨k + 1, by go_num, by omega, by omega, OK2, B2.out _ _⟩
    · have hltz : ¬ (k : Int) < (n : Int) := by omega
      obtain rfl : n = k := by omega
      have e9 := hide (ALL.out OK.out)
      clear BAD ALL OK
      go_wp2_with fail
      go_ret
      exact ⟨ret_bool e9.out.symm, BB.out⟩
end Go.Proofs.Ytbmkamnjjfmdiaa
