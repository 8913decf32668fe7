/- Toward package box's Resolve: the checks, limited, weight, the natural sizes; rows of elements that come in. -/
import Derived.Test.YtjaapdkhjgolfaaBoPA
import Derived.Test.YtjaapdkhjgolfaaBoC
import Derived.Test.YtjaapdkhjgolfaaMixJ
import Derived.Test.YtjaapdkhjgolfaaBoOf
import Derived.BigQuiet
namespace Go.Proofs.Ytjaapdkhjgolfaa
open Go.RowKit Go.Sort
set_option linter.unusedVariables false
set_option linter.unusedSimpArgs false

theorem lens2_ (a b : Int) (w : World) : Calls Try.prog 34 #[.slice (some ⟨w.heap.size, 0, none⟩) 2 2] (w.alloc (.cells #[.int .i64 a, .int .i64 b] 3)) fun e w' => e = .returned (.bool (lenB a && lenB b)) ∧ w.alloc (.cells #[.int .i64 a, .int .i64 b] 3) = w' := by
  have h := lengths_any (some ⟨w.heap.size, 0, none⟩) 2 2 (fun i => if i = 0 then a else b) (w.alloc (.cells #[.int .i64 a, .int .i64 b] 3)) (by omega) (IRow.new w 2 (fun i => if i = 0 then a else b)).reads
  have e : lensB (fun i => if i = 0 then a else b) 2 = (lenB a && lenB b) := by simp [lensB]
  rw [e] at h
  exact h
theorem lens3_ (a b c : Int) (w : World) : Calls Try.prog 34 #[.slice (some ⟨w.heap.size, 0, none⟩) 3 3] (w.alloc (.cells #[.int .i64 a, .int .i64 b, .int .i64 c] 3)) fun e w' => e = .returned (.bool (lenB a && lenB b && lenB c)) ∧ w.alloc (.cells #[.int .i64 a, .int .i64 b, .int .i64 c] 3) = w' := by
  have h := lengths_any (some ⟨w.heap.size, 0, none⟩) 3 3 (fun i => if i = 0 then a else if i = 1 then b else c) (w.alloc (.cells #[.int .i64 a, .int .i64 b, .int .i64 c] 3)) (by omega) (IRow.new w 3 (fun i => if i = 0 then a else if i = 1 then b else c)).reads
  have e : lensB (fun i => if i = 0 then a else if i = 1 then b else c) 3 = (lenB a && lenB b && lenB c) := by simp [lensB]
  rw [e] at h
  exact h
theorem okB_eq (y : Fx) : okB y = ((lenB y.ba && lenB y.mn && lenB y.mx) && inB y.gr 0 1000 && inB y.sh 0 1000) := rfl
theorem okA_not {x : Nat → Fx} {n k : Nat} (hk : k < n) (h : okB (x k) = false) : okA x 0 n = false := by
  cases hl : okA x 0 n with
  | false => rfl
  | true =>
    have := (okB_iff (x k)).2 ((okA_iff x n 0).1 hl k (Nat.zero_le _) (by omega))
    rw [h] at this
    exact Bool.noConfusion this
end Go.Proofs.Ytjaapdkhjgolfaa
/- Toward package box's Resolve: the checks, limited, weight, the natural sizes; rows of elements that come in. -/
namespace Go.Proofs.Ytjaapdkhjgolfaa
open Go.RowKit Go.Sort
set_option linter.unusedVariables false
set_option linter.unusedSimpArgs false

set_option maxHeartbeats 8000000 in
set_option maxRecDepth 100000 in
theorem check_ok (av gap : Int) (p : Option Addr) (n c : Nat) (x : Nat → Fx) (w : World) (hr : SRow w p n 5 (fxC x)) (hn : n ≤ 100) :
    Calls Try.prog 26 #[.int .i64 av, .int .i64 gap, .slice p n c] w fun e w' => e = .returned (.int .i64 (if (lenB av && lenB gap && okA x 0 n) = true then 0 else 1)) ∧ Below w.heap.size w w' := by
  have HR := hide hr
  have L := fun W => hide (lens2_ av gap W)
  have hz : ¬ (100 : Int) < (n : Int) := by omega
  have hB : Hid (Below w.heap.size w (w.alloc (.cells #[.int .i64 av, .int .i64 gap] 3))) := (Below.refl _ _).alloc (Nat.le_refl _) _
  clear hr
  generalize (lenB av && lenB gap) = v1 at *
  cases v1
  · simp only [Bool.false_and, Bool.false_eq_true, if_false]
    go_enter Try.func26, Try.ntmps26
    go_wp2_with fail
    refine (L _).out.mono ?_
    rintro e w' ⟨rfl, rfl⟩
    go_wp2_with fail
    go_ret
    exact ⟨rfl, hB.out⟩
  simp only [Bool.true_and]
  obtain ⟨er, her⟩ : ∃ er : Int, er = (if okA x 0 n = true then 0 else 1) := ⟨_, rfl⟩
  rw [← her]
  replace her := hide her
  go_enter Try.func26, Try.ntmps26
  go_wp2_with fail
  refine (L _).out.mono ?_
  rintro e w' ⟨rfl, rfl⟩
  clear L
  go_wp2_with fail
  generalize w.alloc (.cells #[.int .i64 av, .int .i64 gap] 3) = w1 at *
  go_loopg [19] (n + 1) (fun g1 vk wr => ∃ k : Nat, vk = .int .i64 (k : Int) ∧ k ≤ n ∧ n - k < g1 ∧ Hid (Below w.heap.size w wr) ∧ Hid (∀ i, i < k → okF (x i)))
  case atStart => exact ⟨0, by go_num, by omega, by omega, hB.out, fun i hi => absurd hi (Nat.not_lt_zero _)⟩
  case round =>
    clear hB
    obtain ⟨wo, rfl⟩ : ∃ wo : World, wo = wr := ⟨_, rfl⟩
    obtain ⟨k, rfl, hk, hg, B, OK⟩ := hrel
    by_cases hlt : k < n
    · have hltz : (k : Int) < (n : Int) := by omega
      obtain ⟨b, off, rfl, hb, hc⟩ := (HR.out.below B.out) (by omega)
      have M1 : ∀ o, Hid (Calls Try.prog 34 #[.slice (some ⟨wo.heap.size + 1, 0, none⟩) 3 3] ((wo.alloc o).alloc (.cells #[.int .i64 (x k).ba, .int .i64 (x k).mn, .int .i64 (x k).mx] 3)) fun e w' => e = .returned (.bool (lenB (x k).ba && lenB (x k).mn && lenB (x k).mx)) ∧ (wo.alloc o).alloc (.cells #[.int .i64 (x k).ba, .int .i64 (x k).mn, .int .i64 (x k).mx] 3) = w') := fun o => by
        have := lens3_ (x k).ba (x k).mn (x k).mx (wo.alloc o)
        rw [World.size_alloc] at this
        exact hide this
      have M2 := fun W => hide (bwithin_any (x k).gr 0 1000 W)
      have M3 := fun W => hide (bwithin_any (x k).sh 0 1000 W)
      have c0 : wo.cell? ⟨b, off + k * 5, none⟩ = some (.int .i64 (x k).ba) := hc k hlt 0 (by decide)
      have c1 : wo.cell? ⟨b, off + k * 5 + 1, none⟩ = some (.int .i64 (x k).mn) := hc k hlt 1 (by decide)
      have c2 : wo.cell? ⟨b, off + k * 5 + 2, none⟩ = some (.int .i64 (x k).mx) := hc k hlt 2 (by decide)
      have c3 : wo.cell? ⟨b, off + k * 5 + 3, none⟩ = some (.int .i64 (x k).gr) := hc k hlt 3 (by decide)
      have c4 : wo.cell? ⟨b, off + k * 5 + 4, none⟩ = some (.int .i64 (x k).sh) := hc k hlt 4 (by decide)
      have B' : Hid (∀ o o', Below w.heap.size w ((wo.alloc o).alloc o')) := fun o o' => (B.out.alloc B.out.size o).alloc (Nat.le_trans B.out.size (by rw [World.size_alloc]; omega)) o'
      have NO : Hid (okB (x k) = false → er = 1) := fun h => by rw [her.out, okA_not hlt h]; rfl
      have YES : Hid (okB (x k) = true → ∀ i, i < k + 1 → okF (x i)) := fun h i hi => by
        rcases Nat.lt_or_ge i k with h1 | h1
        · exact OK.out i h1
        · rw [show i = k by omega]; exact (okB_iff _).1 h
      rw [okB_eq] at NO YES
      clear hc hb B OK
      generalize (lenB (x k).ba && lenB (x k).mn && lenB (x k).mx) = v1 at *
      generalize inB (x k).gr 0 1000 = v2 at *
      generalize inB (x k).sh 0 1000 = v3 at *
      generalize (x k).ba = x0 at *
      generalize (x k).mn = x1 at *
      generalize (x k).mx = x2 at *
      generalize (x k).gr = x3 at *
      generalize (x k).sh = x4 at *
      cases v1
      · have e1 := NO.out rfl
        go_wp2_with fail
        refine (M1 _).out.mono ?_
        rintro e w' ⟨rfl, rfl⟩
        go_wp2_with fail
        go_ret
        exact ⟨ret_int e1.symm, B'.out _ _⟩
      cases v2
      · have e1 := NO.out rfl
        go_wp2_with fail
        refine (M1 _).out.mono ?_
        rintro e w' ⟨rfl, rfl⟩
        go_wp2_with fail
        refine (M2 _).out.mono ?_
        rintro e w' ⟨rfl, rfl⟩
        go_wp2_with fail
        go_ret
        exact ⟨ret_int e1.symm, B'.out _ _⟩
      cases v3
      · have e1 := NO.out rfl
        go_wp2_with fail
        refine (M1 _).out.mono ?_
        rintro e w' ⟨rfl, rfl⟩
        go_wp2_with fail
        refine (M2 _).out.mono ?_
        rintro e w' ⟨rfl, rfl⟩
        go_wp2_with fail
        refine (M3 _).out.mono ?_
        rintro e w' ⟨rfl, rfl⟩
        go_wp2_with fail
        go_ret
        exact ⟨ret_int e1.symm, B'.out _ _⟩
      have YY := hide (YES.out rfl)
      clear YES NO
      go_wp2_with fail
      refine (M1 _).out.mono ?_
      rintro e w' ⟨rfl, rfl⟩
      go_wp2_with fail
      refine (M2 _).out.mono ?_
      rintro e w' ⟨rfl, rfl⟩
      go_wp2_with fail
      refine (M3 _).out.mono ?_
      rintro e w' ⟨rfl, rfl⟩
      go_wp2_with fail
      go_roundg (n - k)
      case measure => omega
      case rel => exact ⟨k + 1, by go_num, by omega, by omega, B'.out _ _, YY⟩
    · have hltz : ¬ (k : Int) < (n : Int) := by omega
      obtain rfl : n = k := by omega
      have e1 : er = 0 := by rw [her.out, (okA_iff x n 0).2 fun i _ hi => OK.out i (by omega)]; rfl
      go_wp2_with fail
      go_ret
      exact ⟨by first | exact ret_int e1.symm | exact ret_int rfl, B.out⟩
theorem check_any_ (av gap : Int) (p : Option Addr) (n c : Nat) (x : Nat → Fx) (w : World) (hr : SRow w p n 5 (fxC x)) (hn : n ≤ 100000) :
    Calls Try.prog 26 #[.int .i64 av, .int .i64 gap, .slice p n c] w fun e w' => e = .returned (.int .i64 (erR av gap x n)) ∧ Below w.heap.size w w' := by
  by_cases h : 100 < n
  · have e : erR av gap x n = 2 := by unfold erR; rw [if_pos h]
    rw [e]
    have hz : (100 : Int) < (n : Int) := by omega
    clear hr e
    go_enter Try.func26, Try.ntmps26
    go_wp2_with fail
    go_ret
    exact ⟨rfl, Below.refl _ _⟩
  · have e : erR av gap x n = (if (lenB av && lenB gap && okA x 0 n) = true then 0 else 1) := by unfold erR; rw [if_neg h]
    rw [e]
    exact check_ok av gap p n c x w hr (by omega)

end Go.Proofs.Ytjaapdkhjgolfaa
/- Toward package box's Resolve: the checks, limited, weight, the natural sizes; rows of elements that come in. -/
namespace Go.Proofs.Ytjaapdkhjgolfaa
open Go.RowKit Go.Sort
set_option linter.unusedVariables false
set_option linter.unusedSimpArgs false

abbrev fxU (x : Fx) : Value := .agg #[.int .i64 x.ba, .int .i64 x.mn, .int .i64 x.mx, .int .i64 x.gr, .int .i64 x.sh]
theorem limited_any (y : Fx) (v : Int) (w : World) :
    Calls Try.prog 43 #[fxU y, .int .i64 v] w fun e w' => e = .returned (.int .i64 (clF y v)) ∧ Grew w w' := by
  have C := fun W => hide (Clamp_any v y.mn y.mx W)
  have G := hide (fun o => (Grew.refl w).alloc o)
  unfold clF
  obtain ⟨x0, x1, x2, x3, x4⟩ := y
  dsimp only at *
  go_enter Try.func43, Try.ntmps43
  go_wp2_with fail
  refine (C _).out.mono ?_
  rintro e w' ⟨rfl, rfl⟩
  go_wp2_with fail
  go_ret
  exact ⟨rfl, G.out _⟩
end Go.Proofs.Ytjaapdkhjgolfaa
/- Toward package box's Resolve: the checks, limited, weight, the natural sizes; rows of elements that come in. -/
namespace Go.Proofs.Ytjaapdkhjgolfaa
open Go.RowKit Go.Sort
set_option linter.unusedVariables false
set_option linter.unusedSimpArgs false

theorem weight_any (y : Nat → Fx) (i : Nat) (g : Bool) (d : Nat) (w : World) (hd : w.cell? ⟨d, 2, none⟩ = some (.int .i64 (sgF g))) (hy : okF (y i)) :
    Calls Try.prog 41 #[.pointer (some ⟨d, 0, none⟩), fxU (y i)] w fun e w' => e = .returned (.int .i64 (wtF g y i)) ∧ Grew w w' := by
  have G := hide (fun o => (Grew.refl w).alloc o)
  have hb := wt_bd (g := g) hy
  have hlt := lt_of_cell hd
  unfold wtF at hb ⊢
  generalize y i = z at *
  obtain ⟨x0, x1, x2, x3, x4⟩ := z
  dsimp only at *
  have hne : ¬ d = w.heap.size := by omega
  have hd0 : ∀ o, (w.alloc o).cell? ⟨d, 2, none⟩ = some (.int .i64 (sgF g)) := fun o => (((Grew.refl w).alloc o).1.cell (p := ⟨d, 2, none⟩) hlt).trans hd
  clear hlt hy hd
  cases g with
  | true =>
    have hd1 : ∀ o, (w.alloc o).cell? ⟨d, 2, none⟩ = some (.int .i64 1) := hd0
    clear hd0 hb
    go_enter Try.func41, Try.ntmps41
    go_wp2_with fail
    go_ret
    exact ⟨by simp, G.out _⟩
  | false =>
    have hd1 : ∀ o, (w.alloc o).cell? ⟨d, 2, none⟩ = some (.int .i64 (-1)) := hd0
    simp only [Bool.false_eq_true, if_false] at hb ⊢
    have hw : IntKind.i64.wrap (x4 * x0) = x4 * x0 := wr (by omega) (by omega)
    clear hd0 hb
    go_enter Try.func41, Try.ntmps41
    go_wp2_with fail
    go_ret
    exact ⟨by simp, G.out _⟩
end Go.Proofs.Ytjaapdkhjgolfaa
/- Toward package box's Resolve: the natural sizes. -/
namespace Go.Proofs.Ytjaapdkhjgolfaa
open Go.RowKit Go.Sort
set_option linter.unusedVariables false
set_option linter.unusedSimpArgs false

set_option maxHeartbeats 8000000 in
set_option maxRecDepth 100000 in
theorem natural_any (p : Option Addr) (n c : Nat) (x : Nat → Fx) (w : World) (hr : SRow w p n 5 (fxC x)) (hn : n ≤ 100) :
    Calls Try.prog 40 #[.slice p n c] w fun e w' => ∃ b, e = .returned (.slice (some ⟨b, 0, none⟩) n n) ∧ w.heap.size ≤ b ∧ IRow w' b n (natF x) ∧ Below w.heap.size w w' := by
  have HR := hide hr
  have hmk : ∀ W : World, (Instr.makeSlice 23 (.int .i64 (n : Int)) (.int .i64 (n : Int))).run Try.prog W = .ok (.slice (some ⟨W.heap.size, 0, none⟩) n n) (W.alloc (.cells (ints n (fun _ => 0)) 3)) := make_ints n (by omega)
  have B1 : Hid (Below w.heap.size w (w.alloc (.cells (ints n fun _ => 0) 3))) := (Below.refl _ _).alloc (Nat.le_refl _) _
  have R1 : Hid (IRow (w.alloc (.cells (ints n fun _ => 0) 3)) w.heap.size n (fun j => if j < 0 then natF x j else 0)) := (IRow.new w n (fun _ => 0)).congr fun j hj => by simp
  clear hr
  go_enter Try.func40, Try.ntmps40
  go_wp2_with fail
  clear hmk
  obtain ⟨rb, hrb⟩ : ∃ q, q = w.heap.size := ⟨_, rfl⟩
  rw [← hrb] at R1 ⊢
  have NE : Hid (w.heap.size ≤ rb) := Nat.le_of_eq hrb.symm
  clear hrb
  generalize w.alloc (.cells (ints n fun _ => 0) 3) = w1 at *
  go_loopg [11] (n + 1) (fun g1 vk wr => ∃ k : Nat, vk = .int .i64 (k : Int) ∧ k ≤ n ∧ n - k < g1 ∧ Hid (Below w.heap.size w wr) ∧ Hid (IRow wr rb n (fun j => if j < k then natF x j else 0)))
  case atStart => exact ⟨0, by go_num, by omega, by omega, B1, R1⟩
  case round =>
    clear B1 R1
    obtain ⟨wo, rfl⟩ : ∃ wo : World, wo = wr := ⟨_, rfl⟩
    obtain ⟨k, rfl, hk, hg, B, R⟩ := hrel
    by_cases hlt : k < n
    · have hltz : (k : Int) < (n : Int) := by omega
      obtain ⟨b, off, rfl, hb, hc⟩ := (HR.out.below B.out) (by omega)
      have c0 : wo.cell? ⟨b, off + k * 5, none⟩ = some (.int .i64 (x k).ba) := hc k hlt 0 (by decide)
      have c1 : wo.cell? ⟨b, off + k * 5 + 1, none⟩ = some (.int .i64 (x k).mn) := hc k hlt 1 (by decide)
      have c2 : wo.cell? ⟨b, off + k * 5 + 2, none⟩ = some (.int .i64 (x k).mx) := hc k hlt 2 (by decide)
      have c3 : wo.cell? ⟨b, off + k * 5 + 3, none⟩ = some (.int .i64 (x k).gr) := hc k hlt 3 (by decide)
      have c4 : wo.cell? ⟨b, off + k * 5 + 4, none⟩ = some (.int .i64 (x k).sh) := hc k hlt 4 (by decide)
      have LM := fun W => hide (limited_any (x k) (x k).ba W)
      have en : clF (x k) (x k).ba = natF x k := rfl
      rw [en] at LM
      have BA : Hid (∀ o w', Grew (wo.alloc o) w' → Below w.heap.size w w') := fun o w' h => (B.out.alloc B.out.size o).trans (h.1.mono (by rw [World.size_alloc]; have := B.out.size; omega))
      have RA : Hid (∀ o w', Grew (wo.alloc o) w' → IRow w' rb n (fun j => if j < k then natF x j else 0)) := fun o w' h => (R.out.alloc o).below h.1 (R.out.alloc o).lt
      have STEP : Hid (∀ W, IRow W rb n (fun j => if j < k then natF x j else 0) → IRow (W.setCell ⟨rb, k, none⟩ (.int .i64 (natF x k))) rb n (fun j => if j < k + 1 then natF x j else 0)) := fun W h => (h.set_ k _).congr fun j hj => by
        by_cases h1 : j = k
        · subst h1; simp
        · by_cases h2 : j < k
          · simp [h1, h2, show j < k + 1 by omega]
          · simp [h1, h2, show ¬ j < k + 1 by omega]
      clear hc hb B R en
      generalize natF x k = nk at *
      obtain ⟨y, hy⟩ : ∃ y, y = x k := ⟨_, rfl⟩
      rw [← hy] at c0 c1 c2 c3 c4 LM
      clear hy
      obtain ⟨x0, x1, x2, x3, x4⟩ := y
      dsimp only at *
      go_wp2_with fail
      refine (LM _).out.mono ?_
      rintro e w5 ⟨rfl, hG⟩
      have B5 := hide (BA.out _ _ hG)
      have R5 := hide (RA.out _ _ hG)
      clear BA RA LM hG c0 c1 c2 c3 c4
      have fz := R5.out.frozen k
      have cz := R5.out.cell hlt
      simp only [Nat.lt_irrefl, if_false] at cz
      have R6 := hide (STEP.out _ R5.out)
      have B6 : Hid (Below w.heap.size w (w5.setCell ⟨rb, k, none⟩ (.int .i64 nk))) := B5.out.setCell NE.out _
      clear STEP R5 B5
      go_wp2_with fail
      go_roundg (n - k)
      case measure => omega
      case rel => exact ⟨k + 1, by go_num, by omega, by omega, B6, R6⟩
    · have hltz : ¬ (k : Int) < (n : Int) := by omega
      obtain rfl : n = k := by omega
      go_wp2_with fail
      go_ret
      exact ⟨rb, rfl, NE.out, R.out.congr fun j hj => by simp [hj], B.out⟩
end Go.Proofs.Ytjaapdkhjgolfaa
/- Toward package box's Resolve: the division in its box, whether it is open, the targets. -/
namespace Go.Proofs.Ytjaapdkhjgolfaa
open Go.RowKit Go.Sort
set_option linter.unusedVariables false
set_option linter.unusedSimpArgs false

/-- The division that lies at d: its space, the elements that came in, its direction, its two rows. -/
structure Dv (w0 w : World) (d wb sb : Nat) (p : Option Addr) (n c : Nat) (g : Bool) (sp : Int) (x : Nat → Fx) (W S : Nat → Int) : Prop where
  blk : Blk w d 53 [.int .i64 sp, .slice p n c, .int .i64 (sgF g), .slice (some ⟨wb, 0, none⟩) n n, .slice (some ⟨sb, 0, none⟩) n n]
  rwt : IRow w wb n W
  rsz : IRow w sb n S
  el : SRow w0 p n 5 (fxC x)
  below : Below w0.heap.size w0 w
  hd : w0.heap.size ≤ d
  hw : w0.heap.size ≤ wb
  hs : w0.heap.size ≤ sb
  dw : d ≠ wb
  ds : d ≠ sb
  ws : wb ≠ sb
section
variable {w0 w w' : World} {d wb sb : Nat} {p : Option Addr} {n c : Nat} {g : Bool} {sp : Int} {x : Nat → Fx} {W S : Nat → Int}
theorem Dv.grown (h : Dv w0 w d wb sb p n c g sp x W S) (hb : Below w.heap.size w w') : Dv w0 w' d wb sb p n c g sp x W S :=
  ⟨(hb.block d h.blk.lt).trans h.blk, h.rwt.below hb h.rwt.lt, h.rsz.below hb h.rsz.lt, h.el, h.below.trans (hb.mono h.below.size), h.hd, h.hw, h.hs, h.dw, h.ds, h.ws⟩
theorem Dv.drewN (h : Dv w0 w d wb sb p n c g sp x W S) (k : Nat) : Dv w0 (w.drewN k) d wb sb p n c g sp x W S :=
  ⟨h.blk, h.rwt, h.rsz, h.el, below_drewN h.below k, h.hd, h.hw, h.hs, h.dw, h.ds, h.ws⟩
theorem Dv.far (h : Dv w0 w d wb sb p n c g sp x W S) {b i : Nat} (v : Value) (h0 : w0.heap.size ≤ b) (h1 : d ≠ b) (h2 : wb ≠ b) (h3 : sb ≠ b) : Dv w0 (w.setCell ⟨b, i, none⟩ v) d wb sb p n c g sp x W S :=
  ⟨h.blk.other h1 v, h.rwt.far h2 v, h.rsz.far h3 v, h.el, h.below.setCell h0 v, h.hd, h.hw, h.hs, h.dw, h.ds, h.ws⟩
theorem Dv.lt (h : Dv w0 w d wb sb p n c g sp x W S) : d < w.heap.size ∧ wb < w.heap.size ∧ sb < w.heap.size := ⟨h.blk.lt, h.rwt.lt, h.rsz.lt⟩
theorem open_any (D : Dv w0 w d wb sb p n c g sp x W S) (hn : n ≤ 100) (hW : Good W n) :
    Calls Try.prog 29 #[.pointer (some ⟨d, 0, none⟩)] w fun e w' => e = .returned (.bool (decide (0 < sumF W n))) ∧ w = w' := by
  have SM := hide (bsum_any (some ⟨wb, 0, none⟩) n n W w (by omega) (fun k hk => by have := hW k hk; omega) D.rwt.reads)
  have c3 := D.blk.cell 3 rfl
  clear D hW
  by_cases h : 0 < sumF W n
  · go_enter Try.func29, Try.ntmps29
    go_wp2_with fail
    refine SM.out.mono ?_
    rintro e w' ⟨rfl, rfl⟩
    go_wp2_with fail
    go_ret
    exact ⟨ret_bool (by simp [h]), rfl⟩
  · go_enter Try.func29, Try.ntmps29
    go_wp2_with fail
    refine SM.out.mono ?_
    rintro e w' ⟨rfl, rfl⟩
    go_wp2_with fail
    go_ret
    exact ⟨ret_bool (by simp [h]), rfl⟩
theorem sg_mul (g : Bool) (a : Int) : sgF g * a = if g then a else -a := by unfold sgF; cases g <;> simp
end
/-- What a store at the end of a region that draws its order leaves. -/
def st1 (A0 A1 : World → Prop) : List Value → World → Prop
  | [], W => A0 W
  | _ :: _, W => A1 W
set_option maxHeartbeats 8000000 in
set_option maxRecDepth 100000 in
theorem targets_any {w0 w : World} {d wb sb : Nat} {p : Option Addr} {n c : Nat} {g : Bool} {sp : Int} {x : Nat → Fx} {W S : Nat → Int}
    (D : Dv w0 w d wb sb p n c g sp x W S) (hn : n ≤ 100) (hW : Good W n) (hS : ∀ i, i < n → 0 ≤ S i ∧ S i ≤ 1048576) (hsp : -209715200 ≤ sp ∧ sp ≤ 1048576) :
    Calls Try.prog 42 #[.pointer (some ⟨d, 0, none⟩)] w fun e w' => ∃ b, e = .returned (.slice (some ⟨b, 0, none⟩) n n) ∧ w.heap.size ≤ b ∧ IRow w' b n (fun i => S i + sgF g * shr (max (sgF g * (sp - sumF S n)) 0) W n i) ∧ Below w.heap.size w w' := by
  have SM : ∀ W', Dv w0 W' d wb sb p n c g sp x W S → Hid (Calls Try.prog 35 #[.slice (some ⟨sb, 0, none⟩) n n] W' fun e w' => e = .returned (.int .i64 (sumF S n)) ∧ w' = W') := fun W' D' => hide ((bsum_any (some ⟨sb, 0, none⟩) n n S W' (by omega) (fun k hk => by have := hS k hk; omega) D'.rsz.reads).mono (by rintro e w' ⟨rfl, rfl⟩; exact ⟨rfl, rfl⟩))
  have SMq : ∀ j, Hid (Calls Try.prog 35 #[.slice (some ⟨sb, 0, none⟩) n n] (w.drewN j) fun e w' => e = .returned (.int .i64 (sumF S n)) ∧ w' = w.drewN j) := fun j => SM _ (D.drewN j)
  have sb1 := sumF_bound (f := S) (B := 1048576) n hS
  obtain ⟨s1, s2⟩ := sb1
  have s3 : sumF S n ≤ 104857600 := by omega
  clear s2
  obtain ⟨T, hT⟩ : ∃ T, T = max (sgF g * (sp - sumF S n)) 0 := ⟨_, rfl⟩
  have hT1 : 0 ≤ T ∧ T ≤ 1073741824 := by
    rw [hT, sg_mul]
    split <;> omega
  have SH := fun (W' : World) (D' : Dv w0 W' d wb sb p n c g sp x W S) => hide (share_ok T (some ⟨wb, 0, none⟩) n n W W' D'.rwt.reads ⟨hn, hT1.1, hT1.2, hW⟩)
  have PB : Hid (∀ P, Parts T W n P → ∀ i, i < n → (0 ≤ P i ∧ P i ≤ 1073741824) ∧ P i = shr T W n i) := fun P hP i hi => by
    have := hP.bounds hT1.1 hW hi
    exact ⟨by omega, shr_of hP hi⟩
  rw [← hT]
  have q1 : -1073741824 ≤ sgF g * (sp - sumF S n) ∧ sgF g * (sp - sumF S n) ≤ 1073741824 := by rw [sg_mul]; split <;> omega
  have wq1 : IntKind.i64.wrap (sp - sumF S n) = sp - sumF S n := wr (by omega) (by omega)
  have wq2 : IntKind.i64.wrap (sgF g * (sp - sumF S n)) = sgF g * (sp - sumF S n) := wr (by omega) (by omega)
  have HS := hide hS
  have HD := hide D
  have c0 := D.blk.cell 0 rfl
  have c2 := D.blk.cell 2 rfl
  have c3 := D.blk.cell 3 rfl
  have c4 := D.blk.cell 4 rfl
  have hsg : sgF g = 1 ∨ sgF g = -1 := by unfold sgF; cases g <;> simp
  have hmk : ∀ W : World, (Instr.makeSlice 23 (.int .i64 (n : Int)) (.int .i64 (n : Int))).run Try.prog W = .ok (.slice (some ⟨W.heap.size, 0, none⟩) n n) (W.alloc (.cells (ints n (fun _ => 0)) 3)) := make_ints n (by omega)
  clear D hW hS SM hT1
  obtain ⟨sg, hq⟩ : ∃ sg, sg = sgF g := ⟨_, rfl⟩
  rw [← hq] at hT hsg wq2 c2 q1 ⊢
  replace hT := hide hT
  have HSG : Hid (sgF g = sg) := hq.symm
  clear hq
  go_enter Try.func42, Try.ntmps42
  go_wp2_with fail
  go_quiet ((go_at_call 35; exact Calls.quiet_of_same (SMq _).out))
  have DQ := hide (HD.out.drewN nq)
  have BQ : Hid (Below w.heap.size w (w.drewN nq)) := below_drewN (Below.refl _ _) _
  clear c0 c2 c3 c4 SMq HD
  generalize w.drewN nq = w1 at *
  have c3 := DQ.out.blk.cell 3 rfl
  go_wp2_with fail
  rw [← hT.out]
  refine (SH w1 DQ.out).out.mono ?_
  rintro e w2 ⟨rfl, hB2, P, hP, hr⟩
  have D2 := hide (DQ.out.grown hB2)
  have B2 : Hid (Below w.heap.size w w2) := BQ.out.trans (hB2.mono BQ.out.size)
  have PR2 : Hid (IRow w2 w1.heap.size n P) := hr
  have PP := hide (PB.out P hP)
  have NP : Hid (w.heap.size ≤ w1.heap.size) := BQ.out.size
  clear hr hB2 DQ BQ SH PB hP c3
  have D3 : Hid (Dv w0 (w2.alloc (.cells (ints n fun _ => 0) 3)) d wb sb p n c g sp x W S) := D2.out.grown ((Below.refl _ _).alloc (Nat.le_refl _) _)
  have B3 : Hid (Below w.heap.size w (w2.alloc (.cells (ints n fun _ => 0) 3))) := B2.out.alloc B2.out.size _
  have P3 : Hid (IRow (w2.alloc (.cells (ints n fun _ => 0) 3)) w1.heap.size n P) := PR2.out.alloc _
  have R3 : Hid (IRow (w2.alloc (.cells (ints n fun _ => 0) 3)) w2.heap.size n (fun j => if j < 0 then S j + sg * shr T W n j else 0)) := (IRow.new w2 n (fun _ => 0)).congr fun j hj => by simp
  have NE : Hid (w1.heap.size ≠ w2.heap.size ∧ w.heap.size ≤ w2.heap.size ∧ w0.heap.size ≤ w2.heap.size ∧ d ≠ w2.heap.size ∧ wb ≠ w2.heap.size ∧ sb ≠ w2.heap.size) := ⟨Nat.ne_of_lt PR2.out.lt, B2.out.size, D2.out.below.size, Nat.ne_of_lt D2.out.lt.1, Nat.ne_of_lt D2.out.lt.2.1, Nat.ne_of_lt D2.out.lt.2.2⟩
  clear D2 B2 PR2
  go_wp2_with fail
  clear hmk
  generalize w2.alloc (.cells (ints n fun _ => 0) 3) = w3 at *
  generalize w1.heap.size = pb at *
  generalize w2.heap.size = tb at *
  go_loopg [39] (n + 1) (fun g1 vk wr => ∃ k : Nat, vk = .int .i64 (k : Int) ∧ k ≤ n ∧ n - k < g1 ∧ Hid (Below w.heap.size w wr) ∧ Hid (Dv w0 wr d wb sb p n c g sp x W S) ∧ Hid (IRow wr pb n P) ∧ Hid (IRow wr tb n (fun j => if j < k then S j + sg * shr T W n j else 0)))
  case atStart => exact ⟨0, by go_num, by omega, by omega, B3, D3, P3, R3⟩
  case round =>
    clear B3 D3 P3 R3
    obtain ⟨wo, rfl⟩ : ∃ wo : World, wo = wr := ⟨_, rfl⟩
    obtain ⟨k, rfl, hk, hg, B, DD, PR, R⟩ := hrel
    by_cases hlt : k < n
    · have hltz : (k : Int) < (n : Int) := by omega
      have cp := PR.out.cell hlt
      obtain ⟨⟨p1, p2⟩, p3⟩ := PP.out k hlt
      obtain ⟨o1, o2⟩ := HS.out k hlt
      have J0 : Hid (∀ W', (Below w.heap.size w W' ∧ Dv w0 W' d wb sb p n c g sp x W S ∧ IRow W' pb n P ∧ IRow W' tb n (fun j => if j < k then S j + sg * shr T W n j else 0)) → (W'.cell? ⟨d, 2, none⟩ = some (.int .i64 sg) ∧ W'.cell? ⟨d, 4, none⟩ = some (.slice (some ⟨sb, 0, none⟩) n n) ∧ W'.cell? ⟨sb, k, none⟩ = some (.int .i64 (S k)))) := fun W' h => ⟨HSG.out ▸ h.2.1.blk.cell 2 rfl, h.2.1.blk.cell 4 rfl, h.2.1.rsz.cell hlt⟩
      have ST : Hid (∀ W', (Below w.heap.size w W' ∧ Dv w0 W' d wb sb p n c g sp x W S ∧ IRow W' pb n P ∧ IRow W' tb n (fun j => if j < k then S j + sg * shr T W n j else 0)) → (W'.cell? ⟨tb, k, none⟩ = some (.int .i64 0) ∧ W'.frozen? ⟨tb, k, none⟩ = false) ∧ (Below w.heap.size w (W'.setCell ⟨tb, k, none⟩ (.int .i64 (S k + sg * P k))) ∧ Dv w0 (W'.setCell ⟨tb, k, none⟩ (.int .i64 (S k + sg * P k))) d wb sb p n c g sp x W S ∧ IRow (W'.setCell ⟨tb, k, none⟩ (.int .i64 (S k + sg * P k))) pb n P ∧ IRow (W'.setCell ⟨tb, k, none⟩ (.int .i64 (S k + sg * P k))) tb n (fun j => if j < k + 1 then S j + sg * shr T W n j else 0))) := fun W' ⟨s1, s2, s3, s4⟩ => by
        obtain ⟨n1, n2, n3, n4, n5, n6⟩ := NE.out
        refine ⟨⟨by have := s4.cell hlt; simpa using this, s4.frozen k⟩, s1.setCell n2 _, s2.far _ n3 n4 n5 n6, s3.far n1 _, (s4.set_ k _).congr fun j hj => ?_⟩
        by_cases h1 : j = k
        · subst h1; simp [p3]
        · by_cases h2 : j < k
          · simp [h1, h2, show j < k + 1 by omega]
          · simp [h1, h2, show ¬ j < k + 1 by omega]
      have PRE : Hid (Below w.heap.size w wo.drew ∧ Dv w0 wo.drew d wb sb p n c g sp x W S ∧ IRow wo.drew pb n P ∧ IRow wo.drew tb n (fun j => if j < k then S j + sg * shr T W n j else 0)) := ⟨B.out.drew, DD.out.drewN 1, PR.out, R.out⟩
      clear B DD PR R p3
      generalize P k = pk at *
      generalize S k = sk at *
      have wm : IntKind.i64.wrap (sg * pk) = sg * pk := by rcases hsg with h | h <;> rw [h, IntKind.wrap_i64] <;> omega
      have wa : IntKind.i64.wrap (sk + sg * pk) = sk + sg * pk := by rcases hsg with h | h <;> rw [h, IntKind.wrap_i64] <;> omega
      go_wp2_with fail
      refine MJ.wp_region_chain (fun W' => W'.cell? ⟨d, 2, none⟩ = some (.int .i64 sg) ∧ W'.cell? ⟨d, 4, none⟩ = some (.slice (some ⟨sb, 0, none⟩) n n) ∧ W'.cell? ⟨sb, k, none⟩ = some (.int .i64 sk)) [17] []
        (st1 (fun W' => Below w.heap.size w W' ∧ Dv w0 W' d wb sb p n c g sp x W S ∧ IRow W' pb n P ∧ IRow W' tb n (fun j => if j < k then S j + sg * shr T W n j else 0)) (fun W' => Below w.heap.size w W' ∧ Dv w0 W' d wb sb p n c g sp x W S ∧ IRow W' pb n P ∧ IRow W' tb n (fun j => if j < k + 1 then S j + sg * shr T W n j else 0)))
        (by kernel_rfl) (by kernel_rfl) (by simp) ?h0 ?hJ ?_
      case h0 => exact PRE.out
      case hJ =>
        rintro vals W' (hl | hl) hS'
        · obtain rfl : vals = [] := by simpa using hl
          exact J0.out W' hS'
        · exact absurd hl (by rw [show MJ.sinkL _ _ = true by kernel_rfl]; exact Bool.noConfusion)
      repeat (refine MJ.lex_calm rfl (by rfl) (fun K hK => ?_); apply Exists.intro; refine ⟨fun W' hW => ?_, ?_⟩; (dsimp only at hW; go_simp; exact rfl); go_simp; refine hK _ ?_; clear hK K)
      refine MJ.lex_chain 0 rfl (by kernel_rfl) rfl ?_ ?_
      · rintro vs W' hS'
        obtain ⟨⟨y1, y2⟩, y3⟩ := ST.out W' hS'
        have y3 := hide y3
        clear hS'
        simp [go_sem, evS, List.lookup, y1, y2]
        exact y3.out
      refine MJ.lex_nil ?_
      rintro vs w5 ⟨s1, s2, s3, s4⟩
      have B5 := hide s1
      have D5 := hide s2
      have P5 := hide s3
      have R5 := hide s4
      clear s1 s2 s3 s4 J0 ST PRE
      simp only [fillS, List.foldl_nil]
      go_wp2_with fail
      go_roundg (n - k)
      case measure => omega
      case rel => exact ⟨k + 1, by go_num, by omega, by omega, B5, D5, P5, R5⟩
    · have hltz : ¬ (k : Int) < (n : Int) := by omega
      obtain rfl : n = k := by omega
      go_wp2_with fail
      go_ret
      exact ⟨tb, rfl, NE.out.2.1, R.out.congr fun j hj => by simp [hj], B.out⟩
end Go.Proofs.Ytjaapdkhjgolfaa
