/- calculate, fits and apply at two values that are no lists and no texts. -/
import Derived.Test.YtnhhmndnmkkhlaaDoorExH
namespace Go.Proofs.YtnhhmndnmkkhlaaDoor
open Go.RowKit Go.Sort
set_option linter.unusedVariables false
set_option linter.unusedSimpArgs false

def Op5 (op : Int) : Prop := op = 5 ∨ op = 6 ∨ op = 7 ∨ op = 8 ∨ op = 9
set_option maxHeartbeats 4000000 in
theorem calculate_any (op a b : Int) (w : World) (h : Op5 op) (ha : Sm a) (hb : Sm b) :
    Calls Tryd.prog 86 #[.int .i64 op, .int .i64 a, .int .i64 b] w fun e w' => e = .returned (.tuple #[.int .i64 (calR op a b).1, .int .i64 (calR op a b).2]) ∧ Grew w w' := by
  have HA := hide ha
  have HB := hide hb
  obtain ⟨a1, a2⟩ := ha
  obtain ⟨b1, b2⟩ := hb
  have ws : IntKind.i64.wrap (a + b) = a + b := wr (by omega) (by omega)
  have wd : IntKind.i64.wrap (a - b) = a - b := wr (by omega) (by omega)
  rcases h with rfl | rfl | rfl | rfl | rfl
  · go_enter Tryd.func86, Tryd.ntmps86
    go_wp2
    exact bodyPost_ret (v := .tuple #[.int .i64 (a + b), .int .i64 0]) (by simp [results, Tryd.results86, go_sem]) rfl ⟨rfl, Grew.refl _⟩
  · go_enter Tryd.func86, Tryd.ntmps86
    go_wp2
    exact bodyPost_ret (v := .tuple #[.int .i64 (a - b), .int .i64 0]) (by simp [results, Tryd.results86, go_sem]) rfl ⟨rfl, Grew.refl _⟩
  · by_cases h0 : b = 0
    · subst h0
      clear ws wd
      go_enter Tryd.func86, Tryd.ntmps86
      go_wp2
      exact bodyPost_ret (v := .tuple #[.int .i64 0, .int .i64 0]) (by simp [results, Tryd.results86, go_sem]) rfl ⟨by simp [calR], Grew.refl _⟩
    · have hn : (b != 0) = true := by simpa using h0
      have MD := hide (mul_dec HA.out HB.out h0)
      have KA := fun W => hide (abs_any a W (by omega))
      have KB := fun W => hide (abs_any b W (by omega))
      have hp : 0 < b.natAbs := by omega
      have hq : ∃ q : Nat, (1099511627776 : Int).tdiv (b.natAbs : Int) = (q : Int) ∧ q ≤ 1099511627776 := ⟨1099511627776 / b.natAbs, rfl, Nat.div_le_self _ _⟩
      have hba : b.natAbs ≤ 1099511627776 := by omega
      generalize b.natAbs = bn at *
      generalize hx : a.natAbs = an at *
      obtain ⟨q, hq1, hq2⟩ := hq
      have hn0 : ¬ (bn : Int) = 0 := by omega
      have wq : IntKind.i64.wrap ((1099511627776 : Int).tdiv (bn : Int)) = (q : Int) := by rw [hq1]; exact wr (by omega) (by omega)
      rw [hq1] at MD
      replace hq1 := hide hq1
      clear hx ws wd
      by_cases hc : (a * b).natAbs ≤ 1099511627776
      · have hlt : ¬ (q : Int) < (an : Int) := fun h => (MD.out.1 h) hc
        have wm : IntKind.i64.wrap (a * b) = a * b := wr (by omega) (by omega)
        have hc' := hide hc
        clear hc MD
        go_enter Tryd.func86, Tryd.ntmps86
        go_wp2_with fail
        refine ((KA _).out).mono ?_
        rintro e _ ⟨rfl, rfl⟩
        go_wp2_with fail
        refine ((KB _).out).mono ?_
        rintro e _ ⟨rfl, rfl⟩
        go_wp2
        exact bodyPost_ret (v := .tuple #[.int .i64 (a * b), .int .i64 0]) (by simp [results, Tryd.results86, go_sem]) rfl ⟨by simp [calR, hc'.out], Grew.refl _⟩
      · have hlt : (q : Int) < (an : Int) := MD.out.2 hc
        have hc' := hide hc
        clear hc MD
        go_enter Tryd.func86, Tryd.ntmps86
        go_wp2_with fail
        refine ((KA _).out).mono ?_
        rintro e _ ⟨rfl, rfl⟩
        go_wp2_with fail
        refine ((KB _).out).mono ?_
        rintro e _ ⟨rfl, rfl⟩
        go_wp2
        exact bodyPost_ret (v := .tuple #[.int .i64 0, .int .i64 1]) (by simp [results, Tryd.results86, go_sem]) rfl ⟨by simp [calR, hc'.out], Grew.refl _⟩
  · by_cases h0 : b = 0
    · subst h0
      clear ws wd
      go_enter Tryd.func86, Tryd.ntmps86
      go_wp2
      exact bodyPost_ret (v := .tuple #[.int .i64 0, .int .i64 1]) (by simp [results, Tryd.results86, go_sem]) rfl ⟨by simp [calR], Grew.refl _⟩
    · have hn : (b == 0) = false := by simpa using h0
      have KF := fun W => hide (Floor_in a b W ⟨h0, ⟨by omega, by omega⟩, by omega, by omega⟩)
      clear ws wd
      go_enter Tryd.func86, Tryd.ntmps86
      go_wp2_with fail
      refine ((KF _).out).mono ?_
      rintro e w1 ⟨rfl, D1⟩
      go_wp2
      exact bodyPost_ret (v := .tuple #[.int .i64 (flr a b), .int .i64 0]) (by simp [results, Tryd.results86, go_sem]) rfl ⟨by simp [calR, h0], D1.grew⟩
  · by_cases h0 : b = 0
    · subst h0
      clear ws wd
      go_enter Tryd.func86, Tryd.ntmps86
      go_wp2
      exact bodyPost_ret (v := .tuple #[.int .i64 0, .int .i64 1]) (by simp [results, Tryd.results86, go_sem]) rfl ⟨by simp [calR], Grew.refl _⟩
    · have hn : (b == 0) = false := by simpa using h0
      have KF := fun W => hide (Floor_in a b W ⟨h0, ⟨by omega, by omega⟩, by omega, by omega⟩)
      obtain ⟨q1, q2, -, ⟨q3, q4⟩, -⟩ := flr_bd HA.out HB.out h0
      clear ws wd
      have hR : Hid (calR 9 a b = (a - b * flr a b, 0)) := by unfold Hid; simp [calR, h0]
      generalize flr a b = q at *
      have wm : IntKind.i64.wrap (b * q) = b * q := wr (by omega) (by omega)
      have wn : IntKind.i64.wrap (a - b * q) = a - b * q := wr (by omega) (by omega)
      go_enter Tryd.func86, Tryd.ntmps86
      go_wp2_with fail
      refine ((KF _).out).mono ?_
      rintro e w1 ⟨rfl, D1⟩
      go_wp2
      exact bodyPost_ret (v := .tuple #[.int .i64 (a - b * q), .int .i64 0]) (by simp [results, Tryd.results86, go_sem]) rfl ⟨by rw [hR.out], D1.grew⟩

/-- Two values at p, without lists and texts, in a block below the heap's end. -/
def Two (w : World) (p : Option Addr) (k0 n0 k1 n1 : Int) : Prop := ∃ b off, p = some ⟨b, off, none⟩ ∧ b < w.heap.size ∧
  (w.cell? ⟨b, off, none⟩ = some (.int .i64 k0) ∧ w.cell? ⟨b, off + 1, none⟩ = some (.int .i64 n0) ∧ w.cell? ⟨b, off + 2, none⟩ = some (.string ⟨#[]⟩) ∧ w.cell? ⟨b, off + 3, none⟩ = some (.slice none 0 0)) ∧
  (w.cell? ⟨b, off + 4, none⟩ = some (.int .i64 k1) ∧ w.cell? ⟨b, off + 4 + 1, none⟩ = some (.int .i64 n1) ∧ w.cell? ⟨b, off + 4 + 2, none⟩ = some (.string ⟨#[]⟩) ∧ w.cell? ⟨b, off + 4 + 3, none⟩ = some (.slice none 0 0))
theorem Two.grew {w w' : World} {p : Option Addr} {k0 n0 k1 n1 : Int} (h : Two w p k0 n0 k1 n1) (g : Grew w w') : Two w' p k0 n0 k1 n1 := by
  obtain ⟨b, off, hp, hb, ⟨h0, h1, h2, h3⟩, h4, h5, h6, h7⟩ := h
  have c := fun o => g.cell b o hb
  exact ⟨b, off, hp, Nat.lt_of_lt_of_le hb g.size, ⟨(c _).trans h0, (c _).trans h1, (c _).trans h2, (c _).trans h3⟩, (c _).trans h4, (c _).trans h5, (c _).trans h6, (c _).trans h7⟩

/-- Two flat types of no lists at p. -/
def TwoT (w : World) (b : Nat) (k0 k1 : Int) : Prop := Blk w b 65 [.int .i64 0, .int .i64 k0, .int .i64 0, .int .i64 k1]
set_option maxHeartbeats 4000000 in
theorem fits_two (op k0 k1 : Int) (b c : Nat) (w : World) (hop : Op5 op ∨ op = 10) (h : TwoT w b k0 k1) :
    Calls Tryd.prog 65 #[.int .i64 op, .slice (some ⟨b, 0, none⟩) 2 c] w fun e w' => e = .returned (.bool (k0 == 1 && k1 == 1)) ∧ Grew w w' := by
  have KA := fun W => hide (is_any 0 k0 1 W)
  have KB := fun W => hide (is_any 0 k1 1 W)
  simp only [beq_self_eq_true, Bool.true_and] at KA KB
  have h0 := h.cell 0 rfl
  have h1 := h.cell 1 rfl
  have h2 := h.cell 2 rfl
  have h3 := h.cell 3 rfl
  have hl := h.lt
  by_cases e0 : (k0 == 1) = true
  · rw [e0] at KA ⊢
    rcases hop with (rfl | rfl | rfl | rfl | rfl) | rfl
    all_goals
      go_enter Tryd.func65, Tryd.ntmps65
      go_wp2_with fail
      refine ((KA _).out).mono ?_
      rintro e w1 ⟨rfl, G1⟩
      have g2 := (G1.cell b 2 hl).trans h2
      have g3 := (G1.cell b 3 hl).trans h3
      go_wp2_with fail
      refine ((KB _).out).mono ?_
      rintro e w2 ⟨rfl, G2⟩
      go_wp2
      go_ret
      exact ⟨ret_bool (by simp), G1.trans G2⟩
  · simp only [Bool.not_eq_true] at e0
    rw [e0] at KA ⊢
    rcases hop with (rfl | rfl | rfl | rfl | rfl) | rfl
    all_goals
      go_enter Tryd.func65, Tryd.ntmps65
      go_wp2_with fail
      refine ((KA _).out).mono ?_
      rintro e w1 ⟨rfl, G1⟩
      go_wp2
      go_ret
      exact ⟨ret_bool (by simp), G1⟩
end Go.Proofs.YtnhhmndnmkkhlaaDoor
