/- What the functions of package theme on colors return; no condition. -/
import Derived.Test.YtpdjgmfccolgjaaThB
namespace Go.Proofs.Ytpdjgmfccolgjaa
open Go.RowKit Go.Sort
set_option linter.unusedVariables false
set_option linter.unusedSimpArgs false

theorem Drawn.drewN {a b : World} (h : Drawn a b) (n : Nat) : Drawn a (b.drewN n) := by
  obtain ⟨m, rfl⟩ := h; exact ⟨m + n, by rw [World.drewN_drewN]⟩
theorem Drawn.grew {a b : World} (h : Drawn a b) : Grew a b := by obtain ⟨m, rfl⟩ := h; exact Grew.of_drewN _ _
theorem within_th (x lo hi : Int) (w : World) :
    Calls Try.prog 29 #[.int .i64 x, .int .i64 lo, .int .i64 hi] w fun e w' => e = .returned (.bool (decide (lo ≤ x ∧ x ≤ hi))) ∧ w = w' := by
  by_cases h1 : lo ≤ x
  · by_cases h2 : x ≤ hi
    · have e : decide (lo ≤ x ∧ x ≤ hi) = true := by simp [h1, h2]
      rw [e]
      go_enter Try.func29, Try.ntmps29
      go_wp2
      go_ret
      exact ⟨rfl, rfl⟩
    · have e : decide (lo ≤ x ∧ x ≤ hi) = false := by simp [h1, h2]
      rw [e]
      go_enter Try.func29, Try.ntmps29
      go_wp2
      go_ret
      exact ⟨rfl, rfl⟩
  · have e : decide (lo ≤ x ∧ x ≤ hi) = false := by simp [h1]
    rw [e]
    go_enter Try.func29, Try.ntmps29
    go_wp2
    go_ret
    exact ⟨rfl, rfl⟩
theorem isColor_any (x : Int) (w : World) :
    Calls Try.prog 34 #[.int .i64 x] w fun e w' => e = .returned (.bool (colB x)) ∧ w = w' := by
  have V := fun W => hide (within_th x (0) 16777215 W)
  have e0 : decide (0 ≤ x ∧ x ≤ 16777215) = colB x := rfl
  rw [e0] at V
  generalize colB x = v at *
  clear e0
  go_enter Try.func34, Try.ntmps34
  go_wp2_with fail
  refine (V _).out.mono ?_
  rintro e w' ⟨rfl, rfl⟩
  go_wp2
  go_ret
  exact ⟨rfl, rfl⟩
theorem Lum_any (x : Int) (w : World) :
    Calls Try.prog 17 #[.int .i64 x] w fun e w' => e = .returned (.int .i64 (lumS x)) ∧ Drawn w w' := by
  have V := fun W => hide (isColor_any x W)
  by_cases h : colB x = true
  · rw [h] at V
    have e : lumS x = lumX (x / 65536) (x / 256 % 256) (x % 256) := by simp [lumS, h]
    obtain ⟨h1, h2⟩ := colB_yes h
    have b1 := sq_bd (c := 2126) (r := x / 65536) (m := 255) (by omega) (by omega) (by omega)
    have b2 := sq_bd (c := 7152) (r := x / 256 % 256) (m := 255) (by omega) (by omega) (by omega)
    have b3 := sq_bd (c := 722) (r := x % 256) (m := 255) (by omega) (by omega) (by omega)
    have F := fun W => hide (Floor_in (2126 * (x / 65536) * (x / 65536) + 7152 * (x / 256 % 256) * (x / 256 % 256) + 722 * (x % 256) * (x % 256)) 650250 W ⟨by omega, by omega, by omega⟩)
    rw [e]
    replace e := hide e
    go_enter Try.func17, Try.ntmps17
    go_wp2_with fail
    refine (V _).out.mono ?_
    rintro e w' ⟨rfl, rfl⟩
    go_wp2_with fail
    refine (F _).out.mono ?_
    rintro e w' ⟨rfl, n1, rfl⟩
    go_wp2
    go_ret
    exact ⟨rfl, by repeat' (first | (with_reducible exact Drawn.refl _) | (with_reducible refine Drawn.drewN ?_ _))⟩
  · have h' : colB x = false := by simpa using h
    rw [h'] at V
    have e : lumS x = 0 := by simp [lumS, h']
    rw [e]
    replace e := hide e
    go_enter Try.func17, Try.ntmps17
    go_wp2_with fail
    refine (V _).out.mono ?_
    rintro e w' ⟨rfl, rfl⟩
    go_wp2
    go_ret
    exact ⟨rfl, by repeat' (first | (with_reducible exact Drawn.refl _) | (with_reducible refine Drawn.drewN ?_ _))⟩
set_option maxHeartbeats 4000000 in
theorem Con_any (a b : Int) (w : World) :
    Calls Try.prog 19 #[.int .i64 a, .int .i64 b] w fun e w' => e = .returned (.int .i64 (conS a b)) ∧ Drawn w w' := by
  have V1 := fun W => hide (isColor_any a W)
  have V2 := fun W => hide (isColor_any b W)
  by_cases ha : colB a = true
  · rw [ha] at V1
    by_cases hb : colB b = true
    · rw [hb] at V2
      have e : conS a b = flr ((max (lumS a) (lumS b) + 50) * 100) (min (lumS a) (lumS b) + 50) := by simp [conS, ha, hb]
      rw [e]
      clear e
      have L1 := fun W => hide (Lum_any a W)
      have L2 := fun W => hide (Lum_any b W)
      have p1 := lumS_bd a
      have p2 := lumS_bd b
      generalize lumS a = x at *
      generalize lumS b = y at *
      rcases Int.lt_trichotomy x y with h | h | h
      · have e1 : max x y = y := by omega
        have e2 : min x y = x := by omega
        rw [e1, e2]
        clear e1 e2
        have F := fun W => hide (Floor_in ((y + 50) * 100) (x + 50) W ⟨by omega, by omega, by omega⟩)
        go_enter Try.func19, Try.ntmps19
        go_wp2_with fail
        refine (V1 _).out.mono ?_
        rintro e w' ⟨rfl, rfl⟩
        go_wp2_with fail
        refine (V2 _).out.mono ?_
        rintro e w' ⟨rfl, rfl⟩
        go_wp2_with fail
        refine (L1 _).out.mono ?_
        rintro e w' ⟨rfl, n2, rfl⟩
        go_wp2_with fail
        refine (L2 _).out.mono ?_
        rintro e w' ⟨rfl, n3, rfl⟩
        go_wp2_with fail
        refine (F _).out.mono ?_
        rintro e w' ⟨rfl, n4, rfl⟩
        go_wp2
        go_ret
        exact ⟨rfl, by repeat' (first | (with_reducible exact Drawn.refl _) | (with_reducible refine Drawn.drewN ?_ _))⟩
      · have e1 : max x y = y := by omega
        have e2 : min x y = y := by omega
        rw [e1, e2]
        clear e1 e2
        subst h
        have F := fun W => hide (Floor_in ((x + 50) * 100) (x + 50) W ⟨by omega, by omega, by omega⟩)
        go_enter Try.func19, Try.ntmps19
        go_wp2_with fail
        refine (V1 _).out.mono ?_
        rintro e w' ⟨rfl, rfl⟩
        go_wp2_with fail
        refine (V2 _).out.mono ?_
        rintro e w' ⟨rfl, rfl⟩
        go_wp2_with fail
        refine (L1 _).out.mono ?_
        rintro e w' ⟨rfl, n5, rfl⟩
        go_wp2_with fail
        refine (L2 _).out.mono ?_
        rintro e w' ⟨rfl, n6, rfl⟩
        go_wp2_with fail
        refine (F _).out.mono ?_
        rintro e w' ⟨rfl, n7, rfl⟩
        go_wp2
        go_ret
        exact ⟨rfl, by repeat' (first | (with_reducible exact Drawn.refl _) | (with_reducible refine Drawn.drewN ?_ _))⟩
      · have e1 : max x y = x := by omega
        have e2 : min x y = y := by omega
        rw [e1, e2]
        clear e1 e2
        have F := fun W => hide (Floor_in ((x + 50) * 100) (y + 50) W ⟨by omega, by omega, by omega⟩)
        go_enter Try.func19, Try.ntmps19
        go_wp2_with fail
        refine (V1 _).out.mono ?_
        rintro e w' ⟨rfl, rfl⟩
        go_wp2_with fail
        refine (V2 _).out.mono ?_
        rintro e w' ⟨rfl, rfl⟩
        go_wp2_with fail
        refine (L1 _).out.mono ?_
        rintro e w' ⟨rfl, n8, rfl⟩
        go_wp2_with fail
        refine (L2 _).out.mono ?_
        rintro e w' ⟨rfl, n9, rfl⟩
        go_wp2_with fail
        refine (F _).out.mono ?_
        rintro e w' ⟨rfl, n10, rfl⟩
        go_wp2
        go_ret
        exact ⟨rfl, by repeat' (first | (with_reducible exact Drawn.refl _) | (with_reducible refine Drawn.drewN ?_ _))⟩
    · have hb' : colB b = false := by simpa using hb
      rw [hb'] at V2
      have e : conS a b = 0 := by simp [conS, hb']
      rw [e]
      clear e
      go_enter Try.func19, Try.ntmps19
      go_wp2_with fail
      refine (V1 _).out.mono ?_
      rintro e w' ⟨rfl, rfl⟩
      go_wp2_with fail
      refine (V2 _).out.mono ?_
      rintro e w' ⟨rfl, rfl⟩
      go_wp2
      go_ret
      exact ⟨rfl, by repeat' (first | (with_reducible exact Drawn.refl _) | (with_reducible refine Drawn.drewN ?_ _))⟩
  · have ha' : colB a = false := by simpa using ha
    rw [ha'] at V1
    have e : conS a b = 0 := by simp [conS, ha']
    rw [e]
    clear e
    go_enter Try.func19, Try.ntmps19
    go_wp2_with fail
    refine (V1 _).out.mono ?_
    rintro e w' ⟨rfl, rfl⟩
    go_wp2
    go_ret
    exact ⟨rfl, by repeat' (first | (with_reducible exact Drawn.refl _) | (with_reducible refine Drawn.drewN ?_ _))⟩
set_option maxHeartbeats 4000000 in
theorem Rea_any (c k least : Int) (w : World) :
    Calls Try.prog 21 #[.int .i64 c, .int .i64 k, .int .i64 least] w fun e w' => e = .returned (.int .i64 (reaS c k least)) ∧ Drawn w w' := by
  have V1 := fun W => hide (isColor_any c W)
  have V2 := fun W => hide (isColor_any k W)
  have C1 := fun W => hide (Con_any c k W)
  have C2 := fun W => hide (Con_any 0 k W)
  have C3 := fun W => hide (Con_any 16777215 k W)
  by_cases hc : colB c = true
  · rw [hc] at V1
    by_cases hk : colB k = true
    · rw [hk] at V2
      have e : reaS c k least = if least ≤ conS c k then c else if conS 16777215 k ≤ conS 0 k then 0 else 16777215 := by simp [reaS, hc, hk]
      rw [e]
      clear e
      generalize conS c k = x at *
      generalize conS 0 k = y at *
      generalize conS 16777215 k = z at *
      by_cases h1 : least ≤ x
      · rw [if_pos h1]
        go_enter Try.func21, Try.ntmps21
        go_wp2_with fail
        refine (V1 _).out.mono ?_
        rintro e w' ⟨rfl, rfl⟩
        go_wp2_with fail
        refine (V2 _).out.mono ?_
        rintro e w' ⟨rfl, rfl⟩
        go_wp2_with fail
        refine (C1 _).out.mono ?_
        rintro e w' ⟨rfl, n11, rfl⟩
        go_wp2
        go_ret
        exact ⟨rfl, by repeat' (first | (with_reducible exact Drawn.refl _) | (with_reducible refine Drawn.drewN ?_ _))⟩
      · rw [if_neg h1]
        by_cases h2 : z ≤ y
        · rw [if_pos h2]
          go_enter Try.func21, Try.ntmps21
          go_wp2_with fail
          refine (V1 _).out.mono ?_
          rintro e w' ⟨rfl, rfl⟩
          go_wp2_with fail
          refine (V2 _).out.mono ?_
          rintro e w' ⟨rfl, rfl⟩
          go_wp2_with fail
          refine (C1 _).out.mono ?_
          rintro e w' ⟨rfl, n12, rfl⟩
          go_wp2_with fail
          refine (C2 _).out.mono ?_
          rintro e w' ⟨rfl, n13, rfl⟩
          go_wp2_with fail
          refine (C3 _).out.mono ?_
          rintro e w' ⟨rfl, n14, rfl⟩
          go_wp2
          go_ret
          exact ⟨rfl, by repeat' (first | (with_reducible exact Drawn.refl _) | (with_reducible refine Drawn.drewN ?_ _))⟩
        · rw [if_neg h2]
          go_enter Try.func21, Try.ntmps21
          go_wp2_with fail
          refine (V1 _).out.mono ?_
          rintro e w' ⟨rfl, rfl⟩
          go_wp2_with fail
          refine (V2 _).out.mono ?_
          rintro e w' ⟨rfl, rfl⟩
          go_wp2_with fail
          refine (C1 _).out.mono ?_
          rintro e w' ⟨rfl, n15, rfl⟩
          go_wp2_with fail
          refine (C2 _).out.mono ?_
          rintro e w' ⟨rfl, n16, rfl⟩
          go_wp2_with fail
          refine (C3 _).out.mono ?_
          rintro e w' ⟨rfl, n17, rfl⟩
          go_wp2
          go_ret
          exact ⟨rfl, by repeat' (first | (with_reducible exact Drawn.refl _) | (with_reducible refine Drawn.drewN ?_ _))⟩
    · have hk' : colB k = false := by simpa using hk
      rw [hk'] at V2
      have e : reaS c k least = c := by simp [reaS, hk']
      rw [e]
      clear e
      go_enter Try.func21, Try.ntmps21
      go_wp2_with fail
      refine (V1 _).out.mono ?_
      rintro e w' ⟨rfl, rfl⟩
      go_wp2_with fail
      refine (V2 _).out.mono ?_
      rintro e w' ⟨rfl, rfl⟩
      go_wp2
      go_ret
      exact ⟨rfl, by repeat' (first | (with_reducible exact Drawn.refl _) | (with_reducible refine Drawn.drewN ?_ _))⟩
  · have hc' : colB c = false := by simpa using hc
    rw [hc'] at V1
    have e : reaS c k least = c := by simp [reaS, hc']
    rw [e]
    clear e
    go_enter Try.func21, Try.ntmps21
    go_wp2_with fail
    refine (V1 _).out.mono ?_
    rintro e w' ⟨rfl, rfl⟩
    go_wp2
    go_ret
    exact ⟨rfl, by repeat' (first | (with_reducible exact Drawn.refl _) | (with_reducible refine Drawn.drewN ?_ _))⟩
end Go.Proofs.Ytpdjgmfccolgjaa
