/- What Contrast, Readable and Size of the reference of package theme return; no condition. -/
import Derived.Test.YtpdjgmfccolgjaaThA
namespace Go.Proofs.Ytpdjgmfccolgjaa
open Go.RowKit Go.Sort
set_option linter.unusedVariables false
set_option linter.unusedSimpArgs false

set_option maxHeartbeats 4000000 in
theorem rCon_any (a b : Int) (w : World) :
    Calls Try.prog 20 #[.int .i64 a, .int .i64 b] w fun e w' => e = .returned (.int .i64 (conS a b)) ∧ w = w' := by
  have V1 := fun W => hide (rvalid_any a W)
  have V2 := fun W => hide (rvalid_any b W)
  by_cases ha : colB a = true
  · rw [ha] at V1
    by_cases hb : colB b = true
    · rw [hb] at V2
      have e : conS a b = flr ((max (lumS a) (lumS b) + 50) * 100) (min (lumS a) (lumS b) + 50) := by simp [conS, ha, hb]
      rw [e]
      clear e
      have L1 := fun W => hide (rLum_any a W)
      have L2 := fun W => hide (rLum_any b W)
      have p1 := lumS_bd a
      have p2 := lumS_bd b
      generalize lumS a = x at *
      generalize lumS b = y at *
      rcases Int.lt_trichotomy x y with h | h | h
      · have e1 : max x y = y := by omega
        have e2 : min x y = x := by omega
        rw [e1, e2]
        clear e1 e2
        have F := fun W => hide (rFloor_in ((y + 50) * 100) (x + 50) W ⟨by omega, by omega, by omega⟩)
        go_enter Try.func20, Try.ntmps20
        go_wp2_with fail
        refine (V1 _).out.mono ?_
        rintro e w' ⟨rfl, rfl⟩
        go_wp2_with fail
        refine (V2 _).out.mono ?_
        rintro e w' ⟨rfl, rfl⟩
        go_wp2_with fail
        refine (L1 _).out.mono ?_
        rintro e w' ⟨rfl, rfl⟩
        go_wp2_with fail
        refine (L2 _).out.mono ?_
        rintro e w' ⟨rfl, rfl⟩
        go_wp2_with fail
        refine (L1 _).out.mono ?_
        rintro e w' ⟨rfl, rfl⟩
        go_wp2_with fail
        refine (L2 _).out.mono ?_
        rintro e w' ⟨rfl, rfl⟩
        go_wp2_with fail
        refine (F _).out.mono ?_
        rintro e w' ⟨rfl, rfl⟩
        go_wp2
        go_ret
        exact ⟨rfl, rfl⟩
      · have e1 : max x y = y := by omega
        have e2 : min x y = y := by omega
        rw [e1, e2]
        clear e1 e2
        subst h
        have F := fun W => hide (rFloor_in ((x + 50) * 100) (x + 50) W ⟨by omega, by omega, by omega⟩)
        go_enter Try.func20, Try.ntmps20
        go_wp2_with fail
        refine (V1 _).out.mono ?_
        rintro e w' ⟨rfl, rfl⟩
        go_wp2_with fail
        refine (V2 _).out.mono ?_
        rintro e w' ⟨rfl, rfl⟩
        go_wp2_with fail
        refine (L1 _).out.mono ?_
        rintro e w' ⟨rfl, rfl⟩
        go_wp2_with fail
        refine (L2 _).out.mono ?_
        rintro e w' ⟨rfl, rfl⟩
        go_wp2_with fail
        refine (L1 _).out.mono ?_
        rintro e w' ⟨rfl, rfl⟩
        go_wp2_with fail
        refine (L2 _).out.mono ?_
        rintro e w' ⟨rfl, rfl⟩
        go_wp2_with fail
        refine (F _).out.mono ?_
        rintro e w' ⟨rfl, rfl⟩
        go_wp2
        go_ret
        exact ⟨rfl, rfl⟩
      · have e1 : max x y = x := by omega
        have e2 : min x y = y := by omega
        rw [e1, e2]
        clear e1 e2
        have F := fun W => hide (rFloor_in ((x + 50) * 100) (y + 50) W ⟨by omega, by omega, by omega⟩)
        go_enter Try.func20, Try.ntmps20
        go_wp2_with fail
        refine (V1 _).out.mono ?_
        rintro e w' ⟨rfl, rfl⟩
        go_wp2_with fail
        refine (V2 _).out.mono ?_
        rintro e w' ⟨rfl, rfl⟩
        go_wp2_with fail
        refine (L1 _).out.mono ?_
        rintro e w' ⟨rfl, rfl⟩
        go_wp2_with fail
        refine (L2 _).out.mono ?_
        rintro e w' ⟨rfl, rfl⟩
        go_wp2_with fail
        refine (L1 _).out.mono ?_
        rintro e w' ⟨rfl, rfl⟩
        go_wp2_with fail
        refine (L2 _).out.mono ?_
        rintro e w' ⟨rfl, rfl⟩
        go_wp2_with fail
        refine (F _).out.mono ?_
        rintro e w' ⟨rfl, rfl⟩
        go_wp2
        go_ret
        exact ⟨rfl, rfl⟩
    · have hb' : colB b = false := by simpa using hb
      rw [hb'] at V2
      have e : conS a b = 0 := by simp [conS, hb']
      rw [e]
      clear e
      go_enter Try.func20, Try.ntmps20
      go_wp2_with fail
      refine (V1 _).out.mono ?_
      rintro e w' ⟨rfl, rfl⟩
      go_wp2_with fail
      refine (V2 _).out.mono ?_
      rintro e w' ⟨rfl, rfl⟩
      go_wp2
      go_ret
      exact ⟨rfl, rfl⟩
  · have ha' : colB a = false := by simpa using ha
    rw [ha'] at V1
    have e : conS a b = 0 := by simp [conS, ha']
    rw [e]
    clear e
    go_enter Try.func20, Try.ntmps20
    go_wp2_with fail
    refine (V1 _).out.mono ?_
    rintro e w' ⟨rfl, rfl⟩
    go_wp2
    go_ret
    exact ⟨rfl, rfl⟩
set_option maxHeartbeats 4000000 in
theorem rRea_any (c k least : Int) (w : World) :
    Calls Try.prog 22 #[.int .i64 c, .int .i64 k, .int .i64 least] w fun e w' => e = .returned (.int .i64 (reaS c k least)) ∧ w = w' := by
  have V1 := fun W => hide (rvalid_any c W)
  have V2 := fun W => hide (rvalid_any k W)
  have C1 := fun W => hide (rCon_any c k W)
  have C2 := fun W => hide (rCon_any 0 k W)
  have C3 := fun W => hide (rCon_any 16777215 k W)
  by_cases hc : colB c = true
  · rw [hc] at V1
    by_cases hk : colB k = true
    · rw [hk] at V2
      have e : reaS c k least = if least ≤ conS c k then c else if conS 16777215 k ≤ conS 0 k then 0 else 16777215 := by simp [reaS, hc, hk]
      rw [e]
      clear e
      generalize conS c k = x at *
      generalize conS 0 k = y at *
      generalize conS 16777215 k = z at *
      by_cases h1 : least ≤ x
      · rw [if_pos h1]
        go_enter Try.func22, Try.ntmps22
        go_wp2_with fail
        refine (V1 _).out.mono ?_
        rintro e w' ⟨rfl, rfl⟩
        go_wp2_with fail
        refine (V2 _).out.mono ?_
        rintro e w' ⟨rfl, rfl⟩
        go_wp2_with fail
        refine (C1 _).out.mono ?_
        rintro e w' ⟨rfl, rfl⟩
        go_wp2
        go_ret
        exact ⟨rfl, rfl⟩
      · rw [if_neg h1]
        by_cases h2 : z ≤ y
        · rw [if_pos h2]
          go_enter Try.func22, Try.ntmps22
          go_wp2_with fail
          refine (V1 _).out.mono ?_
          rintro e w' ⟨rfl, rfl⟩
          go_wp2_with fail
          refine (V2 _).out.mono ?_
          rintro e w' ⟨rfl, rfl⟩
          go_wp2_with fail
          refine (C1 _).out.mono ?_
          rintro e w' ⟨rfl, rfl⟩
          go_wp2_with fail
          refine (C2 _).out.mono ?_
          rintro e w' ⟨rfl, rfl⟩
          go_wp2_with fail
          refine (C3 _).out.mono ?_
          rintro e w' ⟨rfl, rfl⟩
          go_wp2
          go_ret
          exact ⟨rfl, rfl⟩
        · rw [if_neg h2]
          go_enter Try.func22, Try.ntmps22
          go_wp2_with fail
          refine (V1 _).out.mono ?_
          rintro e w' ⟨rfl, rfl⟩
          go_wp2_with fail
          refine (V2 _).out.mono ?_
          rintro e w' ⟨rfl, rfl⟩
          go_wp2_with fail
          refine (C1 _).out.mono ?_
          rintro e w' ⟨rfl, rfl⟩
          go_wp2_with fail
          refine (C2 _).out.mono ?_
          rintro e w' ⟨rfl, rfl⟩
          go_wp2_with fail
          refine (C3 _).out.mono ?_
          rintro e w' ⟨rfl, rfl⟩
          go_wp2
          go_ret
          exact ⟨rfl, rfl⟩
    · have hk' : colB k = false := by simpa using hk
      rw [hk'] at V2
      have e : reaS c k least = c := by simp [reaS, hk']
      rw [e]
      clear e
      go_enter Try.func22, Try.ntmps22
      go_wp2_with fail
      refine (V1 _).out.mono ?_
      rintro e w' ⟨rfl, rfl⟩
      go_wp2_with fail
      refine (V2 _).out.mono ?_
      rintro e w' ⟨rfl, rfl⟩
      go_wp2
      go_ret
      exact ⟨rfl, rfl⟩
  · have hc' : colB c = false := by simpa using hc
    rw [hc'] at V1
    have e : reaS c k least = c := by simp [reaS, hc']
    rw [e]
    clear e
    go_enter Try.func22, Try.ntmps22
    go_wp2_with fail
    refine (V1 _).out.mono ?_
    rintro e w' ⟨rfl, rfl⟩
    go_wp2
    go_ret
    exact ⟨rfl, rfl⟩
end Go.Proofs.Ytpdjgmfccolgjaa
