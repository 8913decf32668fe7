/- The sanity check of the laws on fonts, and that metrics do not shrink; no condition. -/
import Derived.Test.YtfiaongnogiegaaFoG
namespace Go.Proofs.Ytfiaongnogiegaa
open Go.RowKit Go.Sort
set_option linter.unusedVariables false
set_option linter.unusedSimpArgs false

abbrev F0 : Fn := ⟨1000, 800, 200, 0, 500, 0, fun _ => ⟨0, 0, 0⟩, 0, fun _ => ⟨0, 0, 0⟩, 0, fun _ => ⟨0, 0, 0, 0⟩⟩
abbrev s0 : Sl := ⟨none, 0, none, 0, none, 0⟩
theorem fat0 (W : World) : FAt W F0 s0 := ⟨fun h => absurd h (Nat.lt_irrefl _), fun h => absurd h (Nat.lt_irrefl _), fun h => absurd h (Nat.lt_irrefl _)⟩
set_option maxHeartbeats 4000000 in
theorem plain_any (w : World) : Calls Try.prog 27 #[] w fun e w' => e = .returned (F0.v s0) ∧ Grew w w' := by
  have G : Hid (∀ o, Grew w (w.alloc o)) := fun o => (Grew.refl w).alloc o
  go_enter Try.func27, Try.ntmps27
  go_wp2
  refine bodyPost_ret (v := F0.v s0) (by simp [results, Try.results27, go_sem]) rfl ⟨rfl, G.out _⟩
theorem v0_is : vldF F0 = 0 := by kernel_rfl
theorem a0_is : advF F0 16 97 = 8 := by kernel_rfl
theorem c0_is : acF F0 10 = 8 := by kernel_rfl
theorem h0_is : htF F0 10 = 10 := by kernel_rfl
set_option maxHeartbeats 4000000 in
theorem awake_any (w : World) : Calls Try.prog 7 #[] w fun e w' => e = .returned (.bool true) ∧ Grew w w' := by
  have KP := fun W => hide (plain_any W)
  have K1 := fun W => hide (Validate_any F0 s0 W (fat0 W))
  have K2 := fun W => hide (Advance_any F0 s0 16 97 W (fat0 W) (by decide))
  have K3 := fun W => hide (Ascent_any F0 s0 10 W (fat0 W))
  have K4 := fun W => hide (Height_any F0 s0 10 W (fat0 W))
  rw [v0_is] at K1
  rw [a0_is] at K2
  rw [c0_is] at K3
  rw [h0_is] at K4
  go_enter Try.func7, Try.ntmps7
  go_wp2_with fail
  refine (KP _).out.mono ?_
  rintro e w1 ⟨rfl, q⟩
  have G1 := hide (q)
  clear q
  go_wp2_with fail
  refine (K1 _).out.mono ?_
  rintro e w2 ⟨rfl, q⟩
  have G2 := hide (G1.out.trans q)
  clear q
  go_wp2_with fail
  refine (KP _).out.mono ?_
  rintro e w3 ⟨rfl, q⟩
  have G3 := hide (G2.out.trans q)
  clear q
  go_wp2_with fail
  refine (K2 _).out.mono ?_
  rintro e w4 ⟨rfl, q⟩
  have G4 := hide (G3.out.trans q)
  clear q
  go_wp2_with fail
  refine (KP _).out.mono ?_
  rintro e w5 ⟨rfl, q⟩
  have G5 := hide (G4.out.trans q)
  clear q
  go_wp2_with fail
  refine (K3 _).out.mono ?_
  rintro e w6 ⟨rfl, q⟩
  have G6 := hide (G5.out.trans q)
  clear q
  go_wp2_with fail
  refine (KP _).out.mono ?_
  rintro e w7 ⟨rfl, q⟩
  have G7 := hide (G6.out.trans q)
  clear q
  go_wp2_with fail
  refine (K4 _).out.mono ?_
  rintro e w8 ⟨rfl, q⟩
  have G8 := hide (G7.out.trans q)
  clear q
  go_wp2
  go_ret
  exact ⟨rfl, G8.out⟩

/-! ### Metrics do not shrink -/
theorem rnd_mono {a b u : Int} (hu : 0 < u) (h : a ≤ b) : rnd a u ≤ rnd b u := by
  unfold rnd
  rw [Int.fdiv_eq_ediv_of_nonneg _ (by omega), Int.fdiv_eq_ediv_of_nonneg _ (by omega)]
  exact Int.ediv_le_ediv (by omega) (by omega)
theorem scF_mono {F : Fn} {s t x : Int} (hu : 16 ≤ F.u) (hx : 0 ≤ x) (h : s ≤ t) : scF F s x ≤ scF F t x :=
  rnd_mono (by omega) (Int.mul_le_mul_of_nonneg_left h hx)
theorem mark_none : advB 769 = false := by kernel_rfl
theorem adv_mark (F : Fn) (size : Int) : advF F size 769 = 0 := by
  unfold advF
  rw [mark_none, Bool.and_false]
  rfl
theorem use_valid {F : Fn} (h : vldF F = 0) {size : Int} (h1 : 1 ≤ size) (h2 : size ≤ 1000) : useB F size = true := by
  simp [useB, h, h1, h2]
theorem line_one {F : Fn} (h : vldF F = 0) {size : Int} (h1 : 1 ≤ size) (h2 : size ≤ 1000) : 1 ≤ acF F size + dcF F size ∧ acF F size + dcF F size ≤ htF F size ∧ 0 ≤ acF F size ∧ acF F size ≤ 256000 ∧ 0 ≤ dcF F size ∧ dcF F size ≤ 256000 := by
  have hu := use_valid h h1 h2
  have hb := height_bd F size hu
  obtain ⟨ok, hs⟩ := use_bd hu
  have b1 := scF_bd ok.u.1 hs ok.a
  unfold acF dcF htF
  rw [if_pos hu, if_pos hu, if_pos hu]
  have : 1 ≤ asF F size + scF F size F.d := by
    unfold asF
    split
    · omega
    · rename_i hn
      omega
  omega
theorem dc_mono {F : Fn} (h : vldF F = 0) {s t : Int} (h1 : 1 ≤ s) (h2 : t ≤ 1000) (hst : s ≤ t) : dcF F s ≤ dcF F t := by
  have hu := use_valid h h1 (by omega : s ≤ 1000)
  have hu' := use_valid h (by omega : 1 ≤ t) h2
  obtain ⟨ok, hs⟩ := use_bd hu
  unfold dcF
  rw [if_pos hu, if_pos hu']
  exact scF_mono ok.u.1 ok.d.1 hst
theorem adv_mono {F : Fn} (h : vldF F = 0) {s t r : Int} (h1 : 1 ≤ s) (h2 : t ≤ 1000) (hst : s ≤ t) : advF F s r ≤ advF F t r := by
  have hu := use_valid h h1 (by omega : s ≤ 1000)
  have hu' := use_valid h (by omega : 1 ≤ t) h2
  obtain ⟨ok, hs⟩ := use_bd hu
  unfold advF
  rw [hu, hu']
  cases advB r
  · exact Int.le_refl _
  · simp only [Bool.and_self, if_true]
    exact scF_mono ok.u.1 (wdF_bd ok.df F.na 0 fun i _ hi => ok.av i (by omega)).1 hst
end Go.Proofs.Ytfiaongnogiegaa
