/- What metricsInRange, scaled, advances, extents return; no condition but that the numbers are integers of 64 bits (scaled, extents: of a valid font). -/
import Derived.Test.YtfiaongnogiegaaFoC
namespace Go.Proofs.Ytfiaongnogiegaa
open Go.RowKit Go.Sort
set_option linter.unusedVariables false
set_option linter.unusedSimpArgs false

def metB (F : Fn) : Bool := decide (16 ≤ F.u ∧ F.u ≤ 4096) && (lenB F.a && (lenB F.d && (lenB F.g && (lenB F.df && decide (1 ≤ F.a + F.d)))))
theorem lenB_bd {x : Int} (h : lenB x = true) : 0 ≤ x ∧ x ≤ 4096 := by simpa [lenB] using h
set_option maxHeartbeats 4000000 in
theorem metricsInRange_any (F : Fn) (s : Sl) (w : World) :
    Calls Try.prog 30 #[F.v s] w fun e w' => e = .returned (.bool (metB F)) ∧ Grew w w' := by
  obtain ⟨u, a, d, g, df, na, av, nk, kv, nl, lv⟩ := F
  obtain ⟨pa, ca, pk, ck, pl, cl⟩ := s
  dsimp only [Fn.v] at *
  obtain ⟨b0, hb0⟩ : ∃ b0, b0 = w.heap.size := ⟨_, rfl⟩
  have G0 : Hid (∀ o, Grew w (w.alloc o)) := fun o => (Grew.refl w).alloc o
  have i0 : ∀ w, (Instr.index 66 (.agg #[.int .i64 a, .int .i64 d, .int .i64 g, .int .i64 df]) (.int .i64 0)).run Try.prog w = .ok (.int .i64 a) w := fun _ => by kernel_rfl
  have i1 : ∀ w, (Instr.index 66 (.agg #[.int .i64 a, .int .i64 d, .int .i64 g, .int .i64 df]) (.int .i64 1)).run Try.prog w = .ok (.int .i64 d) w := fun _ => by kernel_rfl
  have i2 : ∀ w, (Instr.index 66 (.agg #[.int .i64 a, .int .i64 d, .int .i64 g, .int .i64 df]) (.int .i64 2)).run Try.prog w = .ok (.int .i64 g) w := fun _ => by kernel_rfl
  have i3 : ∀ w, (Instr.index 66 (.agg #[.int .i64 a, .int .i64 d, .int .i64 g, .int .i64 df]) (.int .i64 3)).run Try.prog w = .ok (.int .i64 df) w := fun _ => by kernel_rfl
  have KW := fun W => hide (fwithin_any u 16 4096 W)
  have KL := fun x W => hide (length_any x W)
  unfold metB
  dsimp only
  generalize hv0 : decide (16 ≤ u ∧ u ≤ 4096) = v0 at *
  generalize hva : lenB a = va at *
  generalize hvd : lenB d = vd at *
  generalize hvg : lenB g = vg at *
  generalize hvf : lenB df = vf at *
  have KA : ∀ W, Hid (Calls Try.prog 46 #[.int .i64 a] W fun e w' => e = .returned (.bool va) ∧ W = w') := fun W => by have := KL a W; rwa [hva] at this
  have KD : ∀ W, Hid (Calls Try.prog 46 #[.int .i64 d] W fun e w' => e = .returned (.bool vd) ∧ W = w') := fun W => by have := KL d W; rwa [hvd] at this
  have KG : ∀ W, Hid (Calls Try.prog 46 #[.int .i64 g] W fun e w' => e = .returned (.bool vg) ∧ W = w') := fun W => by have := KL g W; rwa [hvg] at this
  have KF : ∀ W, Hid (Calls Try.prog 46 #[.int .i64 df] W fun e w' => e = .returned (.bool vf) ∧ W = w') := fun W => by have := KL df W; rwa [hvf] at this
  have ha : Hid (va = true → 0 ≤ a ∧ a ≤ 4096) := fun h => lenB_bd (hva.trans h)
  have hd : Hid (vd = true → 0 ≤ d ∧ d ≤ 4096) := fun h => lenB_bd (hvd.trans h)
  clear KL hv0 hva hvd hvg hvf
  go_enter Try.func30, Try.ntmps30
  go_wp2_with fail
  have B0 : Hid (Blk (w.alloc (.cells [.int .i64 u, .int .i64 a, .int .i64 d, .int .i64 g, .int .i64 df, .slice pa na ca, .slice pk nk ck, .slice pl nl cl].toArray 26)) b0 26 [.int .i64 u, .int .i64 a, .int .i64 d, .int .i64 g, .int .i64 df, .slice pa na ca, .slice pk nk ck, .slice pl nl cl]) := Blk.new hb0
  rw [← hb0]
  have G1 := hide (G0.out (.cells [.int .i64 u, .int .i64 a, .int .i64 d, .int .i64 g, .int .i64 df, .slice pa na ca, .slice pk nk ck, .slice pl nl cl].toArray 26))
  have hw : Hid (w.heap.size ≤ b0) := Nat.le_of_eq hb0.symm
  clear G0 hb0
  generalize (w.alloc (.cells [.int .i64 u, .int .i64 a, .int .i64 d, .int .i64 g, .int .i64 df, .slice pa na ca, .slice pk nk ck, .slice pl nl cl].toArray 26)) = w1 at *
  have c0 := (B0.out).cell 0 rfl
  have c1 := (B0.out).cell 1 rfl
  have c2 := (B0.out).cell 2 rfl
  have c3 := (B0.out).cell 3 rfl
  have c4 := (B0.out).cell 4 rfl
  clear B0
  refine (KW _).out.mono ?_
  rintro e w' ⟨rfl, rfl⟩
  clear KW
  cases v0
  · go_wp2
    go_ret
    exact ⟨rfl, G1.out⟩
  go_wp2
  refine wp_loop_rounds 5 ?_
  rw [rounds_succ]
  go_wp2_with fail
  refine (KA _).out.mono ?_
  rintro e w' ⟨rfl, rfl⟩
  clear KA
  cases va
  · go_wp2
    go_ret
    exact ⟨rfl, G1.out⟩
  go_wp2
  rw [rounds_succ]
  go_wp2_with fail
  refine (KD _).out.mono ?_
  rintro e w' ⟨rfl, rfl⟩
  clear KD
  cases vd
  · go_wp2
    go_ret
    exact ⟨rfl, G1.out⟩
  go_wp2
  rw [rounds_succ]
  go_wp2_with fail
  refine (KG _).out.mono ?_
  rintro e w' ⟨rfl, rfl⟩
  clear KG
  cases vg
  · go_wp2
    go_ret
    exact ⟨rfl, G1.out⟩
  go_wp2
  rw [rounds_succ]
  go_wp2_with fail
  refine (KF _).out.mono ?_
  rintro e w' ⟨rfl, rfl⟩
  clear KF
  cases vf
  · go_wp2
    go_ret
    exact ⟨rfl, G1.out⟩
  obtain ⟨a1, a2⟩ : 0 ≤ a ∧ a ≤ 4096 := by have := ha.out; simpa using this
  obtain ⟨d1, d2⟩ : 0 ≤ d ∧ d ≤ 4096 := by have := hd.out; simpa using this
  have wad : IntKind.i64.wrap (a + d) = a + d := wr (by omega) (by omega)
  clear ha hd
  go_wp2
  rw [rounds_succ]
  by_cases h1 : 1 ≤ a + d
  · go_wp2
    go_ret
    exact ⟨ret_bool (by simp [h1]), G1.out⟩
  · go_wp2
    go_ret
    exact ⟨ret_bool (by simp [h1]), G1.out⟩

/-- The runes that show no glyph have no advance. -/
def advB (r : Int) : Bool := !(((cls r).b == 4) || ((cls r).b == 5) || ((cls r).b == 3) || ((cls r).b == 1) || ((cls r).b == 2))
set_option maxHeartbeats 4000000 in
theorem advances_any (r : Int) (w : World) (hr : -2147483648 ≤ r ∧ r ≤ 2147483647) :
    Calls Try.prog 35 #[.int .i32 r] w fun e w' => e = .returned (.bool (advB r)) ∧ Grew w w' := by
  have KB := fun W => hide (Break_any r W hr)
  unfold advB
  generalize (cls r).b = x at *
  clear hr
  go_enter Try.func35, Try.ntmps35
  go_wp2_with fail
  refine (KB _).out.mono ?_
  rintro e w1 ⟨rfl, G1⟩
  replace G1 := hide G1
  clear KB
  by_cases h4 : x = 4
  · subst h4
    go_wp2
    go_ret
    exact ⟨rfl, G1.out⟩
  by_cases h5 : x = 5
  · subst h5
    go_wp2
    go_ret
    exact ⟨rfl, G1.out⟩
  by_cases h3 : x = 3
  · subst h3
    go_wp2
    go_ret
    exact ⟨rfl, G1.out⟩
  by_cases h1 : x = 1
  · subst h1
    go_wp2
    go_ret
    exact ⟨rfl, G1.out⟩
  by_cases h2 : x = 2
  · subst h2
    go_wp2
    go_ret
    exact ⟨rfl, G1.out⟩
  have e4 : (x == 4) = false := by simpa using h4
  have e5 : (x == 5) = false := by simpa using h5
  have e3 : (x == 3) = false := by simpa using h3
  have e1 : (x == 1) = false := by simpa using h1
  have e2 : (x == 2) = false := by simpa using h2
  go_wp2
  go_ret
  exact ⟨ret_bool (by rw [e4, e5, e3, e1, e2]; rfl), G1.out⟩

/-- What fits the units of a valid font. -/
def scF (F : Fn) (size x : Int) : Int := rnd (x * size) F.u
set_option maxHeartbeats 4000000 in
theorem scaled_any (F : Fn) (s : Sl) (size x : Int) (w : World) (hu : 16 ≤ F.u ∧ F.u ≤ 4096) (hs : 1 ≤ size ∧ size ≤ 1000) (hx : -4096 ≤ x ∧ x ≤ 4096) :
    Calls Try.prog 36 #[F.v s, .int .i64 size, .int .i64 x] w fun e w' => e = .returned (.int .i64 (scF F size x)) ∧ Grew w w' := by
  obtain ⟨u, a, d, g, df, na, av, nk, kv, nl, lv⟩ := F
  obtain ⟨pa, ca, pk, ck, pl, cl⟩ := s
  dsimp only [Fn.v] at *
  obtain ⟨b0, hb0⟩ : ∃ b0, b0 = w.heap.size := ⟨_, rfl⟩
  have G0 : Hid (∀ o, Grew w (w.alloc o)) := fun o => (Grew.refl w).alloc o
  have m1 : x * size ≤ 4096000 := by
    have h1 : x * size ≤ 4096 * size := Int.mul_le_mul_of_nonneg_right hx.2 (by omega)
    have h2 : 4096 * size ≤ 4096 * 1000 := Int.mul_le_mul_of_nonneg_left hs.2 (by decide)
    omega
  have m2 : -4096000 ≤ x * size := by
    have h1 : -4096 * size ≤ x * size := Int.mul_le_mul_of_nonneg_right hx.1 (by omega)
    have h2 : -4096 * 1000 ≤ -4096 * size := Int.mul_le_mul_of_nonpos_left (by decide) hs.2
    omega
  have wm : IntKind.i64.wrap (x * size) = x * size := wr (by omega) (by omega)
  have KR := fun W => hide (Round_in (x * size) u W ⟨by omega, ⟨by omega, by omega⟩, by omega, by omega⟩)
  have e0 : rnd (x * size) u = scF ⟨u, a, d, g, df, na, av, nk, kv, nl, lv⟩ size x := rfl
  rw [e0] at KR
  generalize scF ⟨u, a, d, g, df, na, av, nk, kv, nl, lv⟩ size x = y at *
  clear m1 m2 hu hs hx e0
  go_enter Try.func36, Try.ntmps36
  go_wp2_with fail
  have B0 : Hid (Blk (w.alloc (.cells [.int .i64 u, .int .i64 a, .int .i64 d, .int .i64 g, .int .i64 df, .slice pa na ca, .slice pk nk ck, .slice pl nl cl].toArray 26)) b0 26 [.int .i64 u, .int .i64 a, .int .i64 d, .int .i64 g, .int .i64 df, .slice pa na ca, .slice pk nk ck, .slice pl nl cl]) := Blk.new hb0
  rw [← hb0]
  have G1 := hide (G0.out (.cells [.int .i64 u, .int .i64 a, .int .i64 d, .int .i64 g, .int .i64 df, .slice pa na ca, .slice pk nk ck, .slice pl nl cl].toArray 26))
  have hw : Hid (w.heap.size ≤ b0) := Nat.le_of_eq hb0.symm
  clear G0 hb0
  generalize (w.alloc (.cells [.int .i64 u, .int .i64 a, .int .i64 d, .int .i64 g, .int .i64 df, .slice pa na ca, .slice pk nk ck, .slice pl nl cl].toArray 26)) = w1 at *
  refine (KR _).out.mono ?_
  rintro e w2 ⟨rfl, q, rfl⟩
  go_wp2
  go_ret
  exact ⟨rfl, G1.out.drewN q⟩
end Go.Proofs.Ytfiaongnogiegaa
