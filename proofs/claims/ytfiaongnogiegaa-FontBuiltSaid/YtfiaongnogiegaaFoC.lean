/- What the three comparisons of neighbours in lists return; no condition but that the lists are of at most 100000 elements. -/
import Derived.Test.YtfiaongnogiegaaFoB
import Derived.Test.YtfiaongnogiegaaMix
namespace Go.Proofs.Ytfiaongnogiegaa
open Go.RowKit Go.Sort
set_option linter.unusedVariables false
set_option linter.unusedSimpArgs false

/-- p holds of the places k to k + m - 1. -/
def allK (p : Nat → Bool) : Nat → Nat → Bool
  | _, 0 => true
  | k, m + 1 => p k && allK p (k + 1) m

def avP (f : Nat → Ad) (k : Nat) : Bool := decide ((f (k - 1)).t < (f k).f)
set_option maxHeartbeats 4000000 in
theorem ascav_any (p : Option Addr) (n c : Nat) (f : Nat → Ad) (w : World) (H : SRow w p n 3 (adC f)) (hn : n ≤ 100000) :
    Calls Try.prog 48 #[.slice p n c, .func (.func 49) #[] #[]] w fun e w' => e = .returned (.bool (allK (avP f) 1 (n - 1))) ∧ Grew w w' := by
  have HA := hide H
  have S0 : Hid (n = 0 ∨ allK (avP f) 1 (n - 1) = allK (avP f) 1 (n - 1)) := Or.inr rfl
  clear H
  go_enter Try.func48, Try.ntmps48
  go_wp2
  go_loopg [5] (n + 1) (fun gh vk wr => ∃ (k : Nat), vk = .int .i64 (k : Int) ∧ (k ≤ n ∨ k = 1) ∧ n - k < gh ∧ 1 ≤ k ∧ Hid (Grew w wr) ∧ Hid (allK (avP f) k (n - k) = allK (avP f) 1 (n - 1)))
  case atStart => exact ⟨1, by go_num, by omega, by omega, by omega, Grew.refl _, rfl⟩
  case round =>
    clear S0
    obtain ⟨wo, rfl⟩ : ∃ wo : World, wo = wr := ⟨_, rfl⟩
    obtain ⟨k, rfl, hk, hg, h1, G, S⟩ := hrel
    by_cases hlt : k < n
    · have hltz : (k : Int) < (n : Int) := by omega
      obtain ⟨m, rfl⟩ : ∃ m, k = m + 1 := ⟨k - 1, by omega⟩
      obtain ⟨b, off, rfl, hb, hc⟩ := (HA.out.grew G.out) (by omega)
      have hm0 : (0 : Int) ≤ (m : Int) := by omega
      have hmn : (m : Int) < (n : Int) := by omega
      have hm1 : (0 : Int) ≤ (m : Int) + 1 := by omega
      have hltz1 : (m : Int) + 1 < (n : Int) := by omega
      have wm : IntKind.i64.wrap (m : Int) = (m : Int) := wr (by omega) (by omega)
      have hgr : Hid (∀ q os, Grew wo (grow (wo.drewN q) os)) := fun q os => ((Grew.refl wo).drewN q).grow os
      have hcc : Hid (∀ i, i < n → ∀ j, j < 3 → ∀ q os, (grow (wo.drewN q) os).cell? ⟨b, off + i * 3 + j, none⟩ = some (adC f i j)) := fun i hi j hj q os => ((hgr.out q os).1.cell (p := ⟨b, off + i * 3 + j, none⟩) hb).trans (hc i hi j hj)
      have c0 : ∀ q os, (grow (wo.drewN q) os).cell? ⟨b, off + m * 3, none⟩ = some (.int .i32 (f m).f) := hcc.out m (by omega) 0 (by decide)
      have d0 : ∀ q os, (grow (wo.drewN q) os).cell? ⟨b, off + (m + 1) * 3, none⟩ = some (.int .i32 (f (m + 1)).f) := hcc.out (m + 1) hlt 0 (by decide)
      have c1 : ∀ q os, (grow (wo.drewN q) os).cell? ⟨b, off + m * 3 + 1, none⟩ = some (.int .i32 (f m).t) := hcc.out m (by omega) 1 (by decide)
      have d1 : ∀ q os, (grow (wo.drewN q) os).cell? ⟨b, off + (m + 1) * 3 + 1, none⟩ = some (.int .i32 (f (m + 1)).t) := hcc.out (m + 1) hlt 1 (by decide)
      have c2 : ∀ q os, (grow (wo.drewN q) os).cell? ⟨b, off + m * 3 + 2, none⟩ = some (.int .i64 (f m).w) := hcc.out m (by omega) 2 (by decide)
      have d2 : ∀ q os, (grow (wo.drewN q) os).cell? ⟨b, off + (m + 1) * 3 + 2, none⟩ = some (.int .i64 (f (m + 1)).w) := hcc.out (m + 1) hlt 2 (by decide)
      have KC := fun W => hide (less1_any (f m).f (f m).t (f m).w (f (m + 1)).f (f (m + 1)).t (f (m + 1)).w W)
      have hp : decide ((f m).t < (f (m + 1)).f) = avP f (m + 1) := rfl
      rw [hp] at KC
      have S' : Hid (((avP f (m + 1)) && allK (avP f) (m + 1 + 1) (n - (m + 1 + 1))) = allK (avP f) 1 (n - 1)) := by
        have := S.out
        rwa [show n - (m + 1) = n - (m + 1 + 1) + 1 by omega, allK] at this
      have GW := hide G.out
      clear hc S hb hp hcc hgr G
      generalize avP f (m + 1) = v at *
      generalize (f m).f = x0 at *
      generalize (f (m + 1)).f = y0 at *
      generalize (f m).t = x1 at *
      generalize (f (m + 1)).t = y1 at *
      generalize (f m).w = x2 at *
      generalize (f (m + 1)).w = y2 at *
      go_wp2
      refine wp_region_calm (by kernel_rfl) (by kernel_rfl) ?_
      repeat (first | (refine lex_skip rfl (by rfl) ?_) | (refine lex_calm rfl (by rfl) (fun K hK => ?_); go_simp; first | (refine hK _ ?_; clear hK K) | (apply Exists.intro; refine ⟨fun _ _ => ?_, hK _ ?_⟩; (with_reducible exact (KC _).out); clear hK K)))
      refine lex_nil ?_
      intro w3 G3
      have NX := hide (GW.out.trans G3)
      clear G3 c0 c1 c2 d0 d1 d2 KC
      cases v
      · have S2 : Hid (false = allK (avP f) 1 (n - 1)) := S'.out
        go_wp2
        go_ret
        exact ⟨ret_bool S2.out, NX.out⟩
      · have S2 : Hid (allK (avP f) (m + 1 + 1) (n - (m + 1 + 1)) = allK (avP f) 1 (n - 1)) := S'.out
        clear S'
        go_wp2
        go_roundg (n - (m + 1))
        case measure => omega
        case rel => exact ⟨m + 1 + 1, by go_num, by omega, by omega, by omega, NX.out, S2⟩
    · have hltz : ¬ (k : Int) < (n : Int) := by omega
      have S2 : Hid (true = allK (avP f) 1 (n - 1)) := by
        have := S.out
        rwa [show n - k = 0 by omega, allK] at this
      clear S
      go_wp2
      go_ret
      exact ⟨ret_bool S2.out, G.out⟩

def knP (f : Nat → Kn) (k : Nat) : Bool := preB (f (k - 1)).a (f (k - 1)).b (f k).a (f k).b
set_option maxHeartbeats 4000000 in
theorem asckn_any (p : Option Addr) (n c : Nat) (f : Nat → Kn) (w : World) (H : SRow w p n 3 (knC f)) (hn : n ≤ 100000) :
    Calls Try.prog 50 #[.slice p n c, .func (.func 51) #[] #[]] w fun e w' => e = .returned (.bool (allK (knP f) 1 (n - 1))) ∧ Grew w w' := by
  have HA := hide H
  have S0 : Hid (n = 0 ∨ allK (knP f) 1 (n - 1) = allK (knP f) 1 (n - 1)) := Or.inr rfl
  clear H
  go_enter Try.func50, Try.ntmps50
  go_wp2
  go_loopg [5] (n + 1) (fun gh vk wr => ∃ (k : Nat), vk = .int .i64 (k : Int) ∧ (k ≤ n ∨ k = 1) ∧ n - k < gh ∧ 1 ≤ k ∧ Hid (Grew w wr) ∧ Hid (allK (knP f) k (n - k) = allK (knP f) 1 (n - 1)))
  case atStart => exact ⟨1, by go_num, by omega, by omega, by omega, Grew.refl _, rfl⟩
  case round =>
    clear S0
    obtain ⟨wo, rfl⟩ : ∃ wo : World, wo = wr := ⟨_, rfl⟩
    obtain ⟨k, rfl, hk, hg, h1, G, S⟩ := hrel
    by_cases hlt : k < n
    · have hltz : (k : Int) < (n : Int) := by omega
      obtain ⟨m, rfl⟩ : ∃ m, k = m + 1 := ⟨k - 1, by omega⟩
      obtain ⟨b, off, rfl, hb, hc⟩ := (HA.out.grew G.out) (by omega)
      have hm0 : (0 : Int) ≤ (m : Int) := by omega
      have hmn : (m : Int) < (n : Int) := by omega
      have hm1 : (0 : Int) ≤ (m : Int) + 1 := by omega
      have hltz1 : (m : Int) + 1 < (n : Int) := by omega
      have wm : IntKind.i64.wrap (m : Int) = (m : Int) := wr (by omega) (by omega)
      have hgr : Hid (∀ q os, Grew wo (grow (wo.drewN q) os)) := fun q os => ((Grew.refl wo).drewN q).grow os
      have hcc : Hid (∀ i, i < n → ∀ j, j < 3 → ∀ q os, (grow (wo.drewN q) os).cell? ⟨b, off + i * 3 + j, none⟩ = some (knC f i j)) := fun i hi j hj q os => ((hgr.out q os).1.cell (p := ⟨b, off + i * 3 + j, none⟩) hb).trans (hc i hi j hj)
      have c0 : ∀ q os, (grow (wo.drewN q) os).cell? ⟨b, off + m * 3, none⟩ = some (.int .i32 (f m).a) := hcc.out m (by omega) 0 (by decide)
      have d0 : ∀ q os, (grow (wo.drewN q) os).cell? ⟨b, off + (m + 1) * 3, none⟩ = some (.int .i32 (f (m + 1)).a) := hcc.out (m + 1) hlt 0 (by decide)
      have c1 : ∀ q os, (grow (wo.drewN q) os).cell? ⟨b, off + m * 3 + 1, none⟩ = some (.int .i32 (f m).b) := hcc.out m (by omega) 1 (by decide)
      have d1 : ∀ q os, (grow (wo.drewN q) os).cell? ⟨b, off + (m + 1) * 3 + 1, none⟩ = some (.int .i32 (f (m + 1)).b) := hcc.out (m + 1) hlt 1 (by decide)
      have c2 : ∀ q os, (grow (wo.drewN q) os).cell? ⟨b, off + m * 3 + 2, none⟩ = some (.int .i64 (f m).d) := hcc.out m (by omega) 2 (by decide)
      have d2 : ∀ q os, (grow (wo.drewN q) os).cell? ⟨b, off + (m + 1) * 3 + 2, none⟩ = some (.int .i64 (f (m + 1)).d) := hcc.out (m + 1) hlt 2 (by decide)
      have KC := fun W => hide (less2_any (f m).a (f m).b (f m).d (f (m + 1)).a (f (m + 1)).b (f (m + 1)).d W)
      have hp : preB (f m).a (f m).b (f (m + 1)).a (f (m + 1)).b = knP f (m + 1) := rfl
      rw [hp] at KC
      have S' : Hid (((knP f (m + 1)) && allK (knP f) (m + 1 + 1) (n - (m + 1 + 1))) = allK (knP f) 1 (n - 1)) := by
        have := S.out
        rwa [show n - (m + 1) = n - (m + 1 + 1) + 1 by omega, allK] at this
      have GW := hide G.out
      clear hc S hb hp hcc hgr G
      generalize knP f (m + 1) = v at *
      generalize (f m).a = x0 at *
      generalize (f (m + 1)).a = y0 at *
      generalize (f m).b = x1 at *
      generalize (f (m + 1)).b = y1 at *
      generalize (f m).d = x2 at *
      generalize (f (m + 1)).d = y2 at *
      go_wp2
      refine wp_region_calm (by kernel_rfl) (by kernel_rfl) ?_
      repeat (first | (refine lex_skip rfl (by rfl) ?_) | (refine lex_calm rfl (by rfl) (fun K hK => ?_); go_simp; first | (refine hK _ ?_; clear hK K) | (apply Exists.intro; refine ⟨fun _ _ => ?_, hK _ ?_⟩; (with_reducible exact (KC _).out); clear hK K)))
      refine lex_nil ?_
      intro w3 G3
      have NX := hide (GW.out.trans G3)
      clear G3 c0 c1 c2 d0 d1 d2 KC
      cases v
      · have S2 : Hid (false = allK (knP f) 1 (n - 1)) := S'.out
        go_wp2
        go_ret
        exact ⟨ret_bool S2.out, NX.out⟩
      · have S2 : Hid (allK (knP f) (m + 1 + 1) (n - (m + 1 + 1)) = allK (knP f) 1 (n - 1)) := S'.out
        clear S'
        go_wp2
        go_roundg (n - (m + 1))
        case measure => omega
        case rel => exact ⟨m + 1 + 1, by go_num, by omega, by omega, by omega, NX.out, S2⟩
    · have hltz : ¬ (k : Int) < (n : Int) := by omega
      have S2 : Hid (true = allK (knP f) 1 (n - 1)) := by
        have := S.out
        rwa [show n - k = 0 by omega, allK] at this
      clear S
      go_wp2
      go_ret
      exact ⟨ret_bool S2.out, G.out⟩

def lgP (f : Nat → Lg) (k : Nat) : Bool := preB (f (k - 1)).a (f (k - 1)).b (f k).a (f k).b
set_option maxHeartbeats 4000000 in
theorem asclg_any (p : Option Addr) (n c : Nat) (f : Nat → Lg) (w : World) (H : SRow w p n 4 (lgC f)) (hn : n ≤ 100000) :
    Calls Try.prog 53 #[.slice p n c, .func (.func 54) #[] #[]] w fun e w' => e = .returned (.bool (allK (lgP f) 1 (n - 1))) ∧ Grew w w' := by
  have HA := hide H
  have S0 : Hid (n = 0 ∨ allK (lgP f) 1 (n - 1) = allK (lgP f) 1 (n - 1)) := Or.inr rfl
  clear H
  go_enter Try.func53, Try.ntmps53
  go_wp2
  go_loopg [5] (n + 1) (fun gh vk wr => ∃ (k : Nat), vk = .int .i64 (k : Int) ∧ (k ≤ n ∨ k = 1) ∧ n - k < gh ∧ 1 ≤ k ∧ Hid (Grew w wr) ∧ Hid (allK (lgP f) k (n - k) = allK (lgP f) 1 (n - 1)))
  case atStart => exact ⟨1, by go_num, by omega, by omega, by omega, Grew.refl _, rfl⟩
  case round =>
    clear S0
    obtain ⟨wo, rfl⟩ : ∃ wo : World, wo = wr := ⟨_, rfl⟩
    obtain ⟨k, rfl, hk, hg, h1, G, S⟩ := hrel
    by_cases hlt : k < n
    · have hltz : (k : Int) < (n : Int) := by omega
      obtain ⟨m, rfl⟩ : ∃ m, k = m + 1 := ⟨k - 1, by omega⟩
      obtain ⟨b, off, rfl, hb, hc⟩ := (HA.out.grew G.out) (by omega)
      have hm0 : (0 : Int) ≤ (m : Int) := by omega
      have hmn : (m : Int) < (n : Int) := by omega
      have hm1 : (0 : Int) ≤ (m : Int) + 1 := by omega
      have hltz1 : (m : Int) + 1 < (n : Int) := by omega
      have wm : IntKind.i64.wrap (m : Int) = (m : Int) := wr (by omega) (by omega)
      have hgr : Hid (∀ q os, Grew wo (grow (wo.drewN q) os)) := fun q os => ((Grew.refl wo).drewN q).grow os
      have hcc : Hid (∀ i, i < n → ∀ j, j < 4 → ∀ q os, (grow (wo.drewN q) os).cell? ⟨b, off + i * 4 + j, none⟩ = some (lgC f i j)) := fun i hi j hj q os => ((hgr.out q os).1.cell (p := ⟨b, off + i * 4 + j, none⟩) hb).trans (hc i hi j hj)
      have c0 : ∀ q os, (grow (wo.drewN q) os).cell? ⟨b, off + m * 4, none⟩ = some (.int .i32 (f m).a) := hcc.out m (by omega) 0 (by decide)
      have d0 : ∀ q os, (grow (wo.drewN q) os).cell? ⟨b, off + (m + 1) * 4, none⟩ = some (.int .i32 (f (m + 1)).a) := hcc.out (m + 1) hlt 0 (by decide)
      have c1 : ∀ q os, (grow (wo.drewN q) os).cell? ⟨b, off + m * 4 + 1, none⟩ = some (.int .i32 (f m).b) := hcc.out m (by omega) 1 (by decide)
      have d1 : ∀ q os, (grow (wo.drewN q) os).cell? ⟨b, off + (m + 1) * 4 + 1, none⟩ = some (.int .i32 (f (m + 1)).b) := hcc.out (m + 1) hlt 1 (by decide)
      have c2 : ∀ q os, (grow (wo.drewN q) os).cell? ⟨b, off + m * 4 + 2, none⟩ = some (.int .i64 (f m).g) := hcc.out m (by omega) 2 (by decide)
      have d2 : ∀ q os, (grow (wo.drewN q) os).cell? ⟨b, off + (m + 1) * 4 + 2, none⟩ = some (.int .i64 (f (m + 1)).g) := hcc.out (m + 1) hlt 2 (by decide)
      have c3 : ∀ q os, (grow (wo.drewN q) os).cell? ⟨b, off + m * 4 + 3, none⟩ = some (.int .i64 (f m).w) := hcc.out m (by omega) 3 (by decide)
      have d3 : ∀ q os, (grow (wo.drewN q) os).cell? ⟨b, off + (m + 1) * 4 + 3, none⟩ = some (.int .i64 (f (m + 1)).w) := hcc.out (m + 1) hlt 3 (by decide)
      have KC := fun W => hide (less3_any (f m).a (f m).b (f m).g (f m).w (f (m + 1)).a (f (m + 1)).b (f (m + 1)).g (f (m + 1)).w W)
      have hp : preB (f m).a (f m).b (f (m + 1)).a (f (m + 1)).b = lgP f (m + 1) := rfl
      rw [hp] at KC
      have S' : Hid (((lgP f (m + 1)) && allK (lgP f) (m + 1 + 1) (n - (m + 1 + 1))) = allK (lgP f) 1 (n - 1)) := by
        have := S.out
        rwa [show n - (m + 1) = n - (m + 1 + 1) + 1 by omega, allK] at this
      have GW := hide G.out
      clear hc S hb hp hcc hgr G
      generalize lgP f (m + 1) = v at *
      generalize (f m).a = x0 at *
      generalize (f (m + 1)).a = y0 at *
      generalize (f m).b = x1 at *
      generalize (f (m + 1)).b = y1 at *
      generalize (f m).g = x2 at *
      generalize (f (m + 1)).g = y2 at *
      generalize (f m).w = x3 at *
      generalize (f (m + 1)).w = y3 at *
      go_wp2
      refine wp_region_calm (by kernel_rfl) (by kernel_rfl) ?_
      repeat (first | (refine lex_skip rfl (by rfl) ?_) | (refine lex_calm rfl (by rfl) (fun K hK => ?_); go_simp; first | (refine hK _ ?_; clear hK K) | (apply Exists.intro; refine ⟨fun _ _ => ?_, hK _ ?_⟩; (with_reducible exact (KC _).out); clear hK K)))
      refine lex_nil ?_
      intro w3 G3
      have NX := hide (GW.out.trans G3)
      clear G3 c0 c1 c2 d0 d1 d2 KC
      cases v
      · have S2 : Hid (false = allK (lgP f) 1 (n - 1)) := S'.out
        go_wp2
        go_ret
        exact ⟨ret_bool S2.out, NX.out⟩
      · have S2 : Hid (allK (lgP f) (m + 1 + 1) (n - (m + 1 + 1)) = allK (lgP f) 1 (n - 1)) := S'.out
        clear S'
        go_wp2
        go_roundg (n - (m + 1))
        case measure => omega
        case rel => exact ⟨m + 1 + 1, by go_num, by omega, by omega, by omega, NX.out, S2⟩
    · have hltz : ¬ (k : Int) < (n : Int) := by omega
      have S2 : Hid (true = allK (lgP f) 1 (n - 1)) := by
        have := S.out
        rwa [show n - k = 0 by omega, allK] at this
      clear S
      go_wp2
      go_ret
      exact ⟨ret_bool S2.out, G.out⟩
end Go.Proofs.Ytfiaongnogiegaa
