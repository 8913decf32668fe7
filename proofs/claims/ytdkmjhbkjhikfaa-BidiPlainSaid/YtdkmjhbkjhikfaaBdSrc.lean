/- What New and N of the verifier's reader of numbers do: N(6) gives a number from 0 to 5. -/
import Derived.Test.YtdkmjhbkjhikfaaBdT
namespace Go.Proofs.Ytdkmjhbkjhikfaa
open Go.RowKit Go.Sort
set_option linter.unusedVariables false
set_option linter.unusedSimpArgs false

theorem New_any (p : Option Addr) (n c : Nat) (w : World) (hnc : n ≤ c) (hp : 0 < n → ∃ a, p = some a) :
    Calls Try.prog 7 #[.slice p n c] w fun e w' => ∃ sb m c', e = .returned (.pointer (some ⟨sb, 0, none⟩)) ∧ Grew w w' ∧ w.heap.size ≤ sb ∧ (m ≤ n ∧ m ≤ 4000) ∧ Blk w' sb 38 [.slice p m c', .int .i64 0] := by
  by_cases h : n ≤ 4000
  · have hz : ¬ (4000 : Int) < (n : Int) := by omega
    clear hp
    go_enter Try.func7, Try.ntmps7
    go_wp2
    go_ret
    first
      | exact ⟨_, n, c, rfl, (Grew.refl w).alloc _, Nat.le_refl _, ⟨Nat.le_refl _, h⟩, Blk.new rfl⟩
      | exact ⟨_, rfl, (Grew.refl w).alloc _, Nat.le_refl _, n, ⟨Nat.le_refl _, h⟩, c, Blk.new rfl⟩
  · have hz : (4000 : Int) < (n : Int) := by omega
    have hc : (4000 : Int) ≤ (c : Int) := by omega
    obtain ⟨a, rfl⟩ := hp (by omega)
    go_enter Try.func7, Try.ntmps7
    go_wp2
    go_ret
    first
      | exact ⟨_, 4000, _, rfl, (Grew.refl w).alloc _, Nat.le_refl _, ⟨by omega, Nat.le_refl _⟩, Blk.new rfl⟩
      | exact ⟨_, rfl, (Grew.refl w).alloc _, Nat.le_refl _, 4000, ⟨by omega, Nat.le_refl _⟩, _, Blk.new rfl⟩

theorem tmod6 (x : Int) : -6 < x.tmod 6 ∧ x.tmod 6 < 6 := by
  have h := Int.natAbs_tmod x 6
  have h2 : x.natAbs % (6 : Int).natAbs < 6 := Nat.mod_lt _ (by decide)
  omega

set_option maxRecDepth 100000 in
set_option maxHeartbeats 2000000 in
theorem N_six (sb m c t : Nat) (p : Option Addr) (f : Nat → Int) (w : World) (H : Blk w sb 38 [.slice p m c, .int .i64 (t : Int)]) (hr : Reads w p m f) (hm : m ≤ 4000) (ht : t ≤ 100000) :
    Calls Try.prog 12 #[.pointer (some ⟨sb, 0, none⟩), .int .i64 6] w fun e w' => ∃ x : Nat, e = .returned (.int .i64 (x : Int)) ∧ x < 6 ∧ But sb w w' ∧ ∃ t' : Nat, t' ≤ t + 1 ∧ Blk w' sb 38 [.slice p m c, .int .i64 (t' : Int)] := by
  have b0 := H.cell 0 rfl
  have b1 := H.cell 1 rfl
  have f1 := H.free 1
  by_cases htm : t < m
  · have hz : ¬ (m : Int) ≤ (t : Int) := by omega
    have hz2 : (t : Int) < (m : Int) := by omega
    have h0 : (0 : Int) ≤ (t : Int) := by omega
    obtain ⟨b, off, rfl, hc⟩ := hr (by omega)
    have ct := hc t htm
    obtain ⟨m1, m2⟩ := tmod6 (f t)
    have NX : Hid (∀ q : Nat, But sb w ((w.drewN q).setCell ⟨sb, 1, none⟩ (.int .i64 ((t : Int) + 1))) ∧ Blk ((w.drewN q).setCell ⟨sb, 1, none⟩ (.int .i64 ((t : Int) + 1))) sb 38 [.slice (some ⟨b, off, none⟩) m c, .int .i64 (((t + 1 : Nat) : Int))]) := fun q =>
      ⟨((But.refl sb w).drewN q).setCell rfl _, (show Blk (w.drewN q) sb _ _ from H).set 1 _⟩
    clear H hr hc
    generalize hx : (f t).tmod 6 = x at *
    go_enter Try.func12, Try.ntmps12
    go_wp2
    go_quiet (fail)
    go_wp2
    go_quiet (fail)
    by_cases hneg : x < 0
    · go_wp2
      go_ret
      exact ⟨(x + 6).toNat, (show Ending.returned (.int .i64 (x + 6)) = _ from ret_int (by omega)), by omega, (NX.out _).1, t + 1, Nat.le_refl _, (NX.out _).2⟩
    · go_wp2
      go_ret
      exact ⟨x.toNat, (show Ending.returned (.int .i64 x) = _ from ret_int (by omega)), by omega, (NX.out _).1, t + 1, Nat.le_refl _, (NX.out _).2⟩
  · have hz : (m : Int) ≤ (t : Int) := by omega
    have NX : Hid (∀ q : Nat, But sb w (w.drewN q) ∧ Blk (w.drewN q) sb 38 [.slice p m c, .int .i64 (t : Int)]) := fun q => ⟨(But.refl sb w).drewN q, H⟩
    clear H hr
    go_enter Try.func12, Try.ntmps12
    go_wp2
    go_quiet (fail)
    go_wp2
    go_ret
    exact ⟨0, rfl, by omega, (NX.out _).1, t, by omega, (NX.out _).2⟩
end Go.Proofs.Ytdkmjhbkjhikfaa
