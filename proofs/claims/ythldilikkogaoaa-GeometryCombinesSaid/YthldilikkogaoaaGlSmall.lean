/- What the laws' small returns; what '&' with 3 and with 63 gives; no condition. -/
import Derived.Test.YthldilikkogaoaaGtC
namespace Go.Proofs.Ythldilikkogaoaa
open Go.RowKit Go.Sort
set_option linter.unusedSimpArgs false
set_option linter.unusedVariables false

theorem and3 (k : Int) : bits .and .i64 k 3 = k % 4 := by
  show IntKind.i64.wrap ((BitVec.ofInt 64 k &&& BitVec.ofInt 64 3).toNat : Int) = _
  have h1 : (BitVec.ofInt 64 k).toNat = (k % 18446744073709551616).toNat := by rw [BitVec.toNat_ofInt]; rfl
  have h2 : (BitVec.ofInt 64 3).toNat = 2 ^ 2 - 1 := by decide
  rw [BitVec.toNat_and, h1, h2, Nat.and_two_pow_sub_one_eq_mod, IntKind.wrap_i64]
  omega
theorem and63 (k : Int) : bits .and .i64 k 63 = k % 64 := by
  show IntKind.i64.wrap ((BitVec.ofInt 64 k &&& BitVec.ofInt 64 63).toNat : Int) = _
  have h1 : (BitVec.ofInt 64 k).toNat = (k % 18446744073709551616).toNat := by rw [BitVec.toNat_ofInt]; rfl
  have h2 : (BitVec.ofInt 64 63).toNat = 2 ^ 6 - 1 := by decide
  rw [BitVec.toNat_and, h1, h2, Nat.and_two_pow_sub_one_eq_mod, IntKind.wrap_i64]
  omega

set_option maxHeartbeats 4000000 in
theorem small_any (k s x y : Int) (m : Bool) (w : World) :
    Calls Try.prog 33 #[.int .i64 k, .int .i64 s, .int .i64 x, .int .i64 y, .bool m] w fun e w' => e = .returned (T.v ⟨k % 4, m, 1 + s % 4, x.tmod 1000, y.tmod 1000⟩) ∧ Grew w w' := by
  have a1 := and3 k
  have a2 := and3 s
  have a3 : IntKind.i64.wrap (1 + s % 4) = 1 + s % 4 := wr (by omega) (by omega)
  have a4 : wrap64 (1 + s % 4) = 1 + s % 4 := by unfold wrap64; omega
  go_enter Try.func33, Try.ntmps33
  go_wp2
  refine bodyPost_ret (v := T.v ⟨k % 4, m, 1 + s % 4, x.tmod 1000, y.tmod 1000⟩) (by simp [results, Try.results33, go_sem, R.zero, T.zero]) rfl ⟨rfl, ?_⟩
  repeat' (first | (with_reducible exact Grew.refl _) | (with_reducible refine Grew.setCell ?_ ?_ _) | (with_reducible refine Grew.drewN ?_ _) | (with_reducible refine Grew.alloc ?_ _) | (dsimp only; omega))
end Go.Proofs.Ythldilikkogaoaa
