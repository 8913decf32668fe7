/- The references' sum of a list of integers that are no greater than 2^40; no other condition. -/
import Derived.Test.YtjaapdkhjgolfaaFxCheck
import Derived.Test.YtjaapdkhjgolfaaGeBase
namespace Go.Proofs.Ytjaapdkhjgolfaa
open Go.RowKit Go.Sort
set_option linter.unusedVariables false
set_option linter.unusedSimpArgs false

set_option maxHeartbeats 2000000 in
theorem rSum_any (p : Option Addr) (n c : Nat) (f : Nat → Int) (w : World) (hr : Reads w p n f) (hn : n ≤ 1000) (hf : ∀ i, i < n → -1099511627776 ≤ f i ∧ f i ≤ 1099511627776) :
    Calls Try.prog 19 #[.slice p n c] w fun e w' => e = .returned (.int .i64 (sumF f n)) ∧ w' = w := by
  have H := hide hr
  have HF := hide hf
  clear hr hf
  go_enter Try.func19, Try.ntmps19
  go_wp2_with fail
  go_loopg [3, 4] (n + 1) (fun g1 va vk wr => ∃ k : Nat, va = .int .i64 (sumF f k) ∧ vk = .int .i64 (k : Int) ∧ k ≤ n ∧ n - k < g1 ∧ (-(k : Int) * 1099511627776 ≤ sumF f k ∧ sumF f k ≤ k * 1099511627776) ∧ Hid (wr = w))
  case atStart => exact ⟨0, rfl, by go_num, by omega, by omega, by simp [sumF], rfl⟩
  case round =>
    obtain ⟨k, rfl, rfl, hk, hg, ⟨s1, s2⟩, HW⟩ := hrel
    obtain rfl := HW.out
    by_cases hlt : k < n
    · have hltz : (k : Int) < (n : Int) := by omega
      obtain ⟨b, off, rfl, hb⟩ := H.out (by omega)
      have c1 : wr.cell? ⟨b, off + k, none⟩ = some (.int .i64 (f k)) := hb k hlt
      have es : sumF f (k + 1) = sumF f k + f k := rfl
      have ⟨f1, f2⟩ := HF.out k hlt
      replace es := hide es
      clear hb HW
      generalize sumF f k = sk at *
      generalize f k = fk at *
      have v1 : IntKind.i64.wrap (sk + fk) = sk + fk := by rw [IntKind.wrap_i64]; omega
      go_wp2_with fail
      go_roundg (n - k)
      case measure => omega
      case rel => exact ⟨k + 1, by rw [es.out], by go_num, by omega, by omega, by rw [es.out]; push_cast; omega, rfl⟩
    · have hltz : ¬ (k : Int) < (n : Int) := by omega
      obtain rfl : n = k := by omega
      go_wp2_with fail
      go_ret
      exact ⟨rfl, rfl⟩
end Go.Proofs.Ytjaapdkhjgolfaa
