/- The reference's Resolve answers as the laws of package box ask, for all arguments; no condition. -/
import Derived.Test.YtdoenkngmgclmaaBoC
import Derived.Test.YtdoenkngmgclmaaBoR
namespace Go.Proofs.Ytdoenkngmgclmaa
open Go.RowKit Go.Sort
theorem rRes : KRes 40 := by
  intro av gap p n c x w hr hn
  by_cases h1 : 100 < n
  · have e : erR av gap x n = 2 := by unfold erR; rw [if_pos h1]
    rw [e]
    refine (rResolve_long av gap p n c w h1 hn).mono ?_
    rintro e w' ⟨rfl, rfl⟩
    exact ⟨none, 0, rfl, reads_none _ _, Below.refl _ _⟩
  · by_cases h2 : (lenB av && lenB gap && okA x 0 n) = true
    · have e : erR av gap x n = 0 := by unfold erR; rw [if_neg h1, if_pos h2]
      rw [e]
      simp only [Bool.and_eq_true] at h2
      obtain ⟨⟨a1, a2⟩, a3⟩ := h2
      refine (rResolve_ok av gap p n c x w hr (by omega) ((lenB_iff _).1 a1) ((lenB_iff _).1 a2) (fun i hi => (okA_iff x n 0).1 a3 i (by omega) (by omega))).mono ?_
      rintro e w' ⟨b, rfl, hb, hi, hB⟩
      exact ⟨some ⟨b, 0, none⟩, n, rfl, hi.reads, hB⟩
    · have e : erR av gap x n = 1 := by unfold erR; rw [if_neg h1, if_neg h2]
      rw [e]
      refine (rResolve_bad av gap p n c x w hr (by omega) (by simpa using h2)).mono ?_
      rintro e w' ⟨rfl, hB⟩
      exact ⟨none, 0, rfl, reads_none _ _, hB⟩
end Go.Proofs.Ytdoenkngmgclmaa
