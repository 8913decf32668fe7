/- What the law ScrollReveals runs, where Clamp, Reveal and Visible answer as the chapter asks; no other condition. -/
import Derived.Test.YtbmkamnjjfmdiaaScL1
namespace Go.Proofs.Ytbmkamnjjfmdiaa
open Go.RowKit Go.Sort
set_option linter.unusedVariables false
set_option linter.unusedSimpArgs false

/-- The cases of a revealing. -/
theorem srv_cases {o h a x n : Int} (n3 : h < x → n = a) (n4 : x ≤ h → n ≤ a ∧ a + x ≤ n + h ∧ ((o ≤ a ∧ a + x ≤ o + h) → n = o) ∧ ((o ≤ a ∧ a + x ≤ o + h) ∨ n = a ∨ n = a + x - h)) :
    (h < x ∧ n = a) ∨ (¬ h < x ∧ n ≤ a ∧ a + x ≤ n + h ∧ o ≤ a ∧ a + x ≤ o + h ∧ n = o)
    ∨ (¬ h < x ∧ n ≤ a ∧ a + x ≤ n + h ∧ ¬ o ≤ a ∧ n = a) ∨ (¬ h < x ∧ n ≤ a ∧ a + x ≤ n + h ∧ ¬ o ≤ a ∧ ¬ n = a ∧ n = a + x - h)
    ∨ (¬ h < x ∧ n ≤ a ∧ a + x ≤ n + h ∧ o ≤ a ∧ ¬ a + x ≤ o + h ∧ n = a) ∨ (¬ h < x ∧ n ≤ a ∧ a + x ≤ n + h ∧ o ≤ a ∧ ¬ a + x ≤ o + h ∧ ¬ n = a ∧ n = a + x - h) := by
  by_cases q1 : h < x
  · exact Or.inl ⟨q1, n3 q1⟩
  obtain ⟨m1, m2, m3, m4⟩ := n4 (by omega)
  refine Or.inr ?_
  by_cases q2 : o ≤ a
  · by_cases q3 : a + x ≤ o + h
    · exact Or.inl ⟨q1, m1, m2, q2, q3, m3 ⟨q2, q3⟩⟩
    · refine Or.inr (Or.inr (Or.inr ?_))
      by_cases q4 : n = a
      · exact Or.inl ⟨q1, m1, m2, q2, q3, q4⟩
      · exact Or.inr ⟨q1, m1, m2, q2, q3, q4, by rcases m4 with m | m | m <;> omega⟩
  · refine Or.inr ?_
    by_cases q4 : n = a
    · exact Or.inl ⟨q1, m1, m2, q2, q4⟩
    · exact Or.inr (Or.inl ⟨q1, m1, m2, q2, q4, by rcases m4 with m | m | m <;> omega⟩)
set_option maxHeartbeats 2000000 in
theorem srv_core (hC : KCl 14) (hR : KRv 16) (hV : KVi 10) (offset height at' extent : Int) (w : World) :
    Calls Try.prog 6 #[.int .i64 offset, .int .i64 height, .int .i64 at', .int .i64 extent] w fun e w' => e = .returned (.bool true) ∧ Below w.heap.size w w' := by
  have t := td_lt offset 100000 (by decide)
  have t2 := td_lt at' 100000 (by decide)
  have K1 := hide (hR (offset.tmod 100000) (height % 4096) (at'.tmod 100000) (extent % 4096) w)
  obtain ⟨n, e1, e2, n1, n2, n3, n4⟩ := re_law (o := offset.tmod 100000) (h := height % 4096) (a := at'.tmod 100000) (x := extent % 4096) (by omega) (by omega) (by omega) (by omega) (by omega) (by omega) (by omega) (by omega)
  have K2 := hide (fun w1 => hR n (height % 4096) (at'.tmod 100000) (extent % 4096) w1)
  rw [e1] at K1
  rw [e2] at K2
  have A := hide (fun W => sawake_any hC hR hV W)
  have wa : IntKind.i64.wrap (n + height % 4096) = n + height % 4096 := wr (by omega) (by omega)
  have wb : IntKind.i64.wrap (offset.tmod 100000 + height % 4096) = offset.tmod 100000 + height % 4096 := wr (by omega) (by omega)
  have wc : IntKind.i64.wrap (at'.tmod 100000 + extent % 4096) = at'.tmod 100000 + extent % 4096 := wr (by omega) (by omega)
  have wd : IntKind.i64.wrap (at'.tmod 100000 + extent % 4096 - height % 4096) = at'.tmod 100000 + extent % 4096 - height % 4096 := wr (by omega) (by omega)
  have M := srv_cases n3 n4
  clear e1 e2 hC hR hV n3 n4 n1 n2 t t2
  rcases M with ⟨p1, rfl⟩ | ⟨p1, p2, p3, p4, p5, rfl⟩ | ⟨p1, p2, p3, p4, rfl⟩ | ⟨p1, p2, p3, p4, p5, rfl⟩ | ⟨p1, p2, p3, p4, p5, rfl⟩ | ⟨p1, p2, p3, p4, p5, p6, rfl⟩
  all_goals go_enter Try.func6, Try.ntmps6
  all_goals go_wp2_with fail
  all_goals generalize offset.tmod 100000 = o at *
  all_goals generalize at'.tmod 100000 = a at *
  all_goals generalize height % 4096 = h at *
  all_goals generalize extent % 4096 = x at *
  all_goals refine K1.out.mono ?_
  all_goals rintro e w1 ⟨rfl, hB⟩
  all_goals have K2 := hide (K2.out w1)
  all_goals have B1 := hide hB
  all_goals clear K1 hB
  all_goals go_wp2_with fail
  all_goals refine K2.out.mono ?_
  all_goals rintro e w2 ⟨rfl, hB⟩
  all_goals have B2 := hide (B1.out.trans (hB.mono B1.out.size))
  all_goals have A3 := hide (A.out w2)
  all_goals clear K2 A B1 hB
  all_goals go_wp2_with fail
  all_goals refine A3.out.mono ?_
  all_goals rintro e w3 ⟨rfl, hB⟩
  all_goals have B3 := hide (B2.out.trans (hB.mono B2.out.size))
  all_goals clear A3 B2 hB
  all_goals go_wp2_with fail
  all_goals go_ret
  all_goals exact ⟨rfl, B3.out⟩
end Go.Proofs.Ytbmkamnjjfmdiaa
