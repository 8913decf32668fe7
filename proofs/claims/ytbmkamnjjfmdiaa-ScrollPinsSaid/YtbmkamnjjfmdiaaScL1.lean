/- What the laws ScrollClamps and ScrollReveals run, where Clamp, Reveal and Visible answer as the chapter asks; no other condition. -/
import Derived.Test.YtbmkamnjjfmdiaaScM
import Derived.Test.YtbmkamnjjfmdiaaBitM2
namespace Go.Proofs.Ytbmkamnjjfmdiaa
open Go.RowKit Go.Sort
set_option linter.unusedVariables false
set_option linter.unusedSimpArgs false

def KCl (fn : Nat) : Prop := ∀ (o c h : Int) (w : World), Calls Try.prog fn #[.int .i64 o, .int .i64 c, .int .i64 h] w fun e w' => e = .returned (.int .i64 (ocF o c h)) ∧ Below w.heap.size w w'
def KRv (fn : Nat) : Prop := ∀ (o h a x : Int) (w : World), Calls Try.prog fn #[.int .i64 o, .int .i64 h, .int .i64 a, .int .i64 x] w fun e w' => e = .returned (.int .i64 (reF o h a x)) ∧ Below w.heap.size w w'
def KVi (fn : Nat) : Prop := ∀ (p : Option Addr) (n c : Nat) (l : Nat → Stp) (o h : Int) (w : World), SRow w p n 2 (stC l) → n ≤ c → n ≤ 9223372036854775807 → Calls Try.prog fn #[.slice p n c, .int .i64 o, .int .i64 h] w fun e w' => e = .returned (.tuple #[.int .i64 (vi1 n l o h), .int .i64 (vi2 n l o h)]) ∧ Below w.heap.size w w'
def awS (i : Nat) : Stp := match i with
  | 0 => ⟨⟨#[97]⟩, 10⟩
  | 1 => ⟨⟨#[98]⟩, 20⟩
  | _ => ⟨⟨#[99]⟩, 30⟩
theorem aw_vi : vi1 3 awS 10 20 = 1 ∧ vi2 3 awS 10 20 = 2 := by decide
theorem aw_oc : ocF 100 60 20 = 40 := by decide
theorem aw_re : reF 0 20 30 10 = 20 := by decide
theorem aw_srow (w : World) : SRow (w.alloc (.cells #[.string ⟨#[97]⟩, .int .i64 10, .string ⟨#[98]⟩, .int .i64 20, .string ⟨#[99]⟩, .int .i64 30] 38)) (some ⟨w.heap.size, 0, none⟩) 3 2 (stC awS) := fun _ => by
  refine ⟨w.heap.size, 0, rfl, by simp, fun i hi j hj => ?_⟩
  have e := heap_alloc_new w (.cells #[.string ⟨#[97]⟩, .int .i64 10, .string ⟨#[98]⟩, .int .i64 20, .string ⟨#[99]⟩, .int .i64 30] 38)
  unfold World.cell?
  rw [e]
  rcases (show i = 0 ∨ i = 1 ∨ i = 2 by omega) with rfl | rfl | rfl <;> rcases (show j = 0 ∨ j = 1 by omega) with rfl | rfl <;> rfl
set_option maxHeartbeats 4000000 in
theorem sawake_any (hC : KCl 14) (hR : KRv 16) (hV : KVi 10) (w : World) :
    Calls Try.prog 20 #[] w fun e w' => e = .returned (.bool true) ∧ Below w.heap.size w w' := by
  have H1 := hV _ 3 3 awS 10 20 _ (aw_srow w) (by omega) (by omega)
  rw [aw_vi.1, aw_vi.2] at H1
  replace H1 := hide H1
  have H2 := fun W => hide (hC 100 60 20 W)
  rw [aw_oc] at H2
  have H3 := fun W => hide (hR 0 20 30 10 W)
  rw [aw_re] at H3
  have B1 : Hid (Below w.heap.size w (w.alloc (.cells #[.string ⟨#[97]⟩, .int .i64 10, .string ⟨#[98]⟩, .int .i64 20, .string ⟨#[99]⟩, .int .i64 30] 38))) := (Below.refl _ _).alloc (Nat.le_refl _) _
  clear hC hR hV
  go_enter Try.func20, Try.ntmps20
  go_wp2_with fail
  refine H1.out.mono ?_
  rintro e w1 ⟨rfl, hB⟩
  have B2 : Hid (Below w.heap.size w w1) := B1.out.trans (hB.mono B1.out.size)
  clear H1 B1 hB
  go_wp2_with fail
  refine (H2 _).out.mono ?_
  rintro e w2 ⟨rfl, hB⟩
  have B3 : Hid (Below w.heap.size w w2) := B2.out.trans (hB.mono B2.out.size)
  clear H2 B2 hB
  go_wp2_with fail
  refine (H3 _).out.mono ?_
  rintro e w3 ⟨rfl, hB⟩
  have B4 : Hid (Below w.heap.size w w3) := B3.out.trans (hB.mono B3.out.size)
  clear H3 B3 hB
  go_wp2_with fail
  go_ret
  exact ⟨rfl, B4.out⟩
/-- What clamping gives, where all is in range. -/
theorem oc_law {o c h : Int} (h1 : -100000 < o) (h2 : o < 100000) (h3 : 0 ≤ c) (h4 : c < 65536) (h5 : 0 ≤ h) (h6 : h < 65536) :
    ∃ n, ocF o c h = n ∧ ocF n c h = n ∧ 0 ≤ n ∧ n < 65536 ∧ ((c ≤ h ∧ n = 0) ∨ (h < c ∧ n + h ≤ c)) ∧ (o < 0 ∨ c ≤ h ∨ c < o + h ∨ n = o) := by
  have e : ∀ x : Int, -100000 < x → x < 100000 → ocF x c h = if c ≤ h then 0 else clampS x 0 (c - h) := fun x a b => by
    unfold ocF
    rw [inR_iff.2 ⟨by omega, by omega⟩, inR_iff.2 ⟨by omega, by omega⟩, szR_iff.2 ⟨by omega, by omega⟩]; rfl
  refine ⟨_, rfl, ?_⟩
  rw [e o h1 h2]
  by_cases q : c ≤ h
  · rw [if_pos q, e 0 (by omega) (by omega), if_pos q]
    exact ⟨rfl, by omega, by omega, Or.inl ⟨q, rfl⟩, Or.inr (Or.inl q)⟩
  · rw [if_neg q]
    obtain ⟨n, hn⟩ : ∃ n, clampS o 0 (c - h) = n := ⟨_, rfl⟩
    have a : 0 ≤ n ∧ n + h ≤ c ∧ (o < 0 ∨ c < o + h ∨ n = o) := by rw [← hn]; unfold clampS; omega
    have b : clampS n 0 (c - h) = n := by unfold clampS; omega
    rw [hn, e n (by omega) (by omega), if_neg q, b]
    exact ⟨rfl, by omega, by omega, Or.inr ⟨by omega, by omega⟩, by omega⟩
/-- What revealing gives, where all is in range. -/
theorem re_law {o h a x : Int} (h1 : -100000 < o) (h2 : o < 100000) (h3 : 0 ≤ h) (h4 : h < 4096) (h5 : -100000 < a) (h6 : a < 100000) (h7 : 0 ≤ x) (h8 : x < 4096) :
    ∃ n, reF o h a x = n ∧ reF n h a x = n ∧ -200000 < n ∧ n < 200000 ∧ (h < x → n = a) ∧ (x ≤ h → n ≤ a ∧ a + x ≤ n + h ∧ ((o ≤ a ∧ a + x ≤ o + h) → n = o) ∧ ((o ≤ a ∧ a + x ≤ o + h) ∨ n = a ∨ n = a + x - h)) := by
  have e : ∀ y : Int, -200000 < y → y < 200000 → reF y h a x = if a < y ∨ h < x then a else if y + h < a + x then a + x - h else y := fun y p q => by
    unfold reF
    rw [inR_iff.2 ⟨by omega, by omega⟩, inR_iff.2 ⟨by omega, by omega⟩, szR_iff.2 ⟨by omega, by omega⟩, inR_iff.2 ⟨by omega, by omega⟩]; rfl
  refine ⟨_, rfl, ?_⟩
  rw [e o (by omega) (by omega)]
  by_cases q1 : a < o ∨ h < x
  · rw [if_pos q1, e a (by omega) (by omega)]
    refine ⟨?_, by omega, by omega, fun _ => rfl, fun _ => ⟨by omega, by omega, by omega, by omega⟩⟩
    split
    · rfl
    · rw [if_neg (by omega)]
  · rw [if_neg q1]
    by_cases q2 : o + h < a + x
    · rw [if_pos q2, e _ (by omega) (by omega)]
      refine ⟨?_, by omega, by omega, fun _ => by omega, fun _ => ⟨by omega, by omega, by omega, by omega⟩⟩
      rw [if_neg (by omega), if_neg (by omega)]
    · rw [if_neg q2, e o (by omega) (by omega), if_neg q1, if_neg q2]
      exact ⟨rfl, by omega, by omega, fun _ => by omega, fun _ => ⟨by omega, by omega, fun _ => rfl, by omega⟩⟩
/-- The cases of a clamping. -/
theorem scl_cases {x c h n : Int} (n3 : (c ≤ h ∧ n = 0) ∨ (h < c ∧ n + h ≤ c)) (n4 : x < 0 ∨ c ≤ h ∨ c < x + h ∨ n = x) :
    (c ≤ h ∧ n = 0 ∧ x < 0) ∨ (c ≤ h ∧ n = 0 ∧ ¬ x < 0) ∨ (¬ c ≤ h ∧ h < c ∧ n + h ≤ c ∧ x < 0) ∨ (¬ c ≤ h ∧ h < c ∧ n + h ≤ c ∧ ¬ x < 0 ∧ c < x + h) ∨ (¬ c ≤ h ∧ h < c ∧ n + h ≤ c ∧ ¬ x < 0 ∧ ¬ c < x + h ∧ n = x) := by omega
set_option maxHeartbeats 2000000 in
theorem scl_core (hC : KCl 14) (hR : KRv 16) (hV : KVi 10) (offset content height : Int) (w : World) :
    Calls Try.prog 5 #[.int .i64 offset, .int .i64 content, .int .i64 height] w fun e w' => e = .returned (.bool true) ∧ Below w.heap.size w w' := by
  have t := td_lt offset 100000 (by decide)
  have K1 := hide (hC (offset.tmod 100000) (content % 65536) (height % 65536) w)
  obtain ⟨n, e1, e2, n1, n2, n3, n4⟩ := oc_law (o := offset.tmod 100000) (c := content % 65536) (h := height % 65536) (by omega) (by omega) (by omega) (by omega) (by omega) (by omega)
  have K2 := hide (fun w1 => hC n (content % 65536) (height % 65536) w1)
  rw [e1] at K1
  rw [e2] at K2
  have A := hide (fun W => sawake_any hC hR hV W)
  have wa : IntKind.i64.wrap (n + height % 65536) = n + height % 65536 := wr (by omega) (by omega)
  have wb : IntKind.i64.wrap (offset.tmod 100000 + height % 65536) = offset.tmod 100000 + height % 65536 := wr (by omega) (by omega)
  have M := scl_cases n3 n4
  clear e1 e2 hC hR hV n3 n4 n2 t
  rcases M with ⟨p1, rfl, p2⟩ | ⟨p1, rfl, p2⟩ | ⟨p1, p2, p3, p4⟩ | ⟨p1, p2, p3, p4, p5⟩ | ⟨p1, p2, p3, p4, p5, rfl⟩
  all_goals go_enter Try.func5, Try.ntmps5
  all_goals go_wp2_with fail
  all_goals generalize offset.tmod 100000 = x at *
  all_goals generalize content % 65536 = c at *
  all_goals generalize height % 65536 = h at *
  all_goals refine K1.out.mono ?_
  all_goals rintro e w1 ⟨rfl, hB⟩
  all_goals have K2 := hide (K2.out w1)
  all_goals have B1 := hide hB
  all_goals clear K1 hB
  all_goals go_wp2_with fail
  all_goals refine K2.out.mono ?_
  all_goals rintro e w2 ⟨rfl, hB⟩
  all_goals have B2 := hide (B1.out.trans (hB.mono B1.out.size))
  all_goals have A3 := hide (A.out w2)
  all_goals clear K2 A B1 hB
  all_goals go_wp2_with fail
  all_goals refine A3.out.mono ?_
  all_goals rintro e w3 ⟨rfl, hB⟩
  all_goals have B3 := hide (B2.out.trans (hB.mono B2.out.size))
  all_goals clear A3 B2 hB
  all_goals go_wp2_with fail
  all_goals go_ret
  all_goals exact ⟨rfl, B3.out⟩
end Go.Proofs.Ytbmkamnjjfmdiaa
