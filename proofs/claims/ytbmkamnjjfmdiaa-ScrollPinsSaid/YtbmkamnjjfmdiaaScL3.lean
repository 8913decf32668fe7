/- What the law ScrollRaw runs, where Clamp, Reveal, Visible, Keep and Pinned answer as the chapter asks; no other condition. -/
import Derived.Test.YtbmkamnjjfmdiaaScL1
import Derived.Test.YtbmkamnjjfmdiaaScR4
import Derived.BigQuiet
namespace Go.Proofs.Ytbmkamnjjfmdiaa
open Go.RowKit Go.Sort
set_option linter.unusedVariables false
set_option linter.unusedSimpArgs false

def KKe (fn : Nat) : Prop := ∀ (p q : Option Addr) (n m c d : Nat) (l l' : Nat → Stp) (o : Int) (w : World), SRow w p n 2 (stC l) → SRow w q m 2 (stC l') → n ≤ c → m ≤ d → n ≤ 9223372036854775807 → m ≤ 9223372036854775807 → (∀ i, i < n → (l i).k.size ≤ 9223372036854775807) → (∀ i, i < m → (l' i).k.size ≤ 9223372036854775807) → Calls Try.prog fn #[.slice p n c, .slice q m d, .int .i64 o] w fun e w' => e = .returned (.int .i64 (keF n m l l' o)) ∧ Below w.heap.size w w'
def npF (n : Nat) (l : Nat → Sct) (o : Int) : Nat := if piB n l o = true then n else 0
def KPi (fn : Nat) : Prop := ∀ (p : Option Addr) (n c : Nat) (l : Nat → Sct) (o : Int) (w : World), SRow w p n 3 (scC l) → n ≤ c → n ≤ 9223372036854775807 → Calls Try.prog fn #[.slice p n c, .int .i64 o] w fun e w' => ∃ q d, e = .returned (.slice q (npF n l o) d) ∧ Reads w' q (npF n l o) (piF l o) ∧ Below w.heap.size w w'
theorem rPi : KPi 13 := fun p n c l o w h _ _ => (rpi_any p n c l o w h).mono (by
  rintro e w' ⟨h1, h2, h3⟩
  unfold npF
  cases q : piB n l o with
  | false =>
    simp only [Bool.false_eq_true, if_false]
    exact ⟨none, 0, h1 q, fun hk => absurd hk (by omega), h3⟩
  | true =>
    simp only [if_true]
    obtain ⟨g, d, e1, e2⟩ := h2 q
    exact ⟨g, d, e1, e2, h3⟩)
theorem np_le {n : Nat} {l : Nat → Sct} {o : Int} : npF n l o ≤ n := by unfold npF; split <;> omega
set_option maxHeartbeats 8000000 in
theorem sraw_core (hC : KCl 14) (hR : KRv 16) (hV : KVi 10) (hK : KKe 18) (hP : KPi 12)
    (p q r : Option Addr) (n m k c d e : Nat) (f g : Nat → Stp) (s : Nat → Sct) (offset height at' extent : Int) (w : World) (H1 : SRow w p n 2 (stC f)) (H2 : SRow w q m 2 (stC g)) (H3 : SRow w r k 3 (scC s)) (h1 : n ≤ c) (h2 : m ≤ d) (h3 : k ≤ e) (S1 : ∀ i, i < n → (f i).k.size ≤ 9223372036854775807) (S2 : ∀ i, i < m → (g i).k.size ≤ 9223372036854775807) :
    Calls Try.prog 3 #[.slice p n c, .slice q m d, .slice r k e, .int .i64 offset, .int .i64 height, .int .i64 at', .int .i64 extent] w fun e w' => e = .returned (.bool true) ∧ Below w.heap.size w w' := by
  by_cases b1 : 200 < n
  · have hz : (200 : Int) < (n : Int) := by omega
    clear hC hR hV hK hP H1 H2 H3
    go_enter Try.func3, Try.ntmps3
    go_wp2_with fail
    go_ret
    exact ⟨rfl, Below.refl _ _⟩
  have z1 : ¬ (200 : Int) < (n : Int) := by omega
  by_cases b2 : 200 < m
  · have hz : (200 : Int) < (m : Int) := by omega
    clear hC hR hV hK hP H1 H2 H3
    go_enter Try.func3, Try.ntmps3
    go_wp2_with fail
    go_ret
    exact ⟨rfl, Below.refl _ _⟩
  have z2 : ¬ (200 : Int) < (m : Int) := by omega
  by_cases b3 : 200 < k
  · have hz : (200 : Int) < (k : Int) := by omega
    clear hC hR hV hK hP H1 H2 H3
    go_enter Try.func3, Try.ntmps3
    go_wp2_with fail
    go_ret
    exact ⟨rfl, Below.refl _ _⟩
  have z3 : ¬ (200 : Int) < (k : Int) := by omega
  have V1 := hide (hV p n c f offset height w H1 h1 (by omega))
  have V2 := hide (fun W (h : Below w.heap.size w W) => rvi_any p n c f offset height W (H1.below h) (by omega))
  have P1 := hide (fun W (h : Below w.heap.size w W) => hP r k e s offset W (H3.below h) h3 (by omega))
  have P2 := hide (fun W (h : Below w.heap.size w W) => rPi r k e s offset W (H3.below h) h3 (by omega))
  have C1 := hide (fun W => hC offset at' height W)
  have C2 := hide (fun W => rcl_any offset at' height W)
  have R1 := hide (fun W => hR offset height at' extent W)
  have R2 := hide (fun W => rre_any offset height at' extent W)
  have K1 := hide (fun W (h : Below w.heap.size w W) => hK p q n m c d f g offset W (H1.below h) (H2.below h) h1 h2 (by omega) (by omega) S1 S2)
  have K2 := hide (fun W (h : Below w.heap.size w W) => rke_any p q n m c d f g offset W (H1.below h) (H2.below h) (by omega) (by omega))
  have A := hide (fun W => sawake_any hC hR hV W)
  have hl : npF k s offset ≤ 200 := Nat.le_trans np_le (by omega)
  unfold ViP at V2
  unfold KeP at K2
  generalize vi1 n f offset height = v1 at *
  generalize vi2 n f offset height = v2 at *
  generalize npF k s offset = l at *
  generalize piF s offset = pf at *
  generalize ocF offset at' height = oc at *
  generalize reF offset height at' extent = re at *
  generalize keF n m f g offset = ke at *
  clear hC hR hV hK hP H1 H2 H3 b1 b2 b3 S1 S2
  go_enter Try.func3, Try.ntmps3
  go_wp2_with fail
  refine V1.out.mono ?_
  rintro e w1 ⟨rfl, hB⟩
  have B1 := hide hB
  have V2 := hide (V2.out w1 hB)
  clear V1 hB
  go_wp2_with fail
  refine V2.out.mono ?_
  rintro e w2 ⟨rfl, hB⟩
  have B2 := hide (B1.out.trans (hB.mono B1.out.size))
  have P1 := hide (P1.out w2 B2.out)
  clear V2 hB B1
  go_wp2_with fail
  refine P1.out.mono ?_
  rintro e w3 ⟨q1, d1, rfl, hr, hB⟩
  have B3 := hide (B2.out.trans (hB.mono B2.out.size))
  have P2 := hide (P2.out w3 B3.out)
  have D1 := hide hr
  clear P1 hB B2 hr
  go_wp2_with fail
  refine P2.out.mono ?_
  rintro e w4 ⟨q2, d2, rfl, hr, hB⟩
  have B4 := hide (B3.out.trans (hB.mono B3.out.size))
  have D2 := hide (D1.out.below hB)
  have D3 := hide hr
  clear P2 hB B3 hr D1
  go_wp2_with fail
  go_loopg [21] (l + 1) (fun g1 vk wr => ∃ i : Nat, vk = .int .i64 (i : Int) ∧ i ≤ l ∧ l - i < g1 ∧ Hid (Below w.heap.size w wr) ∧ Hid (Reads wr q1 l pf) ∧ Hid (Reads wr q2 l pf))
  case atStart => exact ⟨0, by go_num, by omega, by omega, B4, D2, D3⟩
  case round =>
    clear B4 D2 D3
    obtain ⟨wo, rfl⟩ : ∃ wo : World, wo = wr := ⟨_, rfl⟩
    obtain ⟨i, rfl, hi, hg, B, RA, RB⟩ := hrel
    by_cases hlt : i < l
    · have hltz : (i : Int) < (l : Int) := by omega
      obtain ⟨b1, o1, rfl, hb1⟩ := RA.out (by omega)
      obtain ⟨b2, o2, rfl, hb2⟩ := RB.out (by omega)
      have c1 : wo.cell? ⟨b1, o1 + i, none⟩ = some (.int .i64 (pf i)) := hb1 i hlt
      have c2 : wo.cell? ⟨b2, o2 + i, none⟩ = some (.int .i64 (pf i)) := hb2 i hlt
      clear hb1 hb2 A C1 C2 R1 R2 K1 K2
      go_wp2_with fail
      go_quiet (fail)
      have NB : Hid (Below w.heap.size w (wo.drewN nq)) := ⟨B.out.os, B.out.tape, B.out.output, B.out.size, B.out.block⟩
      have NA : Hid (Reads (wo.drewN nq) (some ⟨b1, o1, none⟩) l pf) := RA.out
      have NC : Hid (Reads (wo.drewN nq) (some ⟨b2, o2, none⟩) l pf) := RB.out
      clear B RA RB c1 c2
      generalize wo.drewN nq = w5 at *
      go_wp2_with fail
      go_roundg (l - i)
      case measure => omega
      case rel => exact ⟨i + 1, by go_num, by omega, by omega, NB, NA, NC⟩
    · have hltz : ¬ (i : Int) < (l : Int) := by omega
      clear RA RB
      have C1 := hide (C1.out wo)
      go_wp2_with fail
      refine C1.out.mono ?_
      rintro e w5 ⟨rfl, hB⟩
      have B5 := hide (B.out.trans (hB.mono B.out.size))
      have C2 := hide (C2.out w5)
      clear C1 hB B
      go_wp2_with fail
      refine C2.out.mono ?_
      rintro e w6 ⟨rfl, hw⟩
      subst hw
      have R1 := hide (R1.out w5)
      clear C2
      go_wp2_with fail
      refine R1.out.mono ?_
      rintro e w7 ⟨rfl, hB⟩
      have B7 := hide (B5.out.trans (hB.mono B5.out.size))
      have R2 := hide (R2.out w7)
      clear R1 hB B5
      go_wp2_with fail
      refine R2.out.mono ?_
      rintro e w8 ⟨rfl, hw⟩
      subst hw
      have K1 := hide (K1.out w7 B7.out)
      clear R2
      go_wp2_with fail
      refine K1.out.mono ?_
      rintro e w8 ⟨rfl, hB⟩
      have B8 := hide (B7.out.trans (hB.mono B7.out.size))
      have K2 := hide (K2.out w8 B8.out)
      clear K1 hB B7
      go_wp2_with fail
      refine K2.out.mono ?_
      rintro e w9 ⟨rfl, hB⟩
      have B9 := hide (B8.out.trans (hB.mono B8.out.size))
      have A := hide (A.out w9)
      clear K2 hB B8
      go_wp2_with fail
      refine A.out.mono ?_
      rintro e w10 ⟨rfl, hB⟩
      have B10 := hide (B9.out.trans (hB.mono B9.out.size))
      clear A hB B9
      go_wp2_with fail
      go_ret
      exact ⟨rfl, B10.out⟩
end Go.Proofs.Ytbmkamnjjfmdiaa
