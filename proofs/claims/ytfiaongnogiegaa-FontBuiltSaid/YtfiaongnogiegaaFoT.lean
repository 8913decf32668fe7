/- What alphabet and Rune of the verifier's reader of numbers return; no condition. -/
import Derived.Test.YtfiaongnogiegaaFoS
namespace Go.Proofs.Ytfiaongnogiegaa
open Go.RowKit Go.Sort
set_option linter.unusedVariables false
set_option linter.unusedSimpArgs false

def alL : List Int := [97, 98, 102, 105, 88, 49, 50, 32, 32, 46, 44, 45, 39, 34, 40, 41, 91, 93, 60, 33, 58, 95, 37, 43, 47, 9, 10, 13, 11, 133, 160, 173, 183, 769, 1488, 1489, 1470, 1456, 1536, 1575, 1576, 1587, 1600, 1611, 1633, 1642, 1548, 1564, 1777, 2307, 2309, 2364, 4352, 4449, 4520, 44032, 44033, 8201, 8203, 8204, 8205, 8206, 8207, 8217, 8232, 8233, 8234, 8235, 8236, 8237, 8238, 8288, 8294, 8295, 8296, 8297, 9728, 12288, 12289, 12300, 12301, 12450, 19968, 65039, 127462, 127463, 127995, 128104, 1114111]
def al (k : Nat) : Int := alL.getD k 0
theorem al_all : alL.all (fun r => decide (0 ≤ r ∧ r ≤ 1114111)) = true := by decide
theorem al_len : alL.length = 89 := by decide
theorem al_bd (k : Nat) : 0 ≤ al k ∧ al k ≤ 1114111 := by
  unfold al
  rw [List.getD_eq_getElem?_getD]
  by_cases h : k < alL.length
  · rw [List.getElem?_eq_getElem h]
    have := List.all_eq_true.1 al_all _ (List.getElem_mem h)
    simpa using this
  · rw [List.getElem?_eq_none (by omega)]
    decide
abbrev alV : List Value := [.int .i32 97, .int .i32 98, .int .i32 102, .int .i32 105, .int .i32 88, .int .i32 49, .int .i32 50, .int .i32 32, .int .i32 32, .int .i32 46, .int .i32 44, .int .i32 45, .int .i32 39, .int .i32 34, .int .i32 40, .int .i32 41, .int .i32 91, .int .i32 93, .int .i32 60, .int .i32 33, .int .i32 58, .int .i32 95, .int .i32 37, .int .i32 43, .int .i32 47, .int .i32 9, .int .i32 10, .int .i32 13, .int .i32 11, .int .i32 133, .int .i32 160, .int .i32 173, .int .i32 183, .int .i32 769, .int .i32 1488, .int .i32 1489, .int .i32 1470, .int .i32 1456, .int .i32 1536, .int .i32 1575, .int .i32 1576, .int .i32 1587, .int .i32 1600, .int .i32 1611, .int .i32 1633, .int .i32 1642, .int .i32 1548, .int .i32 1564, .int .i32 1777, .int .i32 2307, .int .i32 2309, .int .i32 2364, .int .i32 4352, .int .i32 4449, .int .i32 4520, .int .i32 44032, .int .i32 44033, .int .i32 8201, .int .i32 8203, .int .i32 8204, .int .i32 8205, .int .i32 8206, .int .i32 8207, .int .i32 8217, .int .i32 8232, .int .i32 8233, .int .i32 8234, .int .i32 8235, .int .i32 8236, .int .i32 8237, .int .i32 8238, .int .i32 8288, .int .i32 8294, .int .i32 8295, .int .i32 8296, .int .i32 8297, .int .i32 9728, .int .i32 12288, .int .i32 12289, .int .i32 12300, .int .i32 12301, .int .i32 12450, .int .i32 19968, .int .i32 65039, .int .i32 127462, .int .i32 127463, .int .i32 127995, .int .i32 128104, .int .i32 1114111]
theorem alV_is : alV = alL.map (fun r => Value.int .i32 r) := rfl
/-- Block b is the alphabet. -/
structure Alp (W : World) (b : Nat) : Prop where
  blk : Blk W b 21 (alL.map (fun r => Value.int .i32 r))
theorem Alp.grew {w w' : World} {b : Nat} (h : Alp w b) (g : Grew w w') : Alp w' b := ⟨h.blk.grew g⟩
theorem Alp.same {w w' : World} {b : Nat} (h : Alp w b) (g : w'.heap[b]? = w.heap[b]?) : Alp w' b := ⟨g.trans h.blk⟩
theorem Alp.lt {w : World} {b : Nat} (h : Alp w b) : b < w.heap.size := h.blk.lt
theorem Alp.cell {w : World} {b : Nat} (h : Alp w b) {k : Nat} (hk : k < 89) : w.cell? ⟨b, k, none⟩ = some (.int .i32 (al k)) := by
  refine h.blk.cell k ?_
  have hl := al_len
  rw [List.getElem?_map, List.getElem?_eq_getElem (by omega)]
  simp only [Option.map_some, al]
  rw [List.getD_eq_getElem?_getD, List.getElem?_eq_getElem (by omega)]
  rfl
set_option maxRecDepth 100000 in
set_option maxHeartbeats 4000000 in
theorem alphabet_any (w : World) :
    Calls Try.prog 29 #[] w fun e w' => ∃ b, e = .returned (.slice (some ⟨b, 0, none⟩) 89 89) ∧ b = w.heap.size ∧ Grew w w' ∧ Alp w' b := by
  have FIN : Hid (Grew w (w.alloc (.cells alV.toArray 21)) ∧ Alp (w.alloc (.cells alV.toArray 21)) w.heap.size) := ⟨(Grew.refl w).alloc _, ⟨Blk.new rfl⟩⟩
  go_enter Try.func29, Try.ntmps29
  go_wp2
  go_ret
  exact ⟨_, rfl, rfl, FIN.out.1, FIN.out.2⟩

theorem w32_bd (x : Int) : -2147483648 ≤ Go.RowKit.wrap32 x ∧ Go.RowKit.wrap32 x ≤ 2147483647 := by
  unfold Go.RowKit.wrap32; omega
set_option maxRecDepth 100000 in
set_option maxHeartbeats 4000000 in
theorem Rune_any (w0 w : World) (sb m c : Nat) (p : Option Addr) (f : Nat → Int) (H : SR w0 w sb p m c f) :
    Calls Try.prog 11 #[.pointer (some ⟨sb, 0, none⟩)] w fun e w' => ∃ x : Int, e = .returned (.int .i32 x) ∧ (-2147483648 ≤ x ∧ x ≤ 2147483647) ∧ But sb w w' ∧ SR w0 w' sb p m c f := by
  have HH := hide H
  have hsb : Hid (sb < w.heap.size) := by obtain ⟨t, _, k⟩ := H.src; exact k.lt
  have KA := hide (alphabet_any w)
  clear H
  go_enter Try.func11, Try.ntmps11
  go_wp2_with fail
  refine KA.out.mono ?_
  rintro e w1 ⟨b, rfl, hb, G1, A1⟩
  have H1 := hide (HH.out.grew G1)
  have B1 := hide (But.of_grew (b := sb) G1)
  have hbs : Hid (b ≠ sb) := by have := hsb.out; show b ≠ sb; omega
  replace A1 := hide A1
  have KC := hide (Chance_any w0 w1 sb m c p f 40 H1.out (by decide) (by decide))
  clear G1 KA hb HH
  go_wp2_with fail
  refine KC.out.mono ?_
  rintro e w2 ⟨v, rfl, B2, H2⟩
  have A2 := hide (A1.out.same (B2.block b A1.out.lt hbs.out))
  have B2' := hide (B1.out.trans B2)
  replace H2 := hide H2
  clear B2 B1 A1 KC H1
  cases v
  · have KN := hide (N_any w0 w2 sb m c p f 89 H2.out (by decide) (by decide))
    go_wp2_with fail
    refine KN.out.mono ?_
    rintro e w3 ⟨x, rfl, hx, B3, H3⟩
    obtain ⟨k, rfl⟩ : ∃ k : Nat, x = (k : Int) := ⟨x.toNat, by omega⟩
    have hk : k < 89 := by omega
    have A3 := A2.out.same (B3.block b A2.out.lt hbs.out)
    have ck := A3.cell hk
    have hb2 := hide (B2'.out.trans B3)
    have hbd := al_bd k
    replace H3 := hide H3
    obtain ⟨hx1, hx2⟩ := hx
    clear B3 KN A3 A2
    generalize al k = r at *
    go_wp2
    go_ret
    exact ⟨r, rfl, by omega, hb2.out, H3.out⟩
  · have KR := hide (Raw_any w0 w2 sb m c p f H2.out)
    go_wp2_with fail
    refine KR.out.mono ?_
    rintro e w3 ⟨x, rfl, hx, B3, H3⟩
    have hb2 := hide (B2'.out.trans B3)
    replace H3 := hide H3
    clear hx B3 KR
    go_wp2
    go_ret
    exact ⟨_, rfl, w32_bd x, hb2.out, H3.out⟩
end Go.Proofs.Ytfiaongnogiegaa
