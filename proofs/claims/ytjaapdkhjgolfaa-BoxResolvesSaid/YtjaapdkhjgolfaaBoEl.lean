/- The elements that the laws on boxes build from a list of numbers: all in range; no condition. -/
import Derived.Test.YtjaapdkhjgolfaaBoB
import Derived.Test.YtjaapdkhjgolfaaRdB
namespace Go.Proofs.Ytjaapdkhjgolfaa
open Go.RowKit Go.Sort
set_option linter.unusedVariables false
set_option linter.unusedSimpArgs false

theorem info_fx : (Try.prog.info? 36).map (fun i => (i.zero, i.size, i.bytes)) = some (some (.agg #[.int .i64 0, .int .i64 0, .int .i64 0, .int .i64 0, .int .i64 0]), 5, 40) := by kernel_rfl
theorem info_partsE {i : Option TypeInfo} {z : Value} {n m : Nat} (h : i.map (fun i => (i.zero, i.size, i.bytes)) = some (some z, n, m)) : ∃ j, i = some j ∧ j.zero = some z ∧ j.size = n ∧ j.bytes = m := by
  cases i with
  | none => simp at h
  | some j => simp at h; exact ⟨j, rfl, h.1, h.2.1, h.2.2⟩
def szF (k : Nat) : Int := match k with
  | 0 => 0 | 1 => 1 | 2 => 7 | 3 => 10 | 4 => 33 | 5 => 50 | 6 => 100 | 7 => 300 | _ => 1048576
theorem sz_bd (k : Nat) : 0 ≤ szF k ∧ szF k ≤ 1048576 := by
  unfold szF
  split <;> omega
def SzR (W : World) (nb : Nat) : Prop := Blk W nb 3 [.int .i64 0, .int .i64 1, .int .i64 7, .int .i64 10, .int .i64 33, .int .i64 50, .int .i64 100, .int .i64 300, .int .i64 1048576]
theorem SzR.at {W : World} {nb : Nat} (h : SzR W nb) {k : Nat} (hk : k < 9) : W.cell? ⟨nb, k, none⟩ = some (.int .i64 (szF k)) := by
  have hh : Blk W nb 3 [.int .i64 0, .int .i64 1, .int .i64 7, .int .i64 10, .int .i64 33, .int .i64 50, .int .i64 100, .int .i64 300, .int .i64 1048576] := h
  match k, hk with
  | 0, _ => exact hh.cell 0 rfl
  | 1, _ => exact hh.cell 1 rfl
  | 2, _ => exact hh.cell 2 rfl
  | 3, _ => exact hh.cell 3 rfl
  | 4, _ => exact hh.cell 4 rfl
  | 5, _ => exact hh.cell 5 rfl
  | 6, _ => exact hh.cell 6 rfl
  | 7, _ => exact hh.cell 7 rfl
  | 8, _ => exact hh.cell 8 rfl
abbrev fxV (x : Fx) : Value := .agg #[.int .i64 x.ba, .int .i64 x.mn, .int .i64 x.mx, .int .i64 x.gr, .int .i64 x.sh]
abbrev fxL (x : Fx) : List Value := [.int .i64 x.ba, .int .i64 x.mn, .int .i64 x.mx, .int .i64 x.gr, .int .i64 x.sh]
def isE (v : Value) (b : Int) : Prop := ∃ x, (0 ≤ x ∧ x < b) ∧ v = .int .i64 x
def StE (Pre : Value → Nat → List Value → World → Prop) (nb : Nat) (va : Value) (n : Nat) (xs : List Value) : List Value → World → Prop
  | [], w => Pre va n xs w ∧ SzR w nb
  | [_], w => Pre va n xs w ∧ SzR w nb
  | [_, _], w => Pre va n xs w ∧ SzR w nb
  | [_, _, _], w => Pre va n xs w ∧ SzR w nb
  | [_, _, _, a], w => isE a 4 ∧ Pre va n xs w ∧ SzR w nb
  | [_, _, _, a, b], w => isE a 4 ∧ isE b 3 ∧ Pre va n xs w ∧ SzR w nb
  | [_, _, _, _, _, t], w => ∃ k, okF k ∧ t = fxV k ∧ Pre va n xs w ∧ SzR w nb
  | [_, _, _, _, _, _, q], w => ∃ k, okF k ∧ ∃ g, q = .slice (some ⟨g, 0, none⟩) 1 1 ∧ Blk w g 36 (fxL k) ∧ Pre va n xs w ∧ SzR w nb
  | [_, _, _, _, _, _, _, r], w => ∃ k, okF k ∧ Pre r (n + 1) (xs ++ fxL k) w ∧ SzR w nb
  | [_, _, _, _, _, _, _, r, u], w => ∃ k, okF k ∧ u = r ∧ Pre r (n + 1) (xs ++ fxL k) w ∧ SzR w nb
  | _, _ => False
theorem StE.sz {Pre : Value → Nat → List Value → World → Prop} {nb : Nat} {va : Value} {n : Nat} {xs : List Value} :
    ∀ {vals : List Value} {w : World}, StE Pre nb va n xs vals w → SzR w nb
  | [], w, h => h.2
  | [_], w, h => h.2
  | [_, _], w, h => h.2
  | [_, _, _], w, h => h.2
  | [_, _, _, _], w, h => h.2.2
  | [_, _, _, _, _], w, h => h.2.2.2
  | [_, _, _, _, _, _], w, ⟨_, _, _, _, h⟩ => h
  | [_, _, _, _, _, _, _], w, ⟨_, _, _, _, _, _, h⟩ => h
  | [_, _, _, _, _, _, _, _], w, ⟨_, _, _, h⟩ => h
  | [_, _, _, _, _, _, _, _, _], w, ⟨_, _, _, _, h⟩ => h
  | _ :: _ :: _ :: _ :: _ :: _ :: _ :: _ :: _ :: _ :: _, w, h => absurd h (by simp [StE])
def RE (nb : Nat) (i : Nat) (v : Value) : Prop :=
  if i = 3 ∨ i = 8 ∨ i = 13 then isE v 9
  else if i = 4 ∨ i = 9 ∨ i = 14 then ∃ k : Nat, k < 9 ∧ v = .pointer (some ⟨nb, k, none⟩)
  else ∃ y, (0 ≤ y ∧ y ≤ 1048576) ∧ v = .int .i64 y
set_option maxRecDepth 100000 in
set_option maxHeartbeats 16000000 in
theorem elements_any (w0 w : World) (sb m c : Nat) (p : Option Addr) (f : Nat → Int) (H : SR w0 w sb p m c f) :
    Calls Try.prog 16 #[.pointer (some ⟨sb, 0, none⟩)] w fun e w' => ∃ (v : Value) (n : Nat) (x : Nat → Fx), e = .returned v ∧ n ≤ 5 ∧ (∀ i, i < n → okF (x i)) ∧ w'.ownsRow w.heap.size 36 5 v n (flat n 5 (fxC x)) ∧ But sb w w' ∧ SR w0 w' sb p m c f := by
  obtain ⟨ia, a1, a2, a3, a4⟩ := info_partsE info_fx
  have HS := hide H
  have hsb : Hid (sb < w.heap.size) := by obtain ⟨t, _, k⟩ := H.src; exact k.lt
  obtain ⟨nb, hnb⟩ : ∃ nb, nb = w.heap.size := ⟨_, rfl⟩
  clear H
  go_enter Try.func16, Try.ntmps16
  go_wp2_with fail
  have G1 : Hid (Grew w (w.alloc (.cells [.int .i64 0, .int .i64 1, .int .i64 7, .int .i64 10, .int .i64 33, .int .i64 50, .int .i64 100, .int .i64 300, .int .i64 1048576].toArray 3))) := (Grew.refl w).alloc _
  have Z1 : Hid (SzR (w.alloc (.cells [.int .i64 0, .int .i64 1, .int .i64 7, .int .i64 10, .int .i64 33, .int .i64 50, .int .i64 100, .int .i64 300, .int .i64 1048576].toArray 3)) nb) := Blk.new hnb
  rw [← hnb]
  have hrw := hide hnb
  clear hnb
  generalize (w.alloc (.cells [.int .i64 0, .int .i64 1, .int .i64 7, .int .i64 10, .int .i64 33, .int .i64 50, .int .i64 100, .int .i64 300, .int .i64 1048576].toArray 3)) = w1 at *
  have S1 := hide (HS.out.grew G1.out)
  have B1 := hide (But.of_grew (b := sb) G1.out)
  have KN := hide (N_any w0 w1 sb m c p f 6 S1.out (by decide) (by decide))
  refine KN.out.mono ?_
  rintro e w2 ⟨y, rfl, hy, q, SS⟩
  have hlo : Hid (w0.heap.size ≤ nb) := by have := HS.out.g.size; have := hrw.out; show _ ≤ _; omega
  have Z2 : Hid (SzR w2 nb) := q.blk Z1.out (by have := hsb.out; have := hrw.out; omega)
  have B2 := hide (B1.out.trans q)
  have L2 : Hid (Lp w0 w2 sb nb p m c f 36 5 (.slice none 0 0) 0 (flat 0 5 (fxC fun _ => ⟨0, 0, 0, 0, 0⟩)) w2 ∧ SzR w2 nb) :=
    ⟨⟨SS, Two.refl _ _ _, World.ownsRow_nil _ _ _ _, Nat.lt_of_lt_of_le hsb.out B2.out.size, Z2.out.lt, by have := hsb.out; have := hrw.out; omega, hlo.out⟩, Z2.out⟩
  obtain ⟨i0, rfl⟩ : ∃ i0 : Nat, y = (i0 : Int) := ⟨y.toNat, by omega⟩
  have hi0 : i0 ≤ 5 := by omega
  clear SS q KN S1 Z1 G1 HS hy
  go_wp2
  go_loopg [4, 5] 7 (fun gh va vi wr => ∃ (i n : Nat) (v : Value) (x : Nat → Fx), vi = .int .i64 (i : Int) ∧ v = va ∧ i + n ≤ 5 ∧ i < gh ∧ Hid (∀ j, j < n → okF (x j)) ∧ Hid (Lp w0 w2 sb nb p m c f 36 5 v n (flat n 5 (fxC x)) wr ∧ SzR wr nb))
  case atStart => exact ⟨i0, 0, _, _, by go_num, rfl, by omega, by omega, fun j hj => absurd hj (by omega), L2⟩
  case round =>
    clear L2 Z2
    obtain ⟨wo, rfl⟩ : ∃ wo : World, wo = wr := ⟨_, rfl⟩
    obtain ⟨i, n, va, x, rfl, rfl, hi, hg, HX, S⟩ := hrel
    by_cases hlt : 0 < i
    · have hltz : (0 : Int) < (i : Int) := by omega
      go_wp2
      refine MJ.wp_region_ce (fun W => SzR W nb) [3, 8, 13, 17, 19, 20, 21, 22, 23] [3, 4, 5, 8, 9, 10, 13, 14, 15] [3, 4, 5, 8, 9, 10, 13, 14, 15, 17, 19, 20, 21, 22, 23] [(16, 3), (17, 4), (18, 5), (21, 8), (22, 9), (23, 10), (26, 13), (27, 14), (28, 15), (30, 17), (32, 19), (33, 20), (34, 21), (35, 22), (4, 23)]
        (StE (fun v n xs W => Lp w0 w2 sb nb p m c f 36 5 v n xs W) nb va n (flat n 5 (fxC x))) (RE nb)
        (by kernel_rfl) (by kernel_rfl) (by simp) (by kernel_rfl) (Or.inr fun vals w h => StE.sz h) ?h0 ?hJ ?_
      case h0 => exact ⟨S.out.1.grew ((Grew.refl _).drew), S.out.2.drew⟩
      case hJ => intro vals W hl hS; exact StE.sz hS
      repeat (first | (refine MJ.lex_skip rfl (by rfl) ?_) | (refine MJ.lex_calm rfl (by rfl) (fun K hK => ?_); apply Exists.intro; refine ⟨fun W hW => ?_, ?_⟩; (dsimp only at hW; go_simp; exact rfl); go_simp; refine hK _ ?_; clear hK K))
      refine MJ.lex_ce 0 rfl (by kernel_rfl) (by rfl) rfl ?_ ?_
      · rintro vs W ⟨hP, hF⟩ _
        have KN := hide (N_any w0 W sb m c p f 8 hP.sr (by decide) (by decide))
        have hPP := hide hP
        have hFF := hide hF
        clear hP hF
        simp [go_sem, evS, List.lookup]
        refine KN.out.mono ?_
        rintro e w' ⟨z, rfl, hz', q, SS⟩
        have P2 := hPP.out.but q SS
        have F2 : SzR w' nb := hPP.out.blk_but hFF.out q
        exact ⟨_, rfl, ⟨P2, F2⟩, z, by omega, rfl⟩
      refine MJ.lex_ce_free (by rfl) (by rfl) rfl ?_ ?_
      · rintro vs W hR
        obtain ⟨z, hz', e⟩ := hR 3 (by simp) (by kernel_rfl)
        replace e : vs 3 = .int .i64 z := e
        obtain ⟨k0, rfl⟩ : ∃ k0 : Nat, z = (k0 : Int) := ⟨z.toNat, by omega⟩
        have hk9 : k0 < 9 := by omega
        have hz1 : (k0 : Int) < 9 := by omega
        have hz0 : (0 : Int) ≤ (k0 : Int) := by omega
        have FIN : Hid (RE nb 4 (.pointer (some ⟨nb, k0, none⟩))) := ⟨k0, hk9, rfl⟩
        clear hR
        simp [go_sem, evS, List.lookup, e, hz1, hz0]
        exact FIN.out
      refine MJ.lex_ce_read (fun W => SzR W nb) (fun vals w h => StE.sz h) (by rfl) (by rfl) rfl ?_ ?_
      · rintro vs W hz hR
        obtain ⟨k0, hk9, e⟩ := hR 4 (by simp) (by kernel_rfl)
        replace e : vs 4 = .pointer (some ⟨nb, k0, none⟩) := e
        have ck := hz.at hk9
        have FIN : Hid (RE nb 5 (.int .i64 (szF k0))) := ⟨szF k0, sz_bd k0, rfl⟩
        clear hR hz
        simp [go_sem, evS, List.lookup, e, ck]
        exact FIN.out
      repeat (first | (refine MJ.lex_skip rfl (by rfl) ?_) | (refine MJ.lex_calm rfl (by rfl) (fun K hK => ?_); apply Exists.intro; refine ⟨fun W hW => ?_, ?_⟩; (dsimp only at hW; go_simp; exact rfl); go_simp; refine hK _ ?_; clear hK K))
      refine MJ.lex_ce 1 rfl (by kernel_rfl) (by rfl) rfl ?_ ?_
      · rintro vs W ⟨hP, hF⟩ _
        have KN := hide (N_any w0 W sb m c p f 5 hP.sr (by decide) (by decide))
        have hPP := hide hP
        have hFF := hide hF
        clear hP hF
        simp [go_sem, evS, List.lookup]
        refine KN.out.mono ?_
        rintro e w' ⟨z, rfl, hz', q, SS⟩
        have P2 := hPP.out.but q SS
        have F2 : SzR w' nb := hPP.out.blk_but hFF.out q
        exact ⟨_, rfl, ⟨P2, F2⟩, z, by omega, rfl⟩
      refine MJ.lex_ce_free (by rfl) (by rfl) rfl ?_ ?_
      · rintro vs W hR
        obtain ⟨z, hz', e⟩ := hR 8 (by simp) (by kernel_rfl)
        replace e : vs 8 = .int .i64 z := e
        obtain ⟨k0, rfl⟩ : ∃ k0 : Nat, z = (k0 : Int) := ⟨z.toNat, by omega⟩
        have hk9 : k0 < 9 := by omega
        have hz1 : (k0 : Int) < 9 := by omega
        have hz0 : (0 : Int) ≤ (k0 : Int) := by omega
        have FIN : Hid (RE nb 9 (.pointer (some ⟨nb, k0, none⟩))) := ⟨k0, hk9, rfl⟩
        clear hR
        simp [go_sem, evS, List.lookup, e, hz1, hz0]
        exact FIN.out
      refine MJ.lex_ce_read (fun W => SzR W nb) (fun vals w h => StE.sz h) (by rfl) (by rfl) rfl ?_ ?_
      · rintro vs W hz hR
        obtain ⟨k0, hk9, e⟩ := hR 9 (by simp) (by kernel_rfl)
        replace e : vs 9 = .pointer (some ⟨nb, k0, none⟩) := e
        have ck := hz.at hk9
        have FIN : Hid (RE nb 10 (.int .i64 (szF k0))) := ⟨szF k0, sz_bd k0, rfl⟩
        clear hR hz
        simp [go_sem, evS, List.lookup, e, ck]
        exact FIN.out
      repeat (first | (refine MJ.lex_skip rfl (by rfl) ?_) | (refine MJ.lex_calm rfl (by rfl) (fun K hK => ?_); apply Exists.intro; refine ⟨fun W hW => ?_, ?_⟩; (dsimp only at hW; go_simp; exact rfl); go_simp; refine hK _ ?_; clear hK K))
      refine MJ.lex_ce 2 rfl (by kernel_rfl) (by rfl) rfl ?_ ?_
      · rintro vs W ⟨hP, hF⟩ _
        have KN := hide (N_any w0 W sb m c p f 9 hP.sr (by decide) (by decide))
        have hPP := hide hP
        have hFF := hide hF
        clear hP hF
        simp [go_sem, evS, List.lookup]
        refine KN.out.mono ?_
        rintro e w' ⟨z, rfl, hz', q, SS⟩
        have P2 := hPP.out.but q SS
        have F2 : SzR w' nb := hPP.out.blk_but hFF.out q
        exact ⟨_, rfl, ⟨P2, F2⟩, z, by omega, rfl⟩
      refine MJ.lex_ce_free (by rfl) (by rfl) rfl ?_ ?_
      · rintro vs W hR
        obtain ⟨z, hz', e⟩ := hR 13 (by simp) (by kernel_rfl)
        replace e : vs 13 = .int .i64 z := e
        obtain ⟨k0, rfl⟩ : ∃ k0 : Nat, z = (k0 : Int) := ⟨z.toNat, by omega⟩
        have hk9 : k0 < 9 := by omega
        have hz1 : (k0 : Int) < 9 := by omega
        have hz0 : (0 : Int) ≤ (k0 : Int) := by omega
        have FIN : Hid (RE nb 14 (.pointer (some ⟨nb, k0, none⟩))) := ⟨k0, hk9, rfl⟩
        clear hR
        simp [go_sem, evS, List.lookup, e, hz1, hz0]
        exact FIN.out
      refine MJ.lex_ce_read (fun W => SzR W nb) (fun vals w h => StE.sz h) (by rfl) (by rfl) rfl ?_ ?_
      · rintro vs W hz hR
        obtain ⟨k0, hk9, e⟩ := hR 14 (by simp) (by kernel_rfl)
        replace e : vs 14 = .pointer (some ⟨nb, k0, none⟩) := e
        have ck := hz.at hk9
        have FIN : Hid (RE nb 15 (.int .i64 (szF k0))) := ⟨szF k0, sz_bd k0, rfl⟩
        clear hR hz
        simp [go_sem, evS, List.lookup, e, ck]
        exact FIN.out
      repeat (first | (refine MJ.lex_skip rfl (by rfl) ?_) | (refine MJ.lex_calm rfl (by rfl) (fun K hK => ?_); apply Exists.intro; refine ⟨fun W hW => ?_, ?_⟩; (dsimp only at hW; go_simp; exact rfl); go_simp; refine hK _ ?_; clear hK K))
      refine MJ.lex_ce 3 rfl (by kernel_rfl) (by rfl) rfl ?_ ?_
      · rintro vs W ⟨hP, hF⟩ _
        have KN := hide (N_any w0 W sb m c p f 4 hP.sr (by decide) (by decide))
        have hPP := hide hP
        have hFF := hide hF
        clear hP hF
        simp [go_sem, evS, List.lookup]
        refine KN.out.mono ?_
        rintro e w' ⟨z, rfl, hz', q, SS⟩
        have P2 := hPP.out.but q SS
        have F2 : SzR w' nb := hPP.out.blk_but hFF.out q
        exact ⟨_, rfl, ⟨z, hz', rfl⟩, P2, F2⟩
      repeat (first | (refine MJ.lex_skip rfl (by rfl) ?_) | (refine MJ.lex_calm rfl (by rfl) (fun K hK => ?_); apply Exists.intro; refine ⟨fun W hW => ?_, ?_⟩; (dsimp only at hW; go_simp; exact rfl); go_simp; refine hK _ ?_; clear hK K))
      refine MJ.lex_ce 4 rfl (by kernel_rfl) (by rfl) rfl ?_ ?_
      · rintro vs W ⟨h1, hP, hF⟩ _
        have KN := hide (N_any w0 W sb m c p f 3 hP.sr (by decide) (by decide))
        have hPP := hide hP
        have hFF := hide hF
        clear hP hF
        have H1 := hide h1
        clear h1
        simp [go_sem, evS, List.lookup]
        refine KN.out.mono ?_
        rintro e w' ⟨z, rfl, hz', q, SS⟩
        have P2 := hPP.out.but q SS
        have F2 : SzR w' nb := hPP.out.blk_but hFF.out q
        exact ⟨_, rfl, H1.out, ⟨z, hz', rfl⟩, P2, F2⟩
      repeat (first | (refine MJ.lex_skip rfl (by rfl) ?_) | (refine MJ.lex_calm rfl (by rfl) (fun K hK => ?_); apply Exists.intro; refine ⟨fun W hW => ?_, ?_⟩; (dsimp only at hW; go_simp; exact rfl); go_simp; refine hK _ ?_; clear hK K))
      refine MJ.lex_ce 5 rfl (by kernel_rfl) (by rfl) rfl ?_ ?_
      · rintro vs W ⟨⟨z4, h4, e4⟩, ⟨z5, h5, e5⟩, hP, hF⟩ hR
        obtain ⟨z1, h1, e1⟩ := hR 5 (by simp) (by kernel_rfl)
        obtain ⟨z2, h2, e2⟩ := hR 10 (by simp) (by kernel_rfl)
        obtain ⟨z3, h3, e3⟩ := hR 15 (by simp) (by kernel_rfl)
        replace e1 : vs 5 = .int .i64 z1 := e1
        replace e2 : vs 10 = .int .i64 z2 := e2
        replace e3 : vs 15 = .int .i64 z3 := e3
        replace e4 : vs 17 = .int .i64 z4 := e4
        replace e5 : vs 19 = .int .i64 z5 := e5
        have FIN : Hid (StE (fun v n xs W => Lp w0 w2 sb nb p m c f 36 5 v n xs W) nb va n (flat n 5 (fxC x)) (MJ.valsOf [3, 8, 13, 17, 19, 20, 21, 22, 23] vs 5 ++ [fxV ⟨z1, z2, z3, z4, z5⟩]) W) := ⟨⟨z1, z2, z3, z4, z5⟩, ⟨h1, h2, h3, by show 0 ≤ z4 ∧ z4 ≤ 1000; omega, by show 0 ≤ z5 ∧ z5 ≤ 1000; omega⟩, rfl, hP, hF⟩
        clear hP hF hR
        simp [go_sem, evS, List.lookup, e1, e2, e3, e4, e5]
        exact FIN.out
      repeat (first | (refine MJ.lex_skip rfl (by rfl) ?_) | (refine MJ.lex_calm rfl (by rfl) (fun K hK => ?_); apply Exists.intro; refine ⟨fun W hW => ?_, ?_⟩; (dsimp only at hW; go_simp; exact rfl); go_simp; refine hK _ ?_; clear hK K))
      refine MJ.lex_ce 6 rfl (by kernel_rfl) (by rfl) rfl ?_ ?_
      · rintro vs W ⟨k, hk, e, hP, hF⟩ _
        obtain ⟨k1, k2, k3, k4, k5⟩ := k
        replace e : vs 20 = .agg #[.int .i64 k1, .int .i64 k2, .int .i64 k3, .int .i64 k4, .int .i64 k5] := e
        have FIN : Hid (StE (fun v n xs W => Lp w0 w2 sb nb p m c f 36 5 v n xs W) nb va n (flat n 5 (fxC x)) (MJ.valsOf [3, 8, 13, 17, 19, 20, 21, 22, 23] vs 6 ++ [.slice (some ⟨W.heap.size, 0, none⟩) 1 1]) (W.alloc (.cells [.int .i64 k1, .int .i64 k2, .int .i64 k3, .int .i64 k4, .int .i64 k5].toArray 36))) :=
          ⟨⟨k1, k2, k3, k4, k5⟩, hk, W.heap.size, rfl, Blk.new rfl, hP.grew ((Grew.refl W).alloc _), hF.alloc _⟩
        clear hP hF
        simp [go_sem, evS, List.lookup, e]
        exact FIN.out
      repeat (first | (refine MJ.lex_skip rfl (by rfl) ?_) | (refine MJ.lex_calm rfl (by rfl) (fun K hK => ?_); apply Exists.intro; refine ⟨fun W hW => ?_, ?_⟩; (dsimp only at hW; go_simp; exact rfl); go_simp; refine hK _ ?_; clear hK K))
      refine MJ.lex_ce 7 rfl (by kernel_rfl) (by rfl) rfl ?_ ?_
      · rintro vs W ⟨k, hk, g, e, hB, hP, hF⟩ _
        replace e : vs 21 = .slice (some ⟨g, 0, none⟩) 1 1 := e
        refine does_append W _ _ 22 rfl w2.heap.size 36 ia _ 5 40 Try.underlying22 a1 a2 a3 a4 rfl (by decide) va n _ rfl hP.own ⟨g, 0, none⟩ 1 1 (fxL k) e (by decide) rfl ?c1 ?c2 ?c3 ?c4 ?c5 ?_
        case c1 =>
          intro j u hj
          rw [addr_add]
          exact hB.cell j hj
        case c2 => intro u hu; simp at hu; rcases hu with rfl | rfl | rfl | rfl | rfl <;> rfl
        case c3 => unfold maxLen; omega
        case c4 => omega
        case c5 => exact hP.fr.size
        intro v' w' ho hgr hd
        exact ⟨⟨k, hk, hP.appended ho hgr hd, hP.blk_app hF hgr⟩, fun h => absurd h (by decide)⟩
      repeat (first | (refine MJ.lex_skip rfl (by rfl) ?_) | (refine MJ.lex_calm rfl (by rfl) (fun K hK => ?_); apply Exists.intro; refine ⟨fun W hW => ?_, ?_⟩; (dsimp only at hW; go_simp; exact rfl); go_simp; refine hK _ ?_; clear hK K))
      refine MJ.lex_ce 8 rfl (by kernel_rfl) (by rfl) rfl ?_ ?_
      · rintro vs W ⟨k, hk, hP, hF⟩ _
        have FIN : Hid (StE (fun v n xs W => Lp w0 w2 sb nb p m c f 36 5 v n xs W) nb va n (flat n 5 (fxC x)) (MJ.valsOf [3, 8, 13, 17, 19, 20, 21, 22, 23] vs 8 ++ [vs 22]) W) := ⟨k, hk, rfl, hP, hF⟩
        clear hP hF
        simp [go_sem, evS, List.lookup]
        exact FIN.out
      refine MJ.lex_nil ?_
      rintro vs w3 ⟨k, hk, e, hP, hF⟩
      have NX : Hid (Lp w0 w2 sb nb p m c f 36 5 (vs 22) (n + 1) (flat (n + 1) 5 (fxC (upd x n k))) w3 ∧ SzR w3 nb) := by
        refine ⟨?_, hF⟩
        have e : flat (n + 1) 5 (fxC (upd x n k)) = flat n 5 (fxC x) ++ fxL k := by
          rw [flat_succ]
          congr 1
          · exact flat_congr fun i' hi' j => by
              have : upd x n k i' = x i' := by simp [upd, Nat.ne_of_lt hi']
              unfold fxC; rw [this]
          · simp [upd, fxC, List.range_succ]
        rw [e]; exact hP
      have NO : Hid (∀ j, j < n + 1 → okF (upd x n k j)) := fun j hj => by
        by_cases h : j = n
        · subst h; simpa [upd] using hk
        · simp only [upd, if_neg h]; exact HX.out j (by omega)
      have e23 : vs 23 = vs 22 := e
      clear hP hF S e
      simp only [fillS, List.foldl_cons, List.foldl_nil, e23]
      obtain ⟨i', rfl⟩ : ∃ i', i = i' + 1 := ⟨i - 1, by omega⟩
      have hi1 : ((i' + 1 : Nat) : Int) - 1 = (i' : Int) := by omega
      go_wp2
      go_roundg (i' + 1)
      case measure => omega
      case rel => exact ⟨i', n + 1, _, _, by go_num, rfl, by omega, by omega, NO, NX⟩
    · have hltz : ¬ (0 : Int) < (i : Int) := by omega
      go_wp2
      go_ret
      exact ⟨va, rfl, n, by omega, x, HX.out, own_base S.out.1.own B2.out.size, Two.to_but B2.out S.out.1.fr (Nat.le_of_eq hrw.out.symm), S.out.1.sr⟩
end Go.Proofs.Ytjaapdkhjgolfaa
