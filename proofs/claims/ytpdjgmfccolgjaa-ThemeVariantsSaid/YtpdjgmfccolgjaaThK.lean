/- What Theme of the verifier's reader of numbers builds: a valid theme; no condition. -/
import Derived.Test.YtpdjgmfccolgjaaThI
import Derived.Test.YtpdjgmfccolgjaaThH
import Derived.Test.YtpdjgmfccolgjaaRd
namespace Go.Proofs.Ytpdjgmfccolgjaa
open Go.RowKit Go.Sort
set_option linter.unusedVariables false
set_option linter.unusedSimpArgs false

theorem info_tok : (Try.prog.info? 29).map (fun i => (i.zero, i.size, i.bytes)) = some (some (.agg #[.string ⟨#[]⟩, .int .i64 0, .int .i64 0, .int .i64 0, .int .i64 0]), 5, 48) := by kernel_rfl
theorem info_partsT {i : Option TypeInfo} {z : Value} {n m : Nat} (h : i.map (fun i => (i.zero, i.size, i.bytes)) = some (some z, n, m)) : ∃ j, i = some j ∧ j.zero = some z ∧ j.size = n ∧ j.bytes = m := by
  cases i with
  | none => simp at h
  | some j => simp at h; exact ⟨j, rfl, h.1, h.2.1, h.2.2⟩
def nmC (i : Nat) : ByteArray := match i with
  | 0 => ⟨#[105, 110, 107]⟩
  | 1 => ⟨#[112, 97, 112, 101, 114]⟩
  | _ => ⟨#[115, 112, 97, 99, 101]⟩
/-- What is known of a theme that the reader builds. -/
structure GT (n : Nat) (x : Nat → Tk) : Prop where
  le : n ≤ 3
  nm : ∀ i, i < n → (x i).nm = nmC i
  ok : ∀ i, i < n → valB (x i) = true
theorem nmC_ok : nmB (nmC 0) = true ∧ nmB (nmC 1) = true ∧ nmB (nmC 2) = true := by decide +kernel
theorem nmC_ne : ¬ nmC 0 = nmC 1 ∧ ¬ nmC 0 = nmC 2 ∧ ¬ nmC 1 = nmC 2 := by decide +kernel
theorem nmC_sz (i : Nat) : (nmC i).size ≤ 9223372036854775807 := by
  unfold nmC
  split <;> decide
theorem GT.valid {n : Nat} {x : Nat → Tk} (h : GT n x) : vldF x n = 0 := by
  obtain ⟨a0, a1, a2⟩ := nmC_ok
  obtain ⟨b0, b1, b2⟩ := nmC_ne
  obtain ⟨hl, hn, ho⟩ := h
  unfold vldF
  rw [if_neg (by omega)]
  match n, hl with
  | 0, _ => rfl
  | 1, _ => simp [vdF, anyF, hn 0 (by omega), ho 0 (by omega), a0]
  | 2, _ => simp [vdF, anyF, hn 0 (by omega), hn 1 (by omega), ho 0 (by omega), ho 1 (by omega), a0, a1, b0]
  | 3, _ => simp [vdF, anyF, hn 0 (by omega), hn 1 (by omega), hn 2 (by omega), ho 0 (by omega), ho 1 (by omega), ho 2 (by omega), a0, a1, a2, b0, b1, b2]
/-- Each token is found by its name. -/
theorem GT.found {n : Nat} {x : Nat → Tk} (h : GT n x) {k : Nat} (hk : k < n) (dk hi : Bool) : lookF x dk hi (x k).nm 0 n = (varF dk hi (x k), true) := by
  obtain ⟨b0, b1, b2⟩ := nmC_ne
  obtain ⟨hl, hn, ho⟩ := h
  match n, hl with
  | 0, _ => omega
  | 1, _ =>
    obtain rfl : k = 0 := by omega
    simp [lookF]
  | 2, _ =>
    rcases (show k = 0 ∨ k = 1 by omega) with rfl | rfl
    · simp [lookF]
    · simp [lookF, hn 0 (by omega), hn 1 (by omega), b0]
  | 3, _ =>
    rcases (show k = 0 ∨ k = 1 ∨ k = 2 by omega) with rfl | rfl | rfl
    · simp [lookF]
    · simp [lookF, hn 0 (by omega), hn 1 (by omega), b0]
    · simp [lookF, hn 0 (by omega), hn 1 (by omega), hn 2 (by omega), b1, b2]
theorem GT.push {n : Nat} {x : Nat → Tk} (h : GT n x) {t : Tk} (hn : n < 3) (h1 : t.nm = nmC n) (h2 : valB t = true) : GT (n + 1) (upd x n t) := by
  refine ⟨by omega, fun i hi => ?_, fun i hi => ?_⟩
  · by_cases e : i = n
    · subst e; simp [upd, h1]
    · simp only [upd, if_neg e]; exact h.nm i (by omega)
  · by_cases e : i = n
    · subst e; simp [upd, h2]
    · simp only [upd, if_neg e]; exact h.ok i (by omega)
abbrev tkL (t : Tk) : List Value := [.string t.nm, .int .i64 t.l, .int .i64 t.d, .int .i64 t.h, .int .i64 t.g]
def isN (v : Value) (b : Int) : Prop := ∃ x, (0 ≤ x ∧ x < b) ∧ v = .int .i64 x
def StT (Pre : Value → Nat → List Value → World → Prop) (FBv : Value → World → Prop) (va : Value) (n : Nat) (xs : List Value) (ok : Tk → Prop) : List Value → World → Prop
  | [], w => Pre va n xs w ∧ FBv va w
  | [a], w => isN a 200 ∧ Pre va n xs w ∧ FBv va w
  | [a, _], w => isN a 200 ∧ Pre va n xs w ∧ FBv va w
  | [a, _, b], w => isN a 200 ∧ isN b 16777216 ∧ Pre va n xs w ∧ FBv va w
  | [a, _, b, c], w => isN a 200 ∧ isN b 16777216 ∧ isN c 5 ∧ Pre va n xs w ∧ FBv va w
  | [_, _, _, _, t], w => ∃ k, ok k ∧ t = k.v ∧ Pre va n xs w ∧ FBv va w
  | [_, _, _, _, _, q], w => ∃ k, ok k ∧ ∃ g, q = .slice (some ⟨g, 0, none⟩) 1 1 ∧ Blk w g 29 (tkL k) ∧ Pre va n xs w ∧ FBv va w
  | [_, _, _, _, _, _, r], w => ∃ k, ok k ∧ Pre r (n + 1) (xs ++ tkL k) w ∧ FBv va w
  | [_, _, _, _, _, _, r, _], w => ∃ k, ok k ∧ Pre r (n + 1) (xs ++ tkL k) w ∧ FBv r w
  | _, _ => False
theorem StT.fb {Pre : Value → Nat → List Value → World → Prop} {FBv : Value → World → Prop} {va : Value} {n : Nat} {xs : List Value} {ok : Tk → Prop} :
    ∀ {vals : List Value} {w : World}, vals.length < 8 → StT Pre FBv va n xs ok vals w → FBv va w ∧ ∃ v m ys, Pre v m ys w
  | [], w, _, h => ⟨h.2, _, _, _, h.1⟩
  | [_], w, _, h => ⟨h.2.2, _, _, _, h.2.1⟩
  | [_, _], w, _, h => ⟨h.2.2, _, _, _, h.2.1⟩
  | [_, _, _], w, _, h => ⟨h.2.2.2, _, _, _, h.2.2.1⟩
  | [_, _, _, _], w, _, h => ⟨h.2.2.2.2, _, _, _, h.2.2.2.1⟩
  | [_, _, _, _, _], w, _, ⟨_, _, _, h1, h2⟩ => ⟨h2, _, _, _, h1⟩
  | [_, _, _, _, _, _], w, _, ⟨_, _, _, _, _, h1, h2⟩ => ⟨h2, _, _, _, h1⟩
  | [_, _, _, _, _, _, _], w, _, ⟨_, _, h1, h2⟩ => ⟨h2, _, _, _, h1⟩
  | _ :: _ :: _ :: _ :: _ :: _ :: _ :: _ :: _, w, hl, _ => by simp at hl; omega
def RT (i : Nat) (v : Value) : Prop := if i = 9 then ∃ x, (0 ≤ x ∧ x < 40) ∧ v = .int .i64 x else ∃ x, (0 ≤ x ∧ x < 40) ∧ v = .int .i64 (x - 1)

set_option maxRecDepth 100000 in
set_option maxHeartbeats 16000000 in
theorem Theme_any (w0 w : World) (sb m c : Nat) (p : Option Addr) (f : Nat → Int) (H : SR w0 w sb p m c f) :
    Calls Try.prog 14 #[.pointer (some ⟨sb, 0, none⟩)] w fun e w' => ∃ (q : Option Addr) (n cap : Nat) (x : Nat → Tk), e = .returned (.agg #[.slice q n cap]) ∧ GT n x ∧ SRow w' q n 5 (tkC x) ∧ But sb w w' := by
  obtain ⟨ia, a1, a2, a3, a4⟩ := info_partsT info_tok
  have HS := hide H
  have hsb : Hid (sb < w.heap.size) := by obtain ⟨t, _, k⟩ := H.src; exact k.lt
  obtain ⟨rb, hrb⟩ : ∃ rb, rb = w.heap.size := ⟨_, rfl⟩
  clear H
  go_enter Try.func14, Try.ntmps14
  go_wp2
  have G1 : Hid (Grew w (((w.alloc (.cells #[.slice none 0 0] 24)).alloc (.cells #[.slice none 0 0] 24)).alloc (.cells #[.string ⟨#[105, 110, 107]⟩, .string ⟨#[112, 97, 112, 101, 114]⟩, .string ⟨#[115, 112, 97, 99, 101]⟩] 9))) := (((Grew.refl w).alloc _).alloc _).alloc _
  have R1 : Hid (Blk (((w.alloc (.cells #[.slice none 0 0] 24)).alloc (.cells #[.slice none 0 0] 24)).alloc (.cells #[.string ⟨#[105, 110, 107]⟩, .string ⟨#[112, 97, 112, 101, 114]⟩, .string ⟨#[115, 112, 97, 99, 101]⟩] 9)) rb 24 [.slice none 0 0]) := ((Blk.new hrb).alloc _).alloc _
  have F1 : Hid (Blk (((w.alloc (.cells #[.slice none 0 0] 24)).alloc (.cells #[.slice none 0 0] 24)).alloc (.cells #[.string ⟨#[105, 110, 107]⟩, .string ⟨#[112, 97, 112, 101, 114]⟩, .string ⟨#[115, 112, 97, 99, 101]⟩] 9)) (rb + 1) 24 [.slice none 0 0]) := (Blk.new (by simp [hrb])).alloc _
  have N1 : Hid (Blk (((w.alloc (.cells #[.slice none 0 0] 24)).alloc (.cells #[.slice none 0 0] 24)).alloc (.cells #[.string ⟨#[105, 110, 107]⟩, .string ⟨#[112, 97, 112, 101, 114]⟩, .string ⟨#[115, 112, 97, 99, 101]⟩] 9)) (rb + 2) 9 [.string ⟨#[105, 110, 107]⟩, .string ⟨#[112, 97, 112, 101, 114]⟩, .string ⟨#[115, 112, 97, 99, 101]⟩]) := Blk.new (by simp [hrb])
  have hz : Hid ((((w.alloc (.cells #[.slice none 0 0] 24)).alloc (.cells #[.slice none 0 0] 24)).alloc (.cells #[.string ⟨#[105, 110, 107]⟩, .string ⟨#[112, 97, 112, 101, 114]⟩, .string ⟨#[115, 112, 97, 99, 101]⟩] 9)).heap.size = rb + 3) := by show _ = _; simp [hrb]
  rw [← hrb]
  have hrw := hide hrb
  clear hrb
  generalize (((w.alloc (.cells #[.slice none 0 0] 24)).alloc (.cells #[.slice none 0 0] 24)).alloc (.cells #[.string ⟨#[105, 110, 107]⟩, .string ⟨#[112, 97, 112, 101, 114]⟩, .string ⟨#[115, 112, 97, 99, 101]⟩] 9)) = w1 at *
  have S1 := hide (HS.out.grew G1.out)
  have B1 := hide (But.of_grew (b := sb) G1.out)
  have NC : Hid (∀ W, Two sb (rb + 1) w1 W → ∀ i, i < 3 → W.cell? ⟨rb + 2, i, none⟩ = some (.string (nmC i))) := fun W hT i hi => by
    have hB : Blk W (rb + 2) 9 [.string ⟨#[105, 110, 107]⟩, .string ⟨#[112, 97, 112, 101, 114]⟩, .string ⟨#[115, 112, 97, 99, 101]⟩] := N1.out.same (hT.block _ N1.out.lt (by have := hsb.out; have := hrw.out; omega) (by omega))
    match i, hi with
    | 0, _ => exact hB.cell 0 rfl
    | 1, _ => exact hB.cell 1 rfl
    | 2, _ => exact hB.cell 2 rfl
  have hlo : Hid (w0.heap.size ≤ rb + 1) := by have := HS.out.g.size; have := hrw.out; show _ ≤ _; omega
  have L1 : Hid (GT 0 (fun _ => ⟨⟨#[]⟩, 0, 0, 0, 0⟩) ∧ Lp w0 w1 sb (rb + 1) p m c f 29 5 (.slice none 0 0) 0 (flat 0 5 (tkC fun _ => ⟨⟨#[]⟩, 0, 0, 0, 0⟩)) w1 ∧ Blk w1 (rb + 1) 24 [.slice none 0 0]) :=
    ⟨⟨by omega, fun i hi => absurd hi (by omega), fun i hi => absurd hi (by omega)⟩, ⟨S1.out, Two.refl _ _ _, World.ownsRow_nil _ _ _ _, Nat.lt_of_lt_of_le hsb.out G1.out.size, F1.out.lt, by have := hsb.out; have := hrw.out; omega, hlo.out⟩, F1.out⟩
  clear S1 HS F1 N1 G1
  go_loopg [5] 5 (fun gh vi wr => ∃ (i : Nat) (va : Value) (x : Nat → Tk), vi = .int .i64 (i : Int) ∧ i ≤ 3 ∧ 4 - i < gh ∧ Hid (GT i x ∧ Lp w0 w1 sb (rb + 1) p m c f 29 5 va i (flat i 5 (tkC x)) wr ∧ Blk wr (rb + 1) 24 [va]))
  case atStart => exact ⟨0, _, _, by go_num, by omega, by omega, L1⟩
  case round =>
    clear L1
    obtain ⟨wo, rfl⟩ : ∃ wo : World, wo = wr := ⟨_, rfl⟩
    obtain ⟨i, va, x, rfl, hi, hg, S⟩ := hrel
    have KN := hide (N_any w0 wo sb m c p f 4 S.out.2.1.sr (by decide) (by decide))
    go_wp2_with fail
    refine KN.out.mono ?_
    rintro e w2 ⟨y, rfl, hy, q, SS⟩
    have T2 : Hid (GT i x ∧ Lp w0 w1 sb (rb + 1) p m c f 29 5 va i (flat i 5 (tkC x)) w2 ∧ Blk w2 (rb + 1) 24 [va]) := ⟨S.out.1, S.out.2.1.but q SS, S.out.2.1.blk_but S.out.2.2 q⟩
    clear q SS S KN
    by_cases hlt : (i : Int) < y
    · have hi3 : i < 3 := by omega
      have hi3z : (i : Int) < 3 := by omega
      have hi0z : (0 : Int) ≤ (i : Int) := by omega
      go_wp2
      refine MJ.wp_region_ce (fun W => W.cell? ⟨rb + 1, 0, none⟩ = some va ∧ W.cell? ⟨rb + 2, i, none⟩ = some (.string (nmC i))) [7, 9, 12, 14, 15, 16, 17, 19] [9, 10] [7, 9, 10, 12, 14, 15, 16, 17, 19] [(20, 7), (22, 9), (23, 10), (25, 12), (27, 14), (28, 15), (29, 16), (30, 17)]
        (StT (fun v n xs W => Lp w0 w1 sb (rb + 1) p m c f 29 5 v n xs W) (fun v W => Blk W (rb + 1) 24 [v]) va i (flat i 5 (tkC x)) (fun t => t.nm = nmC i ∧ valB t = true)) RT
        (by kernel_rfl) (by kernel_rfl) (by simp) (by kernel_rfl) (Or.inl (by kernel_rfl)) ?h0 ?hJ ?_
      case h0 => exact ⟨T2.out.2.1.grew ((Grew.refl _).drew), T2.out.2.2.drew⟩
      case hJ =>
        intro vals W hl hS
        obtain ⟨h1, v, n', ys, h2⟩ := StT.fb hl hS
        exact ⟨h1.cell 0 rfl, NC.out W h2.fr i hi3⟩
      repeat (first | (refine MJ.lex_skip rfl (by rfl) ?_) | (refine MJ.lex_calm rfl (by rfl) (fun K hK => ?_); apply Exists.intro; refine ⟨fun W hW => ?_, ?_⟩; (obtain ⟨hW1, hW2⟩ := hW; go_simp; exact rfl); go_simp; refine hK _ ?_; clear hK K))
      refine MJ.lex_ce 0 rfl (by kernel_rfl) (by rfl) rfl ?_ ?_
      · rintro vs W ⟨hP, hF⟩ _
        have KN := hide (N_any w0 W sb m c p f 200 hP.sr (by decide) (by decide))
        have hPP := hide hP
        have hFF := hide hF
        clear hP hF
        simp [go_sem, evS, List.lookup]
        refine KN.out.mono ?_
        rintro e w' ⟨z, rfl, hz', q, SS⟩
        have P2 := hPP.out.but q SS
        have F2 := hPP.out.blk_but hFF.out q
        exact ⟨_, rfl, ⟨z, hz', rfl⟩, P2, F2⟩
      repeat (first | (refine MJ.lex_skip rfl (by rfl) ?_) | (refine MJ.lex_calm rfl (by rfl) (fun K hK => ?_); apply Exists.intro; refine ⟨fun W hW => ?_, ?_⟩; (obtain ⟨hW1, hW2⟩ := hW; go_simp; exact rfl); go_simp; refine hK _ ?_; clear hK K))
      refine MJ.lex_ce 1 rfl (by kernel_rfl) (by rfl) rfl ?_ ?_
      · rintro vs W ⟨h1, hP, hF⟩ _
        have KN := hide (N_any w0 W sb m c p f 40 hP.sr (by decide) (by decide))
        have hPP := hide hP
        have hFF := hide hF
        clear hP hF
        have H1 := hide h1
        clear h1
        simp [go_sem, evS, List.lookup]
        refine KN.out.mono ?_
        rintro e w' ⟨z, rfl, hz', q, SS⟩
        have P2 := hPP.out.but q SS
        have F2 := hPP.out.blk_but hFF.out q
        exact ⟨_, rfl, ⟨H1.out, P2, F2⟩, z, hz', rfl⟩
      refine MJ.lex_ce_free (by rfl) (by rfl) rfl ?_ ?_
      · rintro vs W hR
        obtain ⟨z, hz', e⟩ := hR 9 (by simp) (by kernel_rfl)
        replace e : vs 9 = .int .i64 z := e
        have wx : IntKind.i64.wrap (z - 1) = z - 1 := wr (by omega) (by omega)
        have FIN : Hid (RT 10 (.int .i64 (z - 1))) := ⟨z, hz', rfl⟩
        clear hR
        simp [go_sem, evS, List.lookup, e, wx]
        exact FIN.out
      repeat (first | (refine MJ.lex_skip rfl (by rfl) ?_) | (refine MJ.lex_calm rfl (by rfl) (fun K hK => ?_); apply Exists.intro; refine ⟨fun W hW => ?_, ?_⟩; (obtain ⟨hW1, hW2⟩ := hW; go_simp; exact rfl); go_simp; refine hK _ ?_; clear hK K))
      refine MJ.lex_ce 2 rfl (by kernel_rfl) (by rfl) rfl ?_ ?_
      · rintro vs W ⟨h1, hP, hF⟩ _
        have KN := hide (N_any w0 W sb m c p f 16777216 hP.sr (by decide) (by decide))
        have hPP := hide hP
        have hFF := hide hF
        clear hP hF
        have H1 := hide h1
        clear h1
        simp [go_sem, evS, List.lookup]
        refine KN.out.mono ?_
        rintro e w' ⟨z, rfl, hz', q, SS⟩
        have P2 := hPP.out.but q SS
        have F2 := hPP.out.blk_but hFF.out q
        exact ⟨_, rfl, H1.out, ⟨z, hz', rfl⟩, P2, F2⟩
      repeat (first | (refine MJ.lex_skip rfl (by rfl) ?_) | (refine MJ.lex_calm rfl (by rfl) (fun K hK => ?_); apply Exists.intro; refine ⟨fun W hW => ?_, ?_⟩; (obtain ⟨hW1, hW2⟩ := hW; go_simp; exact rfl); go_simp; refine hK _ ?_; clear hK K))
      refine MJ.lex_ce 3 rfl (by kernel_rfl) (by rfl) rfl ?_ ?_
      · rintro vs W ⟨h1, h2, hP, hF⟩ _
        have KN := hide (N_any w0 W sb m c p f 5 hP.sr (by decide) (by decide))
        have hPP := hide hP
        have hFF := hide hF
        clear hP hF
        have H1 := hide h1
        have H2 := hide h2
        clear h1 h2
        simp [go_sem, evS, List.lookup]
        refine KN.out.mono ?_
        rintro e w' ⟨z, rfl, hz', q, SS⟩
        have P2 := hPP.out.but q SS
        have F2 := hPP.out.blk_but hFF.out q
        exact ⟨_, rfl, H1.out, H2.out, ⟨z, hz', rfl⟩, P2, F2⟩
      repeat (first | (refine MJ.lex_skip rfl (by rfl) ?_) | (refine MJ.lex_calm rfl (by rfl) (fun K hK => ?_); apply Exists.intro; refine ⟨fun W hW => ?_, ?_⟩; (obtain ⟨hW1, hW2⟩ := hW; go_simp; exact rfl); go_simp; refine hK _ ?_; clear hK K))
      refine MJ.lex_ce 4 rfl (by kernel_rfl) (by rfl) rfl ?_ ?_
      · rintro vs W ⟨⟨z1, h1, e1⟩, ⟨z2, h2, e2⟩, ⟨z3, h3, e3⟩, hP, hF⟩ hR
        obtain ⟨z4, h4, e4⟩ := hR 10 (by simp) (by kernel_rfl)
        replace e1 : vs 7 = .int .i64 z1 := e1
        replace e2 : vs 12 = .int .i64 z2 := e2
        replace e3 : vs 14 = .int .i64 z3 := e3
        replace e4 : vs 10 = .int .i64 (z4 - 1) := e4
        have FIN : Hid (StT (fun v n xs W => Lp w0 w1 sb (rb + 1) p m c f 29 5 v n xs W) (fun v W => Blk W (rb + 1) 24 [v]) va i (flat i 5 (tkC x)) (fun t => t.nm = nmC i ∧ valB t = true) (MJ.valsOf [7, 9, 12, 14, 15, 16, 17, 19] vs 4 ++ [(Tk.mk (nmC i) z1 (z4 - 1) z2 z3).v]) W) := ⟨⟨nmC i, z1, z4 - 1, z2, z3⟩, ⟨rfl, by simp only [valB, wiB, Bool.and_eq_true, decide_eq_true_eq]; omega⟩, rfl, hP, hF⟩
        clear hP hF hR
        generalize nmC i = nm at *
        simp [go_sem, evS, List.lookup, e1, e2, e3, e4]
        exact FIN.out
      repeat (first | (refine MJ.lex_skip rfl (by rfl) ?_) | (refine MJ.lex_calm rfl (by rfl) (fun K hK => ?_); apply Exists.intro; refine ⟨fun W hW => ?_, ?_⟩; (obtain ⟨hW1, hW2⟩ := hW; go_simp; exact rfl); go_simp; refine hK _ ?_; clear hK K))
      refine MJ.lex_ce 5 rfl (by kernel_rfl) (by rfl) rfl ?_ ?_
      · rintro vs W ⟨k, hk, e, hP, hF⟩ _
        obtain ⟨kn, kl, kd, kh, kg⟩ := k
        replace e : vs 15 = .agg #[.string kn, .int .i64 kl, .int .i64 kd, .int .i64 kh, .int .i64 kg] := e
        have FIN : Hid (StT (fun v n xs W => Lp w0 w1 sb (rb + 1) p m c f 29 5 v n xs W) (fun v W => Blk W (rb + 1) 24 [v]) va i (flat i 5 (tkC x)) (fun t => t.nm = nmC i ∧ valB t = true) (MJ.valsOf [7, 9, 12, 14, 15, 16, 17, 19] vs 5 ++ [.slice (some ⟨W.heap.size, 0, none⟩) 1 1]) (W.alloc (.cells [.string kn, .int .i64 kl, .int .i64 kd, .int .i64 kh, .int .i64 kg].toArray 29))) :=
          ⟨⟨kn, kl, kd, kh, kg⟩, hk, W.heap.size, rfl, Blk.new rfl, hP.grew ((Grew.refl W).alloc _), hF.alloc _⟩
        clear hP hF
        simp [go_sem, evS, List.lookup, e]
        exact FIN.out
      repeat (first | (refine MJ.lex_skip rfl (by rfl) ?_) | (refine MJ.lex_calm rfl (by rfl) (fun K hK => ?_); apply Exists.intro; refine ⟨fun W hW => ?_, ?_⟩; (obtain ⟨hW1, hW2⟩ := hW; go_simp; exact rfl); go_simp; refine hK _ ?_; clear hK K))
      refine MJ.lex_ce 6 rfl (by kernel_rfl) (by rfl) rfl ?_ ?_
      · rintro vs W ⟨k, hk, g, e, hB, hP, hF⟩ _
        replace e : vs 16 = .slice (some ⟨g, 0, none⟩) 1 1 := e
        refine does_append W _ _ 22 rfl w1.heap.size 29 ia _ 5 48 Try.underlying22 a1 a2 a3 a4 rfl (by decide) va i _ rfl hP.own ⟨g, 0, none⟩ 1 1 (tkL k) e (by decide) rfl ?c1 ?c2 ?c3 ?c4 ?c5 ?_
        case c1 =>
          intro j u hj
          rw [addr_add]
          exact hB.cell j hj
        case c2 => intro u hu; simp at hu; rcases hu with rfl | rfl | rfl | rfl | rfl <;> rfl
        case c3 => unfold maxLen; omega
        case c4 => omega
        case c5 => exact hP.fr.size
        intro v' w' ho hgr hd
        exact ⟨⟨k, hk, hP.appended ho hgr hd, hP.blk_app hF hgr⟩, fun h => absurd h (by decide)⟩
      repeat (first | (refine MJ.lex_skip rfl (by rfl) ?_) | (refine MJ.lex_calm rfl (by rfl) (fun K hK => ?_); apply Exists.intro; refine ⟨fun W hW => ?_, ?_⟩; (obtain ⟨hW1, hW2⟩ := hW; go_simp; exact rfl); go_simp; refine hK _ ?_; clear hK K))
      refine MJ.lex_ce 7 rfl (by kernel_rfl) (by rfl) rfl ?_ ?_
      · rintro vs W ⟨k, hk, hP, hF⟩ _
        have d0 := hF.cell 0 rfl
        have f0 := hF.free 0
        have FIN : Hid (∀ z, StT (fun v n xs W => Lp w0 w1 sb (rb + 1) p m c f 29 5 v n xs W) (fun v W => Blk W (rb + 1) 24 [v]) va i (flat i 5 (tkC x)) (fun t => t.nm = nmC i ∧ valB t = true) (MJ.valsOf [7, 9, 12, 14, 15, 16, 17, 19] vs 7 ++ [z]) (W.setCell ⟨rb + 1, 0, none⟩ (vs 17))) :=
          fun z => ⟨k, hk, hP.set 0 _, hF.set 0 _⟩
        obtain ⟨q1, cap1, e8⟩ := own_val hP.own
        replace e8 : vs 17 = .slice q1 (i + 1) cap1 := e8
        clear hP hF
        rw [e8] at FIN
        simp [go_sem, evS, List.lookup, d0, f0, e8]
        exact FIN.out _
      refine MJ.lex_nil ?_
      rintro vs w3 ⟨k, hk, hP, hF⟩
      have NX : Hid (GT (i + 1) (upd x i k) ∧ Lp w0 w1 sb (rb + 1) p m c f 29 5 (vs 17) (i + 1) (flat (i + 1) 5 (tkC (upd x i k))) w3 ∧ Blk w3 (rb + 1) 24 [vs 17]) := by
        refine ⟨T2.out.1.push hi3 hk.1 hk.2, ?_, hF⟩
        have e : flat (i + 1) 5 (tkC (upd x i k)) = flat i 5 (tkC x) ++ tkL k := by
          rw [flat_succ]
          congr 1
          · exact flat_congr fun i' hi' j => by
              have : upd x i k i' = x i' := by simp [upd, Nat.ne_of_lt hi']
              unfold tkC; rw [this]
          · simp [upd, tkC, List.range_succ]
        rw [e]; exact hP
      clear hP hF T2
      simp only [fillS, List.foldl_cons, List.foldl_nil]
      go_wp2
      go_roundg (4 - i)
      case measure => omega
      case rel => exact ⟨i + 1, _, _, by go_num, by omega, by omega, NX⟩
    · obtain ⟨q0, cap0, e0⟩ := own_val T2.out.2.1.own
      have OW : Hid (∀ u, (w2.setCell ⟨rb, 0, none⟩ u).ownsRow w1.heap.size 29 5 va i (flat i 5 (tkC x))) := fun u => own_move T2.out.2.1.own fun b hb => heap_setCell_other w2 ⟨rb, 0, none⟩ b u (by have := (T2.out.2.1.own.lt b hb).1; have := R1.out.lt; show b ≠ rb; omega)
      have HG := hide T2.out.1
      have TB := hide (Two.to_but B1.out T2.out.2.1.fr (by have := hrw.out; omega))
      have RB : Hid (Blk w2 rb 24 [.slice none 0 0]) := R1.out.same (T2.out.2.1.fr.block rb R1.out.lt (by have := hsb.out; have := hrw.out; omega) (by omega))
      have F2 := hide T2.out.2.2
      clear T2
      subst e0
      have SR2 : Hid (SRow (w2.setCell ⟨rb, 0, none⟩ (.slice q0 i cap0)) q0 i 5 (tkC x)) := by
        obtain ⟨q, cap, e, _, hr⟩ := own_srow (OW.out (.slice q0 i cap0))
        simp only [Value.slice.injEq] at e
        obtain ⟨rfl, -, rfl⟩ := e
        exact hr
      have d0 := F2.out.cell 0 rfl
      have g0 := RB.out.cell 0 rfl
      have g1 := RB.out.free 0
      have FB : Hid (But sb w (w2.setCell ⟨rb, 0, none⟩ (.slice q0 i cap0))) := TB.out.to_but ((But.refl rb w2).setCell rfl _) (Nat.le_of_eq hrw.out.symm)
      have SW := hide (RB.out.set 0 (.slice q0 i cap0))
      clear OW TB RB F2
      go_wp2
      clear d0 g0 g1
      generalize (w2.setCell ⟨rb, 0, none⟩ (.slice q0 i cap0)) = w5 at *
      have f0 := SW.out.cell 0 rfl
      refine bodyPost_ret (v := .agg #[.slice q0 i cap0]) (by simp [results, Try.results14, go_sem, f0]) rfl ?_
      exact ⟨_, _, _, _, rfl, HG.out, SR2.out, FB.out⟩
end Go.Proofs.Ytpdjgmfccolgjaa
