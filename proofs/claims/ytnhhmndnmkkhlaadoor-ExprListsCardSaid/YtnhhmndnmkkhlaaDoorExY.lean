/- The values of the four expressions of the law ExprShort. -/
import Derived.Test.YtnhhmndnmkkhlaaDoorExX
namespace Go.Proofs.YtnhhmndnmkkhlaaDoor
open Go.RowKit Go.Sort
set_option linter.unusedVariables false
set_option linter.unusedSimpArgs false

abbrev badN (s1 : Nat) : Nd := ⟨8, 0, ⟨#[]⟩, 2, some ⟨s1, 0, none⟩, 2⟩
abbrev wrongN (s2 : Nat) : Nd := ⟨10, 0, ⟨#[]⟩, 2, some ⟨s2, 0, none⟩, 2⟩
abbrev badL : List Value := [.int .i64 1, .int .i64 1, .string ⟨#[]⟩, .slice none 0 0, .int .i64 1, .int .i64 0, .string ⟨#[]⟩, .slice none 0 0]
abbrev wrongL (s1 : Nat) : List Value := [.int .i64 8, .int .i64 0, .string ⟨#[]⟩, .slice (some ⟨s1, 0, none⟩) 2 2, .int .i64 1, .int .i64 0, .string ⟨#[]⟩, .slice none 0 0]
abbrev twoL (b s2 : Int) (s : Nat) : List Value := [.int .i64 2, .int .i64 b, .string ⟨#[]⟩, .slice none 0 0, .int .i64 10, .int .i64 0, .string ⟨#[]⟩, .slice (some ⟨s, 0, none⟩) 2 2]
/-- The two operands lie in memory. -/
structure Bw (w : World) (s1 s2 : Nat) : Prop where
  b1 : Blk w s1 58 badL
  b2 : Blk w s2 58 (wrongL s1)
theorem Bw.grew {w w' : World} {s1 s2 : Nat} (h : Bw w s1 s2) (g : Grew w w') : Bw w' s1 s2 := ⟨h.b1.grew g, h.b2.grew g⟩
theorem int_V {w0 : World} {B : Nat} {n dep : Int} (hn : nuB n = true) (h0 : 0 ≤ dep) (h1 : dep ≤ 16) : Vl w0 B (nd 1 n) dep 1 := Vl.leaf (.inl ⟨rfl, hn, rfl, rfl⟩) rfl h0 h1
theorem bool_V {w0 : World} {B : Nat} {n dep : Int} (hn : trB n = true) (h0 : 0 ≤ dep) (h1 : dep ≤ 16) : Vl w0 B (nd 2 n) dep 1 := Vl.leaf (.inr (.inl ⟨rfl, hn, rfl, rfl⟩)) rfl h0 h1
theorem bad_V {w : World} {s1 : Nat} {dep : Int} (h : Blk w s1 58 badL) (h0 : 0 ≤ dep) (h1 : dep ≤ 15) : Vl w w.heap.size (badN s1) dep 3 :=
  Vl.node (ts := fun _ => 1) (.inr (.inr (.inr ⟨by show (4 : Int) < 8; omega, rfl, rfl, .inr (.inl ⟨by simp [Op2], rfl⟩)⟩))) (Row.two (x := nd 1 1) (y := nd 1 0) h h.lt) h0 (by omega) fun i hi => by
    match i, hi with
    | 0, _ => exact int_V (by decide) (by omega) (by omega)
    | 1, _ => exact int_V (by decide) (by omega) (by omega)
theorem bad_E {w : World} {s1 : Nat} (h : Blk w s1 58 badL) : Evs w w.heap.size none 0 0 (badN s1) (1, 0, 0) := by
  have := Evs.bin (op := 8) (k0 := 1) (n0 := 1) (k1 := 1) (n1 := 0) (c := 2) (s := ⟨#[]⟩) (pe := none) (me := 0) (ce := 0) (.inr (.inr (.inr (.inl rfl)))) (Row.two (x := nd 1 1) (y := nd 1 0) h h.lt) (Nat.le_refl _) Evs.int Evs.int (.inl ⟨rfl, by decide⟩) (.inl ⟨rfl, by decide⟩)
  rwa [opR_div0] at this
theorem wrong_V {w : World} {s1 s2 : Nat} {dep : Int} (h : Bw w s1 s2) (h0 : 0 ≤ dep) (h1 : dep ≤ 14) : Vl w w.heap.size (wrongN s2) dep 5 :=
  Vl.node (ts := fun i => if i = 0 then 3 else 1) (.inr (.inr (.inr ⟨by show (4 : Int) < 10; omega, rfl, rfl, .inr (.inl ⟨by simp [Op2], rfl⟩)⟩))) (Row.two (x := badN s1) (y := nd 1 0) h.b2 h.b2.lt) h0 (by omega) fun i hi => by
    match i, hi with
    | 0, _ => exact bad_V h.b1 (by omega) (by omega)
    | 1, _ => exact int_V (by decide) (by omega) (by omega)
theorem wrong_E {w : World} {s1 s2 : Nat} (h : Bw w s1 s2) : Evs w w.heap.size none 0 0 (wrongN s2) (1, 0, 0) :=
  Evs.bin_err (op := 10) (c := 2) (s := ⟨#[]⟩) ⟨by omega, by omega⟩ (Row.two (x := badN s1) (y := nd 1 0) h.b2 h.b2.lt) (Nat.le_refl _) (bad_E h.b1) (by omega)
theorem logic_V {w : World} {op b : Int} {s1 s2 s3 : Nat} (h : Bw w s1 s2) (h3 : Blk w s3 58 (twoL b 0 s2)) (hop : op = 13 ∨ op = 14) (hb : trB b = true) : Vl w w.heap.size ⟨op, 0, ⟨#[]⟩, 2, some ⟨s3, 0, none⟩, 2⟩ 1 7 :=
  Vl.node (ts := fun i => if i = 0 then 1 else 5) (.inr (.inr (.inr ⟨by show (4 : Int) < op; omega, rfl, rfl, .inr (.inl ⟨by show Op2 op; rcases hop with rfl | rfl <;> simp [Op2], rfl⟩)⟩))) (Row.two (x := nd 2 b) (y := wrongN s2) h3 h3.lt) (by omega) (by omega) fun i hi => by
    match i, hi with
    | 0, _ => exact bool_V hb (by omega) (by omega)
    | 1, _ => exact wrong_V h (by omega) (by omega)
theorem fin_E {w : World} {d : Nd} {t : Nat} {e k n : Int} (hv : Vl w w.heap.size d 1 t) (ht : t ≤ 400) (he : Evs w w.heap.size none 0 0 d (e, k, n)) :
    Calls Tryd.prog 30 #[d.v, .slice none 0 0] w fun x w' => x = .returned (.tuple #[nv k n, .int .i64 e]) ∧ Grew w w' :=
  Eval_ok (g := fun _ => ⟨⟨#[]⟩, nd 1 0⟩) w hv ht he (by omega) BRow.nil (LfB.nil _)
theorem and_no {w : World} {s1 s2 s3 : Nat} (h : Bw w s1 s2) (h3 : Blk w s3 58 (twoL 0 0 s2)) :
    Calls Tryd.prog 30 #[.agg #[.int .i64 13, .int .i64 0, .string ⟨#[]⟩, .slice (some ⟨s3, 0, none⟩) 2 2], .slice none 0 0] w fun x w' => x = .returned (.tuple #[nv 2 0, .int .i64 0]) ∧ Grew w w' := by
  have hE : Evs w w.heap.size none 0 0 ⟨13, 0, ⟨#[]⟩, 2, some ⟨s3, 0, none⟩, 2⟩ (0, 2, 0) := Evs.of13 (Nat.le_refl _) (Ds.and_no (Row.two (x := nd 2 0) (y := wrongN s2) h3 h3.lt) (Nat.le_refl _) (Evs.bool (.inl rfl)))
  have := fin_E (logic_V h h3 (.inl rfl) (by decide)) (by omega) hE
  exact this
theorem or_yes {w : World} {s1 s2 s3 : Nat} (h : Bw w s1 s2) (h3 : Blk w s3 58 (twoL 1 0 s2)) :
    Calls Tryd.prog 30 #[.agg #[.int .i64 14, .int .i64 0, .string ⟨#[]⟩, .slice (some ⟨s3, 0, none⟩) 2 2], .slice none 0 0] w fun x w' => x = .returned (.tuple #[nv 2 1, .int .i64 0]) ∧ Grew w w' := by
  have hE : Evs w w.heap.size none 0 0 ⟨14, 0, ⟨#[]⟩, 2, some ⟨s3, 0, none⟩, 2⟩ (0, 2, 1) := Evs.of14 (Nat.le_refl _) (Ds.or_yes (Row.two (x := nd 2 1) (y := wrongN s2) h3 h3.lt) (Nat.le_refl _) (Evs.bool (.inr rfl)))
  have := fin_E (logic_V h h3 (.inr rfl) (by decide)) (by omega) hE
  exact this
theorem and_yes {w : World} {s1 s2 s3 : Nat} (h : Bw w s1 s2) (h3 : Blk w s3 58 (twoL 1 0 s2)) :
    Calls Tryd.prog 30 #[.agg #[.int .i64 13, .int .i64 0, .string ⟨#[]⟩, .slice (some ⟨s3, 0, none⟩) 2 2], .slice none 0 0] w fun x w' => x = .returned (.tuple #[nv 0 0, .int .i64 1]) ∧ Grew w w' := by
  have hE : Evs w w.heap.size none 0 0 ⟨13, 0, ⟨#[]⟩, 2, some ⟨s3, 0, none⟩, 2⟩ (1, 0, 0) := Evs.of13 (Nat.le_refl _) (Ds.and_err (Row.two (x := nd 2 1) (y := wrongN s2) h3 h3.lt) (Nat.le_refl _) (Evs.bool (.inr rfl)) (wrong_E h) (by omega))
  have := fin_E (logic_V h h3 (.inl rfl) (by decide)) (by omega) hE
  exact this
abbrev threeL (n : Int) (s1 : Nat) : List Value := [.int .i64 2, .int .i64 1, .string ⟨#[]⟩, .slice none 0 0, .int .i64 1, .int .i64 n, .string ⟨#[]⟩, .slice none 0 0, .int .i64 8, .int .i64 0, .string ⟨#[]⟩, .slice (some ⟨s1, 0, none⟩) 2 2]
theorem if_yes {w : World} {n : Int} {s1 s2 s3 : Nat} (h : Bw w s1 s2) (h3 : Blk w s3 58 (threeL n s1)) (hn : nuB n = true) :
    Calls Tryd.prog 30 #[.agg #[.int .i64 15, .int .i64 0, .string ⟨#[]⟩, .slice (some ⟨s3, 0, none⟩) 3 3], .slice none 0 0] w fun x w' => x = .returned (.tuple #[nv 1 n, .int .i64 0]) ∧ Grew w w' := by
  have hR := Row.three (x := nd 2 1) (y := nd 1 n) (z := badN s1) h3 h3.lt
  have hV : Vl w w.heap.size ⟨15, 0, ⟨#[]⟩, 3, some ⟨s3, 0, none⟩, 3⟩ 1 6 :=
    Vl.node (ts := fun i => if i = 2 then 3 else 1) (.inr (.inr (.inr ⟨by show (4 : Int) < 15; omega, rfl, rfl, .inr (.inr ⟨rfl, rfl⟩)⟩))) hR (by omega) (by omega) fun i hi => by
      match i, hi with
      | 0, _ => exact bool_V (by decide) (by omega) (by omega)
      | 1, _ => exact int_V hn (by omega) (by omega)
      | 2, _ => exact bad_V h.b1 (by omega) (by omega)
  have hE : Evs w w.heap.size none 0 0 ⟨15, 0, ⟨#[]⟩, 3, some ⟨s3, 0, none⟩, 3⟩ (0, 1, n) := Evs.of15 (Nat.le_refl _) (Ds.if_yes hR (Nat.le_refl _) (Evs.bool (.inr rfl)) Evs.int)
  have := fin_E hV (by omega) hE
  exact this
end Go.Proofs.YtnhhmndnmkkhlaaDoor
