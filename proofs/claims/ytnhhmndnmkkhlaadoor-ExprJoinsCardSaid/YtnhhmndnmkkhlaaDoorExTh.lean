/- The types that the reader builds. -/
import Derived.Test.YtnhhmndnmkkhlaaDoorExTg
namespace Go.Proofs.YtnhhmndnmkkhlaaDoor
open Go.RowKit Go.Sort
set_option linter.unusedVariables false
set_option linter.unusedSimpArgs false

set_option maxRecDepth 100000 in
set_option maxHeartbeats 4000000 in
theorem Type_any : ∀ (dn : Nat) (w0 w : World) (sb m c : Nat) (p : Option Addr) (f : Nat → Int), SR w0 w sb p m c f → dn ≤ 10 →
    Calls Tryd.prog 25 #[.pointer (some ⟨sb, 0, none⟩), .int .i64 (dn : Int)] w fun e w' => ∃ v t l b, e = .returned v ∧ (Ch b l t ∧ l ≤ dn + 1) ∧ TyIn w' (fun x => w.heap.size ≤ x) t v ∧ Upd sb w w' ∧ SR w0 w' sb p m c f := by
  intro dn
  induction dn with
  | zero =>
    intro w0 w sb m c p f H _
    have hsb : sb < w.heap.size := by obtain ⟨t, _, k⟩ := H.src; exact k.lt
    have hw0 : w0.heap.size ≤ w.heap.size := H.g.size
    have KN := fun W (h : SR w0 W sb p m c f) => hide (N_any w0 W sb m c p f 5 h (by omega) (by omega))
    have HS := hide H
    clear H
    go_enter Tryd.func25, Tryd.ntmps25
    go_wp2_with fail
    refine name_calls fun w1 h1 => ?_
    have G1 : Grew w w1 := by rw [h1]; exact (Grew.refl _).alloc _
    have B1 : Blk w1 w.heap.size 28 [.int .i64 0, .slice none 0 0] := by rw [h1]; exact Blk.new rfl
    clear h1
    refine ((KN w1 (HS.out.grew G1)).out).mono ?_
    rintro e w2 ⟨x, rfl, hx, U, S⟩
    have U2 := hide ((Upd.of_grew (b := sb) G1).trans U)
    have B2 := B1.upd U (by omega)
    have S2 := hide S
    have z2 : w.heap.size + 1 ≤ w2.heap.size := B2.lt
    clear KN HS U S G1 B1
    have a0 := B2.cell 0 rfl
    have af0 := B2.free 0
    have a1 := B2.cell 1 rfl
    have af1 := B2.free 1
    have alt := B2.lt
    by_cases h3 : x < 3
    · have wx : IntKind.i64.wrap (x + 1) = x + 1 := wr (by omega) (by omega)
      go_wp2
      refine name_bp fun wq hq => ?_
      have Bq : Blk wq w.heap.size 28 [.int .i64 (x + 1), .slice none 0 0] := by
        rw [hq]
        repeat (with_reducible refine Blk.alloc ?_ _)
        exact (B2.set' 0 _ rfl).set' 1 _ rfl
      have Uq : Upd sb w wq := by
        rw [hq]
        repeat' (first | (with_reducible exact U2.out) | (with_reducible refine Upd.alloc ?_ _) | (with_reducible refine Upd.setOwn ?_ _ ?_) | (dsimp only; omega))
      have Sq : SR w0 wq sb p m c f := by
        rw [hq]
        repeat' (first | (with_reducible exact S2.out) | (with_reducible refine SR.alloc ?_ _) | (with_reducible refine SR.set ?_ ?_ ?_ _ _) | omega)
      have q0 := Bq.cell 0 rfl
      have q1 := Bq.cell 1 rfl
      exact bodyPost_ret (v := tyV (x + 1) none 0 0) (by simp [results, Tryd.results25, go_sem, q0, q1]) rfl ⟨_, .mk (x + 1) 0 fun _ => .nil, 0, x + 1, rfl, ⟨⟨_, rfl, by omega⟩, by omega⟩, TyIn.leaf (by omega), Uq, Sq⟩
    · by_cases h4 : x = 4
      · subst h4
        go_wp2
        refine name_bp fun wq hq => ?_
        have Bq : Blk wq w.heap.size 28 [.int .i64 (4), .slice none 0 0] := by
          rw [hq]
          repeat (with_reducible refine Blk.alloc ?_ _)
          exact (B2.set' 0 _ rfl).set' 1 _ rfl
        have Uq : Upd sb w wq := by
          rw [hq]
          repeat' (first | (with_reducible exact U2.out) | (with_reducible refine Upd.alloc ?_ _) | (with_reducible refine Upd.setOwn ?_ _ ?_) | (dsimp only; omega))
        have Sq : SR w0 wq sb p m c f := by
          rw [hq]
          repeat' (first | (with_reducible exact S2.out) | (with_reducible refine SR.alloc ?_ _) | (with_reducible refine SR.set ?_ ?_ ?_ _ _) | omega)
        have q0 := Bq.cell 0 rfl
        have q1 := Bq.cell 1 rfl
        exact bodyPost_ret (v := tyV (4) none 0 0) (by simp [results, Tryd.results25, go_sem, q0, q1]) rfl ⟨_, .mk (4) 0 fun _ => .nil, 1, 0, rfl, ⟨⟨0, _, rfl, .inl ⟨rfl, rfl, rfl⟩⟩, by omega⟩, TyIn.leaf (by omega), Uq, Sq⟩
      · have h4f : (x == 4) = false := by simpa using h4
        go_wp2
        refine name_bp fun wq hq => ?_
        have Bq : Blk wq w.heap.size 28 [.int .i64 (4), .slice none 0 0] := by
          rw [hq]
          repeat (with_reducible refine Blk.alloc ?_ _)
          exact (B2.set' 0 _ rfl).set' 1 _ rfl
        have Uq : Upd sb w wq := by
          rw [hq]
          repeat' (first | (with_reducible exact U2.out) | (with_reducible refine Upd.alloc ?_ _) | (with_reducible refine Upd.setOwn ?_ _ ?_) | (dsimp only; omega))
        have Sq : SR w0 wq sb p m c f := by
          rw [hq]
          repeat' (first | (with_reducible exact S2.out) | (with_reducible refine SR.alloc ?_ _) | (with_reducible refine SR.set ?_ ?_ ?_ _ _) | omega)
        have q0 := Bq.cell 0 rfl
        have q1 := Bq.cell 1 rfl
        exact bodyPost_ret (v := tyV (4) none 0 0) (by simp [results, Tryd.results25, go_sem, q0, q1]) rfl ⟨_, .mk (4) 0 fun _ => .nil, 1, 0, rfl, ⟨⟨0, _, rfl, .inl ⟨rfl, rfl, rfl⟩⟩, by omega⟩, TyIn.leaf (by omega), Uq, Sq⟩
  | succ dn ih =>
    intro w0 w sb m c p f H hdn
    have hsb : sb < w.heap.size := by obtain ⟨t, _, k⟩ := H.src; exact k.lt
    have hw0 : w0.heap.size ≤ w.heap.size := H.g.size
    have KN := fun W (h : SR w0 W sb p m c f) => hide (N_any w0 W sb m c p f 5 h (by omega) (by omega))
    have HS := hide H
    clear H
    have KT := fun W (h : SR w0 W sb p m c f) => hide (ih w0 W sb m c p f h (by omega))
    have wd : IntKind.i64.wrap (((dn + 1 : Nat) : Int) - 1) = (dn : Int) := by rw [IntKind.wrap_i64]; omega
    have wd' : IntKind.i64.wrap ((dn : Int) + 1 - 1) = (dn : Int) := by rw [IntKind.wrap_i64]; omega
    have hdz : (0 : Int) < ((dn + 1 : Nat) : Int) := by omega
    have hdz' : (0 : Int) < (dn : Int) + 1 := by omega
    clear ih
    go_enter Tryd.func25, Tryd.ntmps25
    go_wp2_with fail
    refine name_calls fun w1 h1 => ?_
    have G1 : Grew w w1 := by rw [h1]; exact (Grew.refl _).alloc _
    have B1 : Blk w1 w.heap.size 28 [.int .i64 0, .slice none 0 0] := by rw [h1]; exact Blk.new rfl
    clear h1
    refine ((KN w1 (HS.out.grew G1)).out).mono ?_
    rintro e w2 ⟨x, rfl, hx, U, S⟩
    have U2 := hide ((Upd.of_grew (b := sb) G1).trans U)
    have B2 := B1.upd U (by omega)
    have S2 := hide S
    have z2 : w.heap.size + 1 ≤ w2.heap.size := B2.lt
    clear KN HS U S G1 B1
    have a0 := B2.cell 0 rfl
    have af0 := B2.free 0
    have a1 := B2.cell 1 rfl
    have af1 := B2.free 1
    have alt := B2.lt
    by_cases h3 : x < 3
    · have wx : IntKind.i64.wrap (x + 1) = x + 1 := wr (by omega) (by omega)
      go_wp2
      refine name_bp fun wq hq => ?_
      have Bq : Blk wq w.heap.size 28 [.int .i64 (x + 1), .slice none 0 0] := by
        rw [hq]
        repeat (with_reducible refine Blk.alloc ?_ _)
        exact (B2.set' 0 _ rfl).set' 1 _ rfl
      have Uq : Upd sb w wq := by
        rw [hq]
        repeat' (first | (with_reducible exact U2.out) | (with_reducible refine Upd.alloc ?_ _) | (with_reducible refine Upd.setOwn ?_ _ ?_) | (dsimp only; omega))
      have Sq : SR w0 wq sb p m c f := by
        rw [hq]
        repeat' (first | (with_reducible exact S2.out) | (with_reducible refine SR.alloc ?_ _) | (with_reducible refine SR.set ?_ ?_ ?_ _ _) | omega)
      have q0 := Bq.cell 0 rfl
      have q1 := Bq.cell 1 rfl
      exact bodyPost_ret (v := tyV (x + 1) none 0 0) (by simp [results, Tryd.results25, go_sem, q0, q1]) rfl ⟨_, .mk (x + 1) 0 fun _ => .nil, 0, x + 1, rfl, ⟨⟨_, rfl, by omega⟩, by omega⟩, TyIn.leaf (by omega), Uq, Sq⟩
    · by_cases h4 : x = 4
      · subst h4
        go_wp2_with fail
        refine name_calls fun w3 h3' => ?_
        have G3 : Grew w2 w3 := by rw [h3']; exact (Grew.refl _).alloc _
        have B3 : Blk w3 w.heap.size 28 [.int .i64 0, .slice none 0 0] := by rw [h3']; exact B2.alloc _
        have C3 : Blk w3 w2.heap.size 28 [.int .i64 4, .slice none 0 0] := by rw [h3']; exact Blk.new rfl
        clear h3'
        refine ((KT w3 (S2.out.grew G3)).out).mono ?_
        rintro e w4 ⟨v, t, l, b, rfl, ⟨hc, hl⟩, T, U, S⟩
        obtain ⟨k1, m1, f1, p1, c1, ht, rfl⟩ := T.root
        have z3 : w2.heap.size + 1 ≤ w3.heap.size := C3.lt
        have z4 := U.size
        have B4 := B3.upd U (by omega)
        have C4 := C3.upd U (by omega)
        have U4 := hide ((U2.out.trans (Upd.of_grew G3)).trans U)
        have S4 := hide S
        have T4 := hide T
        clear KT U S G3 B3 C3 B2 U2 S2 T ht a0 a1 af0 af1 alt
        have a0 := B4.cell 0 rfl
        have af0 := B4.free 0
        have a1 := B4.cell 1 rfl
        have af1 := B4.free 1
        have alt := B4.lt
        have d0 := C4.cell 0 rfl
        have df0 := C4.free 0
        have d1 := C4.cell 1 rfl
        have df1 := C4.free 1
        have dlt := C4.lt
        go_wp2
        refine name_bp fun wq hq => ?_
        have Nq : Blk wq w4.heap.size 28 [.int .i64 k1, .slice p1 m1 c1] := by
          rw [hq]
          exact Blk.new (by simp)
        have Bq : Blk wq w.heap.size 28 [.int .i64 4, .slice (some ⟨w4.heap.size, 0, none⟩) 1 1] := by
          rw [hq]
          repeat (with_reducible refine Blk.alloc ?_ _)
          exact ((B4.other (by omega) _).set' 0 _ rfl).set' 1 _ rfl
        have Uq : Upd sb w wq := by
          rw [hq]
          repeat' (first | (with_reducible exact U4.out) | (with_reducible refine Upd.alloc ?_ _) | (with_reducible refine Upd.setOwn ?_ _ ?_) | (dsimp only; omega))
        have Sq : SR w0 wq sb p m c f := by
          rw [hq]
          repeat' (first | (with_reducible exact S4.out) | (with_reducible refine SR.alloc ?_ _) | (with_reducible refine SR.set ?_ ?_ ?_ _ _) | omega)
        have Kq : Kept (fun x => w3.heap.size ≤ x) w4 wq := by
          rw [hq]
          repeat' (first | (with_reducible exact Kept.refl _ _) | (with_reducible refine Kept.alloc ?_ _) | (refine Kept.set ?_ (.inl (by omega)) _ _))
        have q0 := Bq.cell 0 rfl
        have q1 := Bq.cell 1 rfl
        exact bodyPost_ret (v := tyV 4 (some ⟨w4.heap.size, 0, none⟩) 1 1) (by simp [results, Tryd.results25, go_sem, q0, q1]) rfl ⟨_, .mk 4 1 fun _ => t, l + 1, b, rfl, ⟨⟨1, _, rfl, .inr ⟨rfl, hc⟩⟩, by omega⟩,
          ⟨by omega, _, _, rfl, by omega, fun _ => ⟨_, _, rfl, Nq.lt, by omega, fun j hj => by
            obtain rfl : j = 0 := by omega
            exact ⟨_, _, Nq.cell 0 rfl, Nq.cell 1 rfl, TyIn.weak (fun x (hx : w3.heap.size ≤ x) => by show w.heap.size ≤ x; omega) (TyIn.kept Kq T4.out)⟩⟩⟩, Uq, Sq⟩
      · have h4f : (x == 4) = false := by simpa using h4
        go_wp2
        refine name_bp fun wq hq => ?_
        have Bq : Blk wq w.heap.size 28 [.int .i64 (4), .slice none 0 0] := by
          rw [hq]
          repeat (with_reducible refine Blk.alloc ?_ _)
          exact (B2.set' 0 _ rfl).set' 1 _ rfl
        have Uq : Upd sb w wq := by
          rw [hq]
          repeat' (first | (with_reducible exact U2.out) | (with_reducible refine Upd.alloc ?_ _) | (with_reducible refine Upd.setOwn ?_ _ ?_) | (dsimp only; omega))
        have Sq : SR w0 wq sb p m c f := by
          rw [hq]
          repeat' (first | (with_reducible exact S2.out) | (with_reducible refine SR.alloc ?_ _) | (with_reducible refine SR.set ?_ ?_ ?_ _ _) | omega)
        have q0 := Bq.cell 0 rfl
        have q1 := Bq.cell 1 rfl
        exact bodyPost_ret (v := tyV (4) none 0 0) (by simp [results, Tryd.results25, go_sem, q0, q1]) rfl ⟨_, .mk (4) 0 fun _ => .nil, 1, 0, rfl, ⟨⟨0, _, rfl, .inl ⟨rfl, rfl, rfl⟩⟩, by omega⟩, TyIn.leaf (by omega), Uq, Sq⟩
end Go.Proofs.YtnhhmndnmkkhlaaDoor
