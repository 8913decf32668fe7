/- Join and the reference's Join, at every two types. -/
import Derived.Test.YtnhhmndnmkkhlaaDoorExTi
import Derived.Test.YtnhhmndnmkkhlaaDoorExTd
import Derived.Test.YtnhhmndnmkkhlaaDoorExTe
namespace Go.Proofs.YtnhhmndnmkkhlaaDoor
open Go.RowKit Go.Sort
set_option linter.unusedVariables false
set_option linter.unusedSimpArgs false
set_option maxRecDepth 20000

theorem fl_bd (a : Ty) (h : (flT a 0).2.2 = true) : ∃ (l : Nat) (b : Int), flT a 0 = ((l : Int), b, true) ∧ l ≤ 16 ∧ (0 ≤ b ∧ b ≤ 3) := by
  obtain ⟨l, k, hc, hl⟩ := va_ch a 1 (by rw [← va_fl a 0]; exact h)
  have hl16 : l ≤ 16 := by rcases Nat.eq_zero_or_pos l with h0 | h0; omega; have := hl h0; omega
  have e := hc.fl (n := 0) (by omega)
  rw [Nat.zero_add] at e
  exact ⟨l, k, e, hl16, by rcases hc.bs with h | h <;> omega⟩
set_option maxHeartbeats 4000000 in
theorem Join_any (a b : Ty) (va vb : Value) (w : World) (Q Q' : Nat → Prop) (ha : TyIn w Q a va) (hb : TyIn w Q' b vb) :
    Calls Tryd.prog 26 #[va, vb] w fun e w' => ∃ v, e = .returned (.tuple #[v, .bool (jT a b).2]) ∧ TyIn w' AnyB (jT a b).1 v ∧ Grew w w' := by
  obtain ⟨k1, m1, f1, p1, c1, -, rfl⟩ := ha.root
  obtain ⟨k2, m2, f2, p2, c2, -, rfl⟩ := hb.root
  have KA := fun W (g : Grew w W) => hide (flatten_any a _ W Q (ha.grew g))
  have KB := fun W (g : Grew w W) => hide (flatten_any b _ W Q' (hb.grew g))
  obtain ⟨J, hJ⟩ : ∃ J, J = jT a b := ⟨_, rfl⟩
  rw [← hJ]
  unfold jT at hJ
  have fa := fl_bd a
  have fb := fl_bd b
  generalize flT a 0 = A at *
  generalize flT b 0 = B at *
  obtain ⟨la, ka, oa⟩ := A
  obtain ⟨lb, kb, ob⟩ := B
  dsimp only at fa fb hJ
  replace fa := hide fa
  replace fb := hide fb
  replace hJ := hide hJ
  clear ha hb
  go_enter Tryd.func26, Tryd.ntmps26
  go_wp2_with fail
  refine name_calls fun w1 h1 => ?_
  have G1 : Grew w w1 := by
    rw [h1]
    repeat' (first | (with_reducible exact Grew.refl _) | (with_reducible refine Grew.setCell ?_ ?_ _) | (with_reducible refine Grew.drewN ?_ _) | (with_reducible refine Grew.reD ?_ _) | (with_reducible refine Grew.alloc ?_ _) | (dsimp only; omega))
  have B1_0 : Blk w1 w.heap.size 28 [.int .i64 k1, .slice p1 m1 c1] := by (rw [h1]; repeat' (first | (with_reducible assumption) | ((with_reducible refine Blk.new ?_); (first | (with_reducible rfl) | (simp only [World.size_alloc, World.size_setCell, size_drewN]; done))) | (with_reducible refine Blk.alloc ?_ _) | (with_reducible refine Blk.drewN ?_ _) | (with_reducible refine Blk.drew ?_) | (refine Blk.other ?_ (by omega) _) | fail))
  have B1_1 : Blk w1 (w.heap.size + 1) 28 [.int .i64 k2, .slice p2 m2 c2] := by (rw [h1]; repeat' (first | (with_reducible assumption) | ((with_reducible refine Blk.new ?_); (first | (with_reducible rfl) | (simp only [World.size_alloc, World.size_setCell, size_drewN]; done))) | (with_reducible refine Blk.alloc ?_ _) | (with_reducible refine Blk.drewN ?_ _) | (with_reducible refine Blk.drew ?_) | (refine Blk.other ?_ (by omega) _) | fail))
  have B1_2 : Blk w1 (w.heap.size + 1 + 1) 28 [.int .i64 0, .slice none 0 0] := by (rw [h1]; repeat' (first | (with_reducible assumption) | ((with_reducible refine Blk.new ?_); (first | (with_reducible rfl) | (simp only [World.size_alloc, World.size_setCell, size_drewN]; done))) | (with_reducible refine Blk.alloc ?_ _) | (with_reducible refine Blk.drewN ?_ _) | (with_reducible refine Blk.drew ?_) | (refine Blk.other ?_ (by omega) _) | fail))
  clear h1
  refine ((KA w1 G1).out).mono ?_
  rintro e w2 ⟨rfl, g2⟩
  have G2 := G1.trans g2
  have B2_1 := B1_1.grew g2
  have B2_2 := B1_2.grew g2
  clear KA G1 g2 B1_0 B1_1 B1_2
  have d0 := B2_1.cell 0 rfl
  have fr0 := B2_1.free 0
  have d1 := B2_1.cell 1 rfl
  have fr1 := B2_1.free 1
  have dlt := B2_1.lt
  go_wp2_with fail
  refine name_calls fun w3 h3 => ?_
  have g3 : Grew w2 w3 := by
    rw [h3]
    repeat' (first | (with_reducible exact Grew.refl _) | (with_reducible refine Grew.setCell ?_ ?_ _) | (with_reducible refine Grew.drewN ?_ _) | (with_reducible refine Grew.reD ?_ _) | (with_reducible refine Grew.alloc ?_ _) | (dsimp only; omega))
  have B3_2 := B2_2.grew g3
  have B3_3 : Blk w3 w2.heap.size 65 [.int .i64 la, .int .i64 ka] := by (rw [h3]; repeat' (first | (with_reducible assumption) | ((with_reducible refine Blk.new ?_); (first | (with_reducible rfl) | (simp only [World.size_alloc, World.size_setCell, size_drewN]; done))) | (with_reducible refine Blk.alloc ?_ _) | (with_reducible refine Blk.drewN ?_ _) | (with_reducible refine Blk.drew ?_) | (refine Blk.other ?_ (by omega) _) | fail))
  have G3 := G2.trans g3
  clear h3 g3 G2 B2_1 B2_2 d0 d1 fr0 fr1 dlt
  refine ((KB w3 G3).out).mono ?_
  rintro e w4 ⟨rfl, g4⟩
  have G4 := G3.trans g4
  have B4_2 := B3_2.grew g4
  have B4_3 := B3_3.grew g4
  clear KB G3 g4 B3_2 B3_3
  have d0 := B4_2.cell 0 rfl
  have fr0 := B4_2.free 0
  have d1 := B4_2.cell 1 rfl
  have fr1 := B4_2.free 1
  have dlt := B4_2.lt
  have x0 := B4_3.cell 0 rfl
  have xf0 := B4_3.free 0
  have x1 := B4_3.cell 1 rfl
  have xf1 := B4_3.free 1
  have xlt := B4_3.lt
  cases oa with
  | false =>
    have hj : J = (zT, false) := by rw [hJ.out, if_neg (by simp)]
    subst hj
    go_wp2
    refine name_bp fun wq hq => ?_
    have Gq : Grew w wq := by
      rw [hq]
      repeat' (first | (with_reducible exact G4) | (with_reducible refine Grew.setCell ?_ ?_ _) | (with_reducible refine Grew.alloc ?_ _) | (dsimp only; omega))
    have Bq : Blk wq (w.heap.size + 1 + 1) 28 [.int .i64 0, .slice none 0 0] := by
      rw [hq]
      repeat (with_reducible refine Blk.alloc ?_ _)
      exact (B4_2.set' 0 _ rfl).set' 1 _ rfl
    have q0 := Bq.cell 0 rfl
    have q1 := Bq.cell 1 rfl
    exact bodyPost_ret (v := .tuple #[tyV 0 none 0 0, .bool false]) (by simp [results, Tryd.results26, go_sem, q0, q1]) rfl ⟨_, rfl, TyIn.leaf (by omega), Gq⟩
  | true =>
    cases ob with
    | false =>
      have hj : J = (zT, false) := by rw [hJ.out, if_neg (by simp)]
      subst hj
      go_wp2
      refine name_bp fun wq hq => ?_
      have Gq : Grew w wq := by
        rw [hq]
        repeat' (first | (with_reducible exact G4) | (with_reducible refine Grew.setCell ?_ ?_ _) | (with_reducible refine Grew.alloc ?_ _) | (dsimp only; omega))
      have Bq : Blk wq (w.heap.size + 1 + 1) 28 [.int .i64 0, .slice none 0 0] := by
        rw [hq]
        repeat (with_reducible refine Blk.alloc ?_ _)
        exact (B4_2.set' 0 _ rfl).set' 1 _ rfl
      have q0 := Bq.cell 0 rfl
      have q1 := Bq.cell 1 rfl
      exact bodyPost_ret (v := .tuple #[tyV 0 none 0 0, .bool false]) (by simp [results, Tryd.results26, go_sem, q0, q1]) rfl ⟨_, rfl, TyIn.leaf (by omega), Gq⟩
    | true =>
      have hj : J = (NT (jnR la ka lb kb).2.1 (jnR la ka lb kb).1.toNat, (jnR la ka lb kb).2.2) := by rw [hJ.out, if_pos (by simp)]
      have KC := fun W => hide (join_any la ka lb kb W)
      have hr : ∃ n : Nat, (jnR la ka lb kb).1 = (n : Int) ∧ n ≤ 16 ∧ (0 ≤ (jnR la ka lb kb).2.1 ∧ (jnR la ka lb kb).2.1 ≤ 3) := by
        obtain ⟨l, x, e1, h1, h2⟩ := fa.out rfl
        obtain ⟨l', x', e2, h3, h4⟩ := fb.out rfl
        simp only [Prod.mk.injEq, and_true] at e1 e2
        obtain ⟨rfl, rfl⟩ := e1
        obtain ⟨rfl, rfl⟩ := e2
        by_cases ho : (jnR (l : Int) ka (l' : Int) kb).2.2 = true
        · rcases jn_ok ho with ⟨h5, h6⟩ | ⟨h5, h6⟩
          · exact ⟨l', h5, h3, by omega⟩
          · exact ⟨l, h5, h1, by omega⟩
        · rw [jn_no (by simpa using ho)]
          exact ⟨0, rfl, by omega, by simp⟩
      generalize jnR la ka lb kb = r at *
      obtain ⟨r1, r2, r3⟩ := r
      dsimp only at hj KC hr
      obtain ⟨n, rfl, hn, hr2⟩ := hr
      rw [Int.toNat_natCast] at hj
      subst hj
      have KD := fun W => hide (nested_any n r2 W (by omega) (by omega))
      clear hJ fa fb
      go_wp2_with fail
      refine name_calls fun w5 h5 => ?_
      have g5 : Grew w4 w5 := by
        rw [h5]
        repeat' (first | (with_reducible exact Grew.refl _) | (with_reducible refine Grew.setCell ?_ ?_ _) | (with_reducible refine Grew.drewN ?_ _) | (with_reducible refine Grew.reD ?_ _) | (with_reducible refine Grew.alloc ?_ _) | (dsimp only; omega))
      have B5_2 := B4_2.grew g5
      have G5 := G4.trans g5
      clear h5 g5 G4 B4_2 B4_3 d0 d1 fr0 fr1 dlt x0 x1 xf0 xf1 xlt
      refine ((KC w5).out).mono ?_
      rintro e w6 ⟨rfl, g6⟩
      have G6 := G5.trans g6
      have B6_2 := B5_2.grew g6
      clear KC G5 g6 B5_2
      go_wp2_with fail
      refine name_calls fun w7 h7 => ?_
      have g7 : Grew w6 w7 := by
        rw [h7]
        repeat' (first | (with_reducible exact Grew.refl _) | (with_reducible refine Grew.setCell ?_ ?_ _) | (with_reducible refine Grew.drewN ?_ _) | (with_reducible refine Grew.reD ?_ _) | (with_reducible refine Grew.alloc ?_ _) | (dsimp only; omega))
      have B7_2 := B6_2.grew g7
      have G7 := G6.trans g7
      clear h7 g7 G6 B6_2
      refine ((KD w7).out).mono ?_
      rintro e w8 ⟨v, rfl, T, g8⟩
      obtain ⟨k8, m8, f8, p8, c8, -, rfl⟩ := T.root
      have G8 := G7.trans g8
      have B8_2 := B7_2.grew g8
      have z7 := B7_2.lt
      clear KD G7 g8 B7_2
      have d0 := B8_2.cell 0 rfl
      have fr0 := B8_2.free 0
      have d1 := B8_2.cell 1 rfl
      have fr1 := B8_2.free 1
      have dlt := B8_2.lt
      go_wp2
      refine name_bp fun wq hq => ?_
      have Gq : Grew w wq := by
        rw [hq]
        repeat' (first | (with_reducible exact G8) | (with_reducible refine Grew.setCell ?_ ?_ _) | (with_reducible refine Grew.alloc ?_ _) | (dsimp only; omega))
      have Bq : Blk wq (w.heap.size + 1 + 1) 28 [.int .i64 k8, .slice p8 m8 c8] := by
        rw [hq]
        repeat (with_reducible refine Blk.alloc ?_ _)
        exact (B8_2.set' 0 _ rfl).set' 1 _ rfl
      have Kq : Kept (fun x => w7.heap.size + 1 + 1 + 1 ≤ x) w8 wq := by
        rw [hq]
        repeat' (first | (with_reducible exact Kept.refl _ _) | (with_reducible refine Kept.alloc ?_ _) | (refine Kept.set ?_ (.inl (by omega)) _ _))
      have q0 := Bq.cell 0 rfl
      have q1 := Bq.cell 1 rfl
      exact bodyPost_ret (v := .tuple #[tyV k8 p8 m8 c8, .bool r3]) (by simp [results, Tryd.results26, go_sem, q0, q1]) rfl ⟨_, rfl, TyIn.weak (fun _ _ => trivial) (TyIn.kept Kq T), Gq⟩

set_option maxHeartbeats 4000000 in
theorem rJoin_any (a b : Ty) (va vb : Value) (w : World) (Q Q' : Nat → Prop) (ha : TyIn w Q a va) (hb : TyIn w Q' b vb) :
    Calls Tryd.prog 27 #[va, vb] w fun e w' => ∃ v, e = .returned (.tuple #[v, .bool (rjT a b).2]) ∧ TyIn w' AnyB (rjT a b).1 v ∧ Grew w w' := by
  obtain ⟨k1, m1, f1, p1, c1, -, rfl⟩ := ha.root
  obtain ⟨k2, m2, f2, p2, c2, -, rfl⟩ := hb.root
  have KA := fun W (g : Grew w W) => hide (ValidType_any a _ W Q (ha.grew g))
  have KB := fun W (g : Grew w W) => hide (ValidType_any b _ W Q' (hb.grew g))
  have na := va_nz a 1
  have nb := va_nz b 1
  have KC := fun W (g : Grew w W) (h : NzC a) (h' : NzC b) => hide (rjoin_any a b _ _ W Q Q' (ha.grew g) (hb.grew g) h h')
  obtain ⟨J, hJ⟩ : ∃ J, J = rjT a b := ⟨_, rfl⟩
  rw [← hJ]
  unfold rjT at hJ
  generalize vaT a 1 = oa at *
  generalize vaT b 1 = ob at *
  replace na := hide na
  replace nb := hide nb
  replace hJ := hide hJ
  clear ha hb
  go_enter Tryd.func27, Tryd.ntmps27
  go_wp2_with fail
  refine name_calls fun w1 h1 => ?_
  have G1 : Grew w w1 := by
    rw [h1]
    repeat' (first | (with_reducible exact Grew.refl _) | (with_reducible refine Grew.setCell ?_ ?_ _) | (with_reducible refine Grew.drewN ?_ _) | (with_reducible refine Grew.reD ?_ _) | (with_reducible refine Grew.alloc ?_ _) | (dsimp only; omega))
  have B1_0 : Blk w1 w.heap.size 28 [.int .i64 k1, .slice p1 m1 c1] := by (rw [h1]; repeat' (first | (with_reducible assumption) | ((with_reducible refine Blk.new ?_); (first | (with_reducible rfl) | (simp only [World.size_alloc, World.size_setCell, size_drewN]; done))) | (with_reducible refine Blk.alloc ?_ _) | (with_reducible refine Blk.drewN ?_ _) | (with_reducible refine Blk.drew ?_) | (refine Blk.other ?_ (by omega) _) | fail))
  have B1_1 : Blk w1 (w.heap.size + 1) 28 [.int .i64 k2, .slice p2 m2 c2] := by (rw [h1]; repeat' (first | (with_reducible assumption) | ((with_reducible refine Blk.new ?_); (first | (with_reducible rfl) | (simp only [World.size_alloc, World.size_setCell, size_drewN]; done))) | (with_reducible refine Blk.alloc ?_ _) | (with_reducible refine Blk.drewN ?_ _) | (with_reducible refine Blk.drew ?_) | (refine Blk.other ?_ (by omega) _) | fail))
  have B1_2 : Blk w1 (w.heap.size + 1 + 1) 28 [.int .i64 0, .slice none 0 0] := by (rw [h1]; repeat' (first | (with_reducible assumption) | ((with_reducible refine Blk.new ?_); (first | (with_reducible rfl) | (simp only [World.size_alloc, World.size_setCell, size_drewN]; done))) | (with_reducible refine Blk.alloc ?_ _) | (with_reducible refine Blk.drewN ?_ _) | (with_reducible refine Blk.drew ?_) | (refine Blk.other ?_ (by omega) _) | fail))
  clear h1
  refine ((KA w1 G1).out).mono ?_
  rintro e w2 ⟨rfl, g2⟩
  have G2 := G1.trans g2
  have B2_0 := B1_0.grew g2
  have B2_1 := B1_1.grew g2
  have B2_2 := B1_2.grew g2
  clear KA G1 g2 B1_0 B1_1 B1_2
  have d0 := B2_2.cell 0 rfl
  have fr0 := B2_2.free 0
  have d1 := B2_2.cell 1 rfl
  have fr1 := B2_2.free 1
  have dlt := B2_2.lt
  have x0 := B2_0.cell 0 rfl
  have xf0 := B2_0.free 0
  have x1 := B2_0.cell 1 rfl
  have xf1 := B2_0.free 1
  have xlt := B2_0.lt
  have y0 := B2_1.cell 0 rfl
  have yf0 := B2_1.free 0
  have y1 := B2_1.cell 1 rfl
  have yf1 := B2_1.free 1
  have ylt := B2_1.lt
  cases oa with
  | false =>
    have hj : J = (zT, false) := by rw [hJ.out, if_neg (by simp)]
    subst hj
    go_wp2
    refine name_bp fun wq hq => ?_
    have Gq : Grew w wq := by
      rw [hq]
      repeat' (first | (with_reducible exact G2) | (with_reducible refine Grew.setCell ?_ ?_ _) | (with_reducible refine Grew.alloc ?_ _) | (dsimp only; omega))
    have Bq : Blk wq (w.heap.size + 1 + 1) 28 [.int .i64 0, .slice none 0 0] := by
      rw [hq]
      repeat (with_reducible refine Blk.alloc ?_ _)
      exact (B2_2.set' 0 _ rfl).set' 1 _ rfl
    have q0 := Bq.cell 0 rfl
    have q1 := Bq.cell 1 rfl
    exact bodyPost_ret (v := .tuple #[tyV 0 none 0 0, .bool false]) (by simp [results, Tryd.results27, go_sem, q0, q1]) rfl ⟨_, rfl, TyIn.leaf (by omega), Gq⟩
  | true =>
    go_wp2_with fail
    refine name_calls fun w3 h3 => ?_
    have g3 : Grew w2 w3 := by
      rw [h3]
      repeat' (first | (with_reducible exact Grew.refl _) | (with_reducible refine Grew.setCell ?_ ?_ _) | (with_reducible refine Grew.drewN ?_ _) | (with_reducible refine Grew.reD ?_ _) | (with_reducible refine Grew.alloc ?_ _) | (dsimp only; omega))
    have B3_0 := B2_0.grew g3
    have B3_1 := B2_1.grew g3
    have B3_2 := B2_2.grew g3
    have G3 := G2.trans g3
    clear h3 g3 G2 B2_0 B2_1 B2_2 x0 x1 xf0 xf1 xlt y0 y1 yf0 yf1 ylt d0 d1 fr0 fr1 dlt
    refine ((KB w3 G3).out).mono ?_
    rintro e w4 ⟨rfl, g4⟩
    have G4 := G3.trans g4
    have B4_0 := B3_0.grew g4
    have B4_1 := B3_1.grew g4
    have B4_2 := B3_2.grew g4
    clear KB G3 g4 B3_0 B3_1 B3_2
    have d0 := B4_2.cell 0 rfl
    have fr0 := B4_2.free 0
    have d1 := B4_2.cell 1 rfl
    have fr1 := B4_2.free 1
    have dlt := B4_2.lt
    have x0 := B4_0.cell 0 rfl
    have xf0 := B4_0.free 0
    have x1 := B4_0.cell 1 rfl
    have xf1 := B4_0.free 1
    have xlt := B4_0.lt
    have y0 := B4_1.cell 0 rfl
    have yf0 := B4_1.free 0
    have y1 := B4_1.cell 1 rfl
    have yf1 := B4_1.free 1
    have ylt := B4_1.lt
    cases ob with
    | false =>
      have hj : J = (zT, false) := by rw [hJ.out, if_neg (by simp)]
      subst hj
      go_wp2
      refine name_bp fun wq hq => ?_
      have Gq : Grew w wq := by
        rw [hq]
        repeat' (first | (with_reducible exact G4) | (with_reducible refine Grew.setCell ?_ ?_ _) | (with_reducible refine Grew.alloc ?_ _) | (dsimp only; omega))
      have Bq : Blk wq (w.heap.size + 1 + 1) 28 [.int .i64 0, .slice none 0 0] := by
        rw [hq]
        repeat (with_reducible refine Blk.alloc ?_ _)
        exact (B4_2.set' 0 _ rfl).set' 1 _ rfl
      have q0 := Bq.cell 0 rfl
      have q1 := Bq.cell 1 rfl
      exact bodyPost_ret (v := .tuple #[tyV 0 none 0 0, .bool false]) (by simp [results, Tryd.results27, go_sem, q0, q1]) rfl ⟨_, rfl, TyIn.leaf (by omega), Gq⟩
    | true =>
      have hj : J = reT a b := by rw [hJ.out, if_pos (by simp)]
      subst hj
      have n1 := (na.out (by trivial)).2
      have n2 := (nb.out (by trivial)).2
      have nr := hide (re_nz a b n1 n2)
      have KD := fun W (g : Grew w W) => KC W g n1 n2
      clear hJ na nb KC n1 n2
      go_wp2_with fail
      refine name_calls fun w5 h5 => ?_
      have g5 : Grew w4 w5 := by
        rw [h5]
        repeat' (first | (with_reducible exact Grew.refl _) | (with_reducible refine Grew.setCell ?_ ?_ _) | (with_reducible refine Grew.drewN ?_ _) | (with_reducible refine Grew.reD ?_ _) | (with_reducible refine Grew.alloc ?_ _) | (dsimp only; omega))
      have B5_2 := B4_2.grew g5
      have G5 := G4.trans g5
      clear h5 g5 G4 B4_0 B4_1 B4_2 x0 x1 xf0 xf1 xlt y0 y1 yf0 yf1 ylt d0 d1 fr0 fr1 dlt
      refine ((KD w5 G5).out).mono ?_
      rintro e w6 ⟨v, rfl, T, g6⟩
      obtain ⟨k8, m8, f8, p8, c8, -, rfl⟩ := T.root
      have G6 := G5.trans g6
      have B6_2 := B5_2.grew g6
      have T6 := TyIn.apart B6_2 nr.out T
      clear KD G5 g6 B5_2 T
      have d0 := B6_2.cell 0 rfl
      have fr0 := B6_2.free 0
      have d1 := B6_2.cell 1 rfl
      have fr1 := B6_2.free 1
      have dlt := B6_2.lt
      go_wp2
      refine name_bp fun wq hq => ?_
      have Gq : Grew w wq := by
        rw [hq]
        repeat' (first | (with_reducible exact G6) | (with_reducible refine Grew.setCell ?_ ?_ _) | (with_reducible refine Grew.alloc ?_ _) | (dsimp only; omega))
      have Bq : Blk wq (w.heap.size + 1 + 1) 28 [.int .i64 k8, .slice p8 m8 c8] := by
        rw [hq]
        exact (B6_2.set' 0 _ rfl).set' 1 _ rfl
      have Kq : Kept (fun x => AnyB x ∧ x ≠ w.heap.size + 1 + 1) w6 wq := by
        rw [hq]
        repeat' (first | (with_reducible exact Kept.refl _ _) | (refine Kept.set ?_ (.inl (by simp)) _ _))
      have q0 := Bq.cell 0 rfl
      have q1 := Bq.cell 1 rfl
      exact bodyPost_ret (v := .tuple #[tyV k8 p8 m8 c8, .bool (reT a b).2]) (by simp [results, Tryd.results27, go_sem, q0, q1]) rfl ⟨_, rfl, TyIn.weak (fun _ _ => trivial) (TyIn.kept Kq T6), Gq⟩
end Go.Proofs.YtnhhmndnmkkhlaaDoor
