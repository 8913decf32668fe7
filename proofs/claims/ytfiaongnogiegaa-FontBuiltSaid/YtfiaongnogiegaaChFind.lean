/- What the program's search in a part of its table returns, for every list of rows and every rune; no condition. -/
import Derived.Test.YtfiaongnogiegaaChChain
import Derived.Deep.LoopGhost
import Derived.Deep.Cut
namespace Go.Proofs.Ytfiaongnogiegaa
open Go.RowKit Go.Sort
set_option linter.unusedSimpArgs false
set_option linter.unusedVariables false

/-- A row of the program's table. -/
structure Rw where
  (f z b w l d j : Int)
deriving DecidableEq
abbrev Rw.zero : Rw := ⟨0, 0, 0, 0, 0, 0, 0⟩
abbrev Rw.vs (c : Rw) : List Value := [.int .i32 c.f, .int .i32 c.z, .int .u8 c.b, .int .u8 c.w, .int .u8 c.l, .int .u8 c.d, .int .u8 c.j]
abbrev Rw.v (c : Rw) : Value := .agg #[.int .i32 c.f, .int .i32 c.z, .int .u8 c.b, .int .u8 c.w, .int .u8 c.l, .int .u8 c.d, .int .u8 c.j]
def cellsOfRows (rows : List Rw) : List Value := rows.flatMap Rw.vs
theorem cells_at : ∀ (rows : List Rw) (k j : Nat) (h : k < rows.length), j < 7 → (cellsOfRows rows)[k * 7 + j]? = rows[k].vs[j]?
  | x :: rows, 0, j, h, hj => by
    simp only [cellsOfRows, List.flatMap_cons, List.getElem_cons_zero, Nat.zero_mul, Nat.zero_add]
    rw [List.getElem?_append_left (by simpa using hj)]
  | x :: rows, k + 1, j, h, hj => by
    simp only [cellsOfRows, List.flatMap_cons, List.getElem_cons_succ]
    rw [List.getElem?_append_right (by simp; omega)]
    have := cells_at rows k j (by simpa using h) hj
    unfold cellsOfRows at this
    rw [← this]
    congr 1
    simp
    omega
/-- The search. -/
def findR : List Rw → Int → Rw
  | [], _ => Rw.zero
  | x :: l, r => if r ≤ x.z then (if x.f ≤ r then x else Rw.zero) else findR l r
theorem findR_drop (rows : List Rw) (r : Int) : ∀ k, k < rows.length → (∀ i, i < k → ∀ h : i < rows.length, ¬ r ≤ rows[i].z) → findR rows r = findR (rows.drop k) r
  | 0, _, _ => rfl
  | k + 1, hk, h => by
    rw [findR_drop rows r k (by omega) (fun i hi hl => h i (by omega) hl)]
    rw [List.drop_eq_getElem_cons (by omega)]
    simp only [findR]
    rw [if_neg (h k (by omega) (by omega))]
theorem findR_at (rows : List Rw) (r : Int) (k : Nat) (hk : k < rows.length) (h : ∀ i, i < k → ∀ h : i < rows.length, ¬ r ≤ rows[i].z) : findR rows r = if r ≤ rows[k].z then (if rows[k].f ≤ r then rows[k] else Rw.zero) else findR (rows.drop (k + 1)) r := by
  rw [findR_drop rows r k hk h, List.drop_eq_getElem_cons hk]; rfl
theorem findR_none (rows : List Rw) (r : Int) (h : ∀ i, ∀ h : i < rows.length, ¬ r ≤ rows[i].z) : findR rows r = Rw.zero := by
  induction rows with
  | nil => rfl
  | cons x l ih =>
    simp only [findR]
    have h0 : ¬ r ≤ x.z := h 0 (by simp)
    rw [if_neg h0]
    exact ih fun i hi => h (i + 1) (by simpa using hi)

theorem find_result {b : Nat} {t : Array Value} {W : World} {c : Rw} (ht : t[4]? = some (.pointer (some ⟨b, 0, none⟩))) (hW : Blk W b 77 c.vs) : (results Try.f64 t).run Try.prog W = .ok c.v W := by
  have c0 := hW.cell 0 rfl
  have c1 := hW.cell 1 rfl
  have c2 := hW.cell 2 rfl
  have c3 := hW.cell 3 rfl
  have c4 := hW.cell 4 rfl
  have c5 := hW.cell 5 rfl
  have c6 := hW.cell 6 rfl
  simp [results, Try.results64, go_sem, ht, c0, c1, c2, c3, c4, c5, c6]
theorem Blk.row {W : World} {b : Nat} {T : TypeId} {c : Rw} (h : Blk W b T c.vs) (x : Rw) : Blk (((((((W.setCell ⟨b, 0, none⟩ (.int .i32 x.f)).setCell ⟨b, 1, none⟩ (.int .i32 x.z)).setCell ⟨b, 2, none⟩ (.int .u8 x.b)).setCell ⟨b, 3, none⟩ (.int .u8 x.w)).setCell ⟨b, 4, none⟩ (.int .u8 x.l)).setCell ⟨b, 5, none⟩ (.int .u8 x.d)).setCell ⟨b, 6, none⟩ (.int .u8 x.j)) b T x.vs :=
  ((((((h.set 0 _).set 1 _).set 2 _).set 3 _).set 4 _).set 5 _).set 6 _
theorem Grew.row {w W : World} {b : Nat} (h : Grew w W) (hb : w.heap.size ≤ b) (x : Rw) : Grew w (((((((W.setCell ⟨b, 0, none⟩ (.int .i32 x.f)).setCell ⟨b, 1, none⟩ (.int .i32 x.z)).setCell ⟨b, 2, none⟩ (.int .u8 x.b)).setCell ⟨b, 3, none⟩ (.int .u8 x.w)).setCell ⟨b, 4, none⟩ (.int .u8 x.l)).setCell ⟨b, 5, none⟩ (.int .u8 x.d)).setCell ⟨b, 6, none⟩ (.int .u8 x.j)) :=
  ((((((h.setCell hb _).setCell hb _).setCell hb _).setCell hb _).setCell hb _).setCell hb _).setCell hb _
def Round (rows : List Rw) (r : Int) (b : Nat) (T : TypeId) (w : World) (k : Nat) (wr : World) : Prop :=
  Grew w wr ∧ Blk wr b T (cellsOfRows rows) ∧ Blk wr w.heap.size 77 Rw.zero.vs ∧ ∀ i, i < k → ∀ h : i < rows.length, ¬ r ≤ rows[i].z
set_option maxHeartbeats 1000000 in
theorem find_any (rows : List Rw) (r : Int) (b : Nat) (T : TypeId) (w : World) (hr : -2147483648 ≤ r ∧ r ≤ 2147483647) (hn : rows.length ≤ 1000)
    (hB : Blk w b T (cellsOfRows rows)) (h32 : ∀ x ∈ rows, -2147483648 ≤ x.f ∧ x.f ≤ 2147483647 ∧ -2147483648 ≤ x.z ∧ x.z ≤ 2147483647) :
    Calls Try.prog 64 #[.slice (some ⟨b, 0, none⟩) rows.length rows.length, .int .i32 r] w fun e w' => e = .returned (findR rows r).v ∧ Grew w w' := by
  obtain ⟨n, hnn⟩ : ∃ n, n = rows.length := ⟨_, rfl⟩
  have HN := hide hnn
  rw [← hnn]
  rw [← hnn] at hn
  clear hnn
  obtain ⟨r1, r2⟩ := hr
  have H32 := hide h32
  clear h32
  go_enter Try.func64, Try.ntmps64
  go_wp2
  have R0 : Hid (Round rows r b T w 0 (w.alloc (.cells Rw.zero.vs.toArray 77))) := ⟨(Grew.refl w).alloc _, hB.alloc _, Blk.new rfl, fun i hi => by omega⟩
  clear hB
  generalize w.alloc _ = w1 at R0 ⊢
  go_loopg [9] (n + 1) (fun g v wr => ∃ k : Nat, v = .int .i64 k ∧ k ≤ n ∧ n - k < g ∧ Hid (Round rows r b T w k wr))
  case atStart => exact ⟨0, by go_num, by omega, by omega, R0⟩
  case round =>
    clear R0
    obtain ⟨wo, rfl⟩ : ∃ wo : World, wo = wr := ⟨_, rfl⟩
    obtain ⟨k, rfl, hk, hg, R1⟩ := hrel
    by_cases hlt : k < n
    · have hltz : (k : Int) < (n : Int) := by omega
      have hkl : k < rows.length := by rw [← HN.out]; exact hlt
      obtain ⟨x, hx⟩ : ∃ x, x = rows[k] := ⟨_, rfl⟩
      have X := hide hx
      have c0 := R1.out.2.1.cell (k * 7) (cells_at rows k 0 hkl (by omega))
      have c1 := R1.out.2.1.cell (k * 7 + 1) (cells_at rows k 1 hkl (by omega))
      have c2 := R1.out.2.1.cell (k * 7 + 2) (cells_at rows k 2 hkl (by omega))
      have c3 := R1.out.2.1.cell (k * 7 + 3) (cells_at rows k 3 hkl (by omega))
      have c4 := R1.out.2.1.cell (k * 7 + 4) (cells_at rows k 4 hkl (by omega))
      have c5 := R1.out.2.1.cell (k * 7 + 5) (cells_at rows k 5 hkl (by omega))
      have c6 := R1.out.2.1.cell (k * 7 + 6) (cells_at rows k 6 hkl (by omega))
      obtain ⟨q1, q2, q3, q4⟩ := H32.out rows[k] (List.getElem_mem hkl)
      rw [← hx] at q1 q2 q3 q4
      simp only [← hx] at c0 c1 c2 c3 c4 c5 c6
      have e0 := R1.out.2.2.1.cell 0 rfl
      have e1 := R1.out.2.2.1.cell 1 rfl
      have e2 := R1.out.2.2.1.cell 2 rfl
      have e3 := R1.out.2.2.1.cell 3 rfl
      have e4 := R1.out.2.2.1.cell 4 rfl
      have e5 := R1.out.2.2.1.cell 5 rfl
      have e6 := R1.out.2.2.1.cell 6 rfl
      have f0 := R1.out.2.2.1.free 0
      have f1 := R1.out.2.2.1.free 1
      have f2 := R1.out.2.2.1.free 2
      have f3 := R1.out.2.2.1.free 3
      have f4 := R1.out.2.2.1.free 4
      have f5 := R1.out.2.2.1.free 5
      have f6 := R1.out.2.2.1.free 6
      have zlt := R1.out.2.2.1.lt
      clear hx
      have G1 := hide (R1.out.1.alloc (.cells x.vs.toArray 77))
      have D1 : Blk (wo.alloc (.cells x.vs.toArray 77)) wo.heap.size 77 x.vs := Blk.new rfl
      have E1 := R1.out.2.2.1.alloc (.cells x.vs.toArray 77)
      have B1 := R1.out.2.1.alloc (.cells x.vs.toArray 77)
      have N1 := hide R1.out.2.2.2
      clear R1
      go_upto_region 4 with (fail)
      generalize wo.alloc _ = W1 at G1 D1 E1 B1 ⊢
      have hne : w.heap.size ≠ wo.heap.size := by omega
      generalize wo.heap.size = p at D1 hne zlt ⊢
      clear c0 c1 c2 c3 c4 c5 c6 e0 e1 e2 e3 e4 e5 e6 f0 f1 f2 f3 f4 f5 f6
      have d0 := D1.cell 0 rfl
      have d1 := D1.cell 1 rfl
      have d2 := D1.cell 2 rfl
      have d3 := D1.cell 3 rfl
      have d4 := D1.cell 4 rfl
      have d5 := D1.cell 5 rfl
      have d6 := D1.cell 6 rfl
      have e0 := E1.cell 0 rfl
      have e1 := E1.cell 1 rfl
      have e2 := E1.cell 2 rfl
      have e3 := E1.cell 3 rfl
      have e4 := E1.cell 4 rfl
      have e5 := E1.cell 5 rfl
      have e6 := E1.cell 6 rfl
      have f0 := E1.free 0
      have f1 := E1.free 1
      have f2 := E1.free 2
      have f3 := E1.free 3
      have f4 := E1.free 4
      have f5 := E1.free 5
      have f6 := E1.free 6
      replace B1 := hide B1
      replace D1 := hide D1
      replace E1 := hide E1
      by_cases t1 : r ≤ x.z
      · have u1 : decide (r ≤ x.z) = true := by simpa using t1
        by_cases t2 : x.f ≤ r
        · have u2 : decide (x.f ≤ r) = true := by simpa using t2
          have H : findR rows r = x := by rw [findR_at rows r k hkl N1.out, ← X.out, if_pos t1, if_pos t2]
          replace H := hide H
          clear t1 t2
          go_wp2
          refine bodyPost_ret (R := fun e w' => e = .returned (findR rows r).v ∧ Grew w w') (find_result ?_ (E1.out.row x)) ?_ ⟨by rw [H.out], G1.out.row (Nat.le_refl _) x⟩ <;> rfl
        · have u2 : decide (x.f ≤ r) = false := by simpa using t2
          have H : findR rows r = Rw.zero := by rw [findR_at rows r k hkl N1.out, ← X.out, if_pos t1, if_neg t2]
          replace H := hide H
          clear t1 t2
          go_wp2
          refine bodyPost_ret (R := fun e w' => e = .returned (findR rows r).v ∧ Grew w w') (find_result ?_ (E1.out.row Rw.zero)) ?_ ⟨by rw [H.out], G1.out.row (Nat.le_refl _) Rw.zero⟩ <;> rfl
      · have u1 : decide (r ≤ x.z) = false := by simpa using t1
        have R2 : Hid (Round rows r b T w (k + 1) W1) := ⟨G1.out, B1.out, E1.out, fun i hi hl => by
          by_cases h : i < k
          · exact N1.out i h hl
          · obtain rfl : i = k := by omega
            rw [← X.out]; exact t1⟩
        clear t1
        go_wp2
        go_roundg (n - k)
        case measure => omega
        case rel => exact ⟨k + 1, by go_num, by omega, by omega, R2⟩
    · have hltz : ¬ (k : Int) < (n : Int) := by omega
      have H : findR rows r = Rw.zero := findR_none rows r fun i hl => R1.out.2.2.2 i (by rw [← HN.out] at hl; omega) hl
      replace H := hide H
      have G1 := hide R1.out.1
      have E1 := hide R1.out.2.2.1
      have e0 := E1.out.cell 0 rfl
      have e1 := E1.out.cell 1 rfl
      have e2 := E1.out.cell 2 rfl
      have e3 := E1.out.cell 3 rfl
      have e4 := E1.out.cell 4 rfl
      have e5 := E1.out.cell 5 rfl
      have e6 := E1.out.cell 6 rfl
      have f0 := E1.out.free 0
      have f1 := E1.out.free 1
      have f2 := E1.out.free 2
      have f3 := E1.out.free 3
      have f4 := E1.out.free 4
      have f5 := E1.out.free 5
      have f6 := E1.out.free 6
      clear R1
      go_wp2
      refine bodyPost_ret (R := fun e w' => e = .returned (findR rows r).v ∧ Grew w w') (find_result ?_ (E1.out.row Rw.zero)) ?_ ⟨by rw [H.out], G1.out.row (Nat.le_refl _) Rw.zero⟩ <;> rfl
end Go.Proofs.Ytfiaongnogiegaa
