/- join at every two flat types; common at flat types that are all int's; clean, inspectAlone at lists. -/
import Derived.Test.YtnhhmndnmkkhlaaDoorExD
namespace Go.Proofs.YtnhhmndnmkkhlaaDoor
open Go.RowKit Go.Sort
set_option linter.unusedVariables false
set_option linter.unusedSimpArgs false

def jnR (l0 k0 l1 k1 : Int) : Int × Int × Bool :=
  if (l0 = l1 ∧ k0 = k1) ∨ (k0 = 0 ∧ l0 ≤ l1) then (l1, k1, true) else if k1 = 0 ∧ l1 ≤ l0 then (l0, k0, true) else (0, 0, false)
abbrev flV (l k : Int) : Value := .agg #[.int .i64 l, .int .i64 k]
abbrev jnV (r : Int × Int × Bool) : Value := .tuple #[flV r.1 r.2.1, .bool r.2.2]

set_option maxHeartbeats 4000000 in
theorem join_eq (l k : Int) (w : World) : Calls Tryd.prog 41 #[flV l k, flV l k] w fun e w' => e = .returned (jnV (l, k, true)) ∧ Grew w w' := by
  go_enter Tryd.func41, Tryd.ntmps41
  go_wp2
  refine bodyPost_ret (v := jnV (l, k, true)) (by simp [results, Tryd.results41, go_sem]) rfl ⟨rfl, ?_⟩
  repeat' (first | (with_reducible exact Grew.refl _) | (with_reducible refine Grew.setCell ?_ ?_ _) | (with_reducible refine Grew.drewN ?_ _) | (with_reducible refine Grew.reD ?_ _) | (with_reducible refine Grew.alloc ?_ _) | (dsimp only; omega))
set_option maxHeartbeats 4000000 in
theorem join_left (l0 l1 k1 : Int) (w : World) (h : l0 ≤ l1) : Calls Tryd.prog 41 #[flV l0 0, flV l1 k1] w fun e w' => e = .returned (jnV (l1, k1, true)) ∧ Grew w w' := by
  by_cases h1 : l0 = l1
  · subst h1
    by_cases h2 : k1 = 0
    · subst h2
      exact join_eq l0 0 w
    · have e2 : (0 == k1) = false := by simpa using fun e => h2 e.symm
      go_enter Tryd.func41, Tryd.ntmps41
      go_wp2
      refine bodyPost_ret (v := jnV (l0, k1, true)) (by simp [results, Tryd.results41, go_sem]) rfl ⟨rfl, ?_⟩
      repeat' (first | (with_reducible exact Grew.refl _) | (with_reducible refine Grew.setCell ?_ ?_ _) | (with_reducible refine Grew.drewN ?_ _) | (with_reducible refine Grew.reD ?_ _) | (with_reducible refine Grew.alloc ?_ _) | (dsimp only; omega))
  · have e1 : (l0 == l1) = false := by simpa using h1
    go_enter Tryd.func41, Tryd.ntmps41
    go_wp2
    refine bodyPost_ret (v := jnV (l1, k1, true)) (by simp [results, Tryd.results41, go_sem]) rfl ⟨rfl, ?_⟩
    repeat' (first | (with_reducible exact Grew.refl _) | (with_reducible refine Grew.setCell ?_ ?_ _) | (with_reducible refine Grew.drewN ?_ _) | (with_reducible refine Grew.reD ?_ _) | (with_reducible refine Grew.alloc ?_ _) | (dsimp only; omega))
set_option maxHeartbeats 4000000 in
theorem flist_any (l k : Int) (w : World) (h0 : 0 ≤ l) (h1 : l ≤ 1000) : Calls Tryd.prog 63 #[flV l k] w fun e w' => e = .returned (flV (l + 1) k) ∧ Grew w w' := by
  have wl : IntKind.i64.wrap (l + 1) = l + 1 := wr (by omega) (by omega)
  go_enter Tryd.func63, Tryd.ntmps63
  go_wp2
  refine bodyPost_ret (v := flV (l + 1) k) (by simp [results, Tryd.results63, go_sem]) rfl ⟨rfl, ?_⟩
  repeat' (first | (with_reducible exact Grew.refl _) | (with_reducible refine Grew.setCell ?_ ?_ _) | (with_reducible refine Grew.drewN ?_ _) | (with_reducible refine Grew.reD ?_ _) | (with_reducible refine Grew.alloc ?_ _) | (dsimp only; omega))
/-- m flat types of ints lie in block b. -/
def FRow (w : World) (b m : Nat) : Prop := b < w.heap.size ∧ ∀ i, i < m → w.cell? ⟨b, i * 2, none⟩ = some (.int .i64 0) ∧ w.cell? ⟨b, i * 2 + 1, none⟩ = some (.int .i64 1)
theorem FRow.grew {w w' : World} {b m : Nat} (h : FRow w b m) (g : Grew w w') : FRow w' b m :=
  ⟨Nat.lt_of_lt_of_le h.1 g.size, fun i hi => ⟨(g.cell b _ h.1).trans (h.2 i hi).1, (g.cell b _ h.1).trans (h.2 i hi).2⟩⟩
def cmK (i : Nat) : Int := if i = 0 then 0 else 1

set_option maxHeartbeats 4000000 in
theorem common_ints (b m : Nat) (w : World) (h : FRow w b m) (hm100 : m ≤ 100) : Calls Tryd.prog 62 #[.slice (some ⟨b, 0, none⟩) m m] w fun e w' => e = .returned (jnV (0, cmK m, true)) ∧ Grew w w' := by
  have KA := fun W => hide (join_left 0 0 1 W (by omega))
  have KB := fun W => hide (join_eq 0 1 W)
  have HF := hide h
  clear h
  go_enter Tryd.func62, Tryd.ntmps62
  go_wp2
  refine name_world fun w1 h1 => ?_
  have b0 : Hid (Blk w1 w.heap.size 65 [.int .i64 0, .int .i64 0]) := by
    refine hide ?_; rw [h1]; repeat' (first | (with_reducible assumption) | ((with_reducible refine Blk.new ?_); (first | (with_reducible rfl) | (simp only [World.size_alloc, World.size_setCell, size_drewN]; done))) | (with_reducible refine Blk.alloc ?_ _) | (refine Blk.other ?_ (by omega) _) | fail)
  have b1 : Hid (Blk w1 (w.heap.size + 1) 65 [.int .i64 0, .int .i64 (cmK 0)]) := by
    refine hide ?_; show Blk w1 (w.heap.size + 1) 65 [.int .i64 0, .int .i64 0]; rw [h1]; repeat' (first | (with_reducible assumption) | ((with_reducible refine Blk.new ?_); (first | (with_reducible rfl) | (simp only [World.size_alloc, World.size_setCell, size_drewN]; done))) | (with_reducible refine Blk.alloc ?_ _) | (refine Blk.other ?_ (by omega) _) | fail)
  have G1 : Hid (Grew w w1) := by rw [h1]; exact ((Grew.refl _).alloc _).alloc _
  clear h1
  go_loopg [11] (m + 1) (fun gh vk wr => ∃ (i : Nat), vk = .int .i64 (i : Int) ∧ i ≤ m ∧ m - i < gh ∧ Hid (Grew w wr) ∧ Hid (Blk wr w.heap.size 65 [.int .i64 0, .int .i64 0]) ∧ Hid (Blk wr (w.heap.size + 1) 65 [.int .i64 0, .int .i64 (cmK i)]))
  case atStart => exact ⟨0, by go_num, by omega, by omega, G1, b0, b1⟩
  case round =>
    clear b0 b1 G1
    obtain ⟨wo, rfl⟩ : ∃ wo : World, wo = wr := ⟨_, rfl⟩
    obtain ⟨i, rfl, hi, hgh, G, V0, V1⟩ := hrel
    have B1 := V1.out
    have B0 := V0.out
    clear V0 V1
    have a0 := B1.cell 0 rfl
    have af0 := B1.free 0
    have a1 := B1.cell 1 rfl
    have af1 := B1.free 1
    have alt := B1.lt
    by_cases hlt : i < m
    · have hltz : (i : Int) < (m : Int) := by omega
      have HF1 := HF.out.grew G.out
      obtain ⟨x0, x1⟩ := HF1.2 i hlt
      have hbl := HF1.1
      have key : ∀ K : Int, (K = 0 ∨ K = 1) → cmK i = K → Hid (∀ W, Calls Tryd.prog 41 #[flV 0 K, flV 0 1] W fun e w' => e = .returned (jnV (0, 1, true)) ∧ Grew W w') := by
        rintro K (rfl | rfl) _
        · exact hide fun W => (KA W).out
        · exact hide fun W => (KB W).out
      have hK := key (cmK i) (by unfold cmK; split <;> simp) rfl
      have hn : cmK (i + 1) = 1 := rfl
      clear HF1 key KA KB
      generalize cmK i = K at *
      go_wp2_with fail
      refine name_calls fun w4 h4 => ?_
      have G4 : Grew wo w4 := by rw [h4]; exact (Grew.refl _).alloc _
      clear h4
      refine (hK.out w4).mono ?_
      rintro e w5 ⟨rfl, G5⟩
      dsimp only [jnV, flV]
      have G6 := G4.trans G5
      have Y0 := B0.grew G6
      have Y1 := B1.grew G6
      have GG := G.out.trans G6
      have sz := GG.size
      clear B0 B1 G G4 G5 G6 x0 x1 a0 a1 af0 af1 alt hK
      have d0 := Y1.cell 0 rfl
      have fr0 := Y1.free 0
      have d1 := Y1.cell 1 rfl
      have fr1 := Y1.free 1
      have dlt := Y1.lt
      go_wp2
      go_roundg (m - i)
      case measure => omega
      case rel =>
        refine ⟨i + 1, by go_num, by omega, by omega, ?_, ?_, ?_⟩
        · refine hide ?_
          repeat' (first | (with_reducible exact GG) | (with_reducible refine Grew.setCell ?_ ?_ _) | (with_reducible refine Grew.alloc ?_ _) | (dsimp only; omega))
        · exact hide (by repeat' (first | (with_reducible exact Y0) | (with_reducible refine Blk.alloc ?_ _) | (refine Blk.other ?_ (by omega) _)))
        · rw [hn]
          refine hide ?_
          repeat (with_reducible refine Blk.alloc ?_ _)
          exact (Y1.set' 0 _ rfl).set' 1 _ rfl
    · have hltz : ¬ (i : Int) < (m : Int) := by omega
      obtain rfl : i = m := by omega
      have d0 := B0.cell 0 rfl
      have fr0 := B0.free 0
      have d1 := B0.cell 1 rfl
      have fr1 := B0.free 1
      have dlt := B0.lt
      have GG := G.out
      have sz := GG.size
      clear KA KB HF G
      go_wp2
      refine name_bp fun wq hq => ?_
      have Gq : Grew w wq := by
        rw [hq]
        repeat' (first | (with_reducible exact GG) | (with_reducible refine Grew.setCell ?_ ?_ _) | (with_reducible refine Grew.alloc ?_ _) | (dsimp only; omega))
      have Bq : Blk wq w.heap.size 65 [.int .i64 0, .int .i64 (cmK i)] := by
        rw [hq]
        exact (B0.set' 0 _ rfl).set' 1 _ rfl
      have q0 := Bq.cell 0 rfl
      have q1 := Bq.cell 1 rfl
      exact bodyPost_ret (v := jnV (0, cmK i, true)) (by simp [results, Tryd.results62, go_sem, q0, q1]) rfl ⟨rfl, Gq⟩

abbrev lsV (p : Option Addr) (m c : Nat) : Value := .agg #[.int .i64 4, .int .i64 0, .string ⟨#[]⟩, .slice p m c]
set_option maxHeartbeats 4000000 in
theorem clean_ls (p : Option Addr) (m c : Nat) (w : World) : Calls Tryd.prog 71 #[lsV p m c] w fun e w' => e = .returned (.bool true) ∧ Grew w w' := by
  go_enter Tryd.func71, Tryd.ntmps71
  go_wp2
  go_ret
  refine ⟨rfl, ?_⟩
  repeat' (first | (with_reducible exact Grew.refl _) | (with_reducible refine Grew.setCell ?_ ?_ _) | (with_reducible refine Grew.drewN ?_ _) | (with_reducible refine Grew.reD ?_ _) | (with_reducible refine Grew.alloc ?_ _) | (dsimp only; omega))
set_option maxHeartbeats 4000000 in
theorem inspectAlone_ls (p : Option Addr) (m cc : Nat) (c : Int) (b : Nat) (w : World) (hb : Blk w b 85 [.int .i64 c]) (hc : c ≤ 1000) (hm : m ≤ 100) :
    Calls Tryd.prog 61 #[.pointer (some ⟨b, 0, none⟩), lsV p m cc] w fun e w' => e = .returned (.int .i64 0) ∧ Grew w w' := by
  have hc' : ¬ 1000 < c := by omega
  have hm' : ¬ (100 : Int) < (m : Int) := by omega
  have K1 := fun W => hide (clean_ls p m cc W)
  have K3 := fun W => hide (Valid_empty W)
  go_enter Tryd.func61, Tryd.ntmps61
  go_wp2_with fail
  refine ((K1 _).out).mono ?_
  rintro e w1 ⟨rfl, G1⟩
  try (with_reducible replace G1 := Grew.undrawn G1)
  have B1_0 : Blk w1 (w.heap.size) 24 [.int .i64 4, .int .i64 0, .string ⟨#[]⟩, .slice p m cc] := Blk.grew (by (repeat' (first | (with_reducible assumption) | ((with_reducible refine Blk.new ?_); (first | (with_reducible rfl) | (simp only [World.size_alloc, World.size_setCell, size_drewN]; done))) | (with_reducible refine Blk.alloc ?_ _) | (with_reducible refine Blk.drewN ?_ _) | (with_reducible refine Blk.drew ?_) | (refine Blk.other ?_ (by omega) _) | fail))) G1
  have B1_1 : Blk w1 (b) 85 [.int .i64 c] := Blk.grew (by (repeat' (first | (with_reducible assumption) | ((with_reducible refine Blk.new ?_); (first | (with_reducible rfl) | (simp only [World.size_alloc, World.size_setCell, size_drewN]; done))) | (with_reducible refine Blk.alloc ?_ _) | (with_reducible refine Blk.drewN ?_ _) | (with_reducible refine Blk.drew ?_) | (refine Blk.other ?_ (by omega) _) | fail))) G1
  have z1 := G1.size
  try simp only [World.size_alloc, World.size_setCell, size_drewN] at z1
  replace G1 := hide G1
  have t1_0 := B1_0.lt
  have d1_0_0 := B1_0.cell 0 rfl
  have e1_0_0 := B1_0.free 0
  have d1_0_1 := B1_0.cell 1 rfl
  have e1_0_1 := B1_0.free 1
  have d1_0_2 := B1_0.cell 2 rfl
  have e1_0_2 := B1_0.free 2
  have d1_0_3 := B1_0.cell 3 rfl
  have e1_0_3 := B1_0.free 3
  have t1_1 := B1_1.lt
  have d1_1_0 := B1_1.cell 0 rfl
  have e1_1_0 := B1_1.free 0
  go_wp2_with fail
  refine ((K3 _).out).mono ?_
  rintro e _ ⟨rfl, rfl⟩
  go_wp2
  go_ret
  refine ⟨rfl, ?_⟩
  repeat' (first | (with_reducible exact Grew.refl _) | (with_reducible refine Grew.setCell ?_ ?_ _) | (with_reducible refine Grew.drewN ?_ _) | (with_reducible refine Grew.reD ?_ _) | (with_reducible refine Grew.alloc ?_ _) | (with_reducible refine Grew.trans ?_ G1.out) | (dsimp only; omega))
end Go.Proofs.YtnhhmndnmkkhlaaDoor
