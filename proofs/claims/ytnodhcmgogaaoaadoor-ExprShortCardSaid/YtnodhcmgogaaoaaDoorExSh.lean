/- The walk of the law ExprShort; no condition. -/
import Derived.Test.YtnodhcmgogaaoaaDoorExY
import Derived.Test.YtnodhcmgogaaoaaDoorExTW
namespace Go.Proofs.YtnodhcmgogaaoaaDoor
open Go.RowKit Go.Sort
set_option linter.unusedVariables false
set_option linter.unusedSimpArgs false
set_option maxRecDepth 100000
theorem and63 (k : Int) : bits .and .i64 k 63 = k % 64 := by
  show IntKind.i64.wrap ((BitVec.ofInt 64 k &&& BitVec.ofInt 64 63).toNat : Int) = _
  have h1 : (BitVec.ofInt 64 k).toNat = (k % 18446744073709551616).toNat := by rw [BitVec.toNat_ofInt]; rfl
  have h2 : (BitVec.ofInt 64 63).toNat = 2 ^ 6 - 1 := by decide
  rw [BitVec.toNat_and, h1, h2, Nat.and_two_pow_sub_one_eq_mod, IntKind.wrap_i64]
  omega
/-- The values of the operations of the second region. -/
def P2 (s1 bs : Nat) (k : Nat) (v : Value) (w : World) : Prop := match k with
  | 0 => v = .agg #[.int .i64 8, .int .i64 0, .string ⟨#[]⟩, .slice (some ⟨s1, 0, none⟩) 2 2]
  | 1 => v = nv 1 0
  | 2 => ∃ b, v = .slice (some ⟨b, 0, none⟩) 2 2 ∧ Blk w b 62 (wrongL s1)
  | 3 => ∃ b, v = .agg #[.int .i64 10, .int .i64 0, .string ⟨#[]⟩, .slice (some ⟨b, 0, none⟩) 2 2] ∧ Blk w b 62 (wrongL s1)
  | _ => ∃ b, v = .pointer (some ⟨b, 0, none⟩) ∧ Blk w b 62 [.int .i64 0, .int .i64 0, .string ⟨#[]⟩, .slice none 0 0] ∧ bs ≤ b
theorem P2.grew {s1 bs : Nat} (k : Nat) (v : Value) (w w' : World) (g : Grew w w') (h : P2 s1 bs k v w) : P2 s1 bs k v w' := by
  unfold P2 at *
  split at h
  · exact h
  · exact h
  · obtain ⟨b, h1, h2⟩ := h; exact ⟨b, h1, h2.grew g⟩
  · obtain ⟨b, h1, h2⟩ := h; exact ⟨b, h1, h2.grew g⟩
  · obtain ⟨b, h1, h2, h3⟩ := h; exact ⟨b, h1, h2.grew g, h3⟩
def S2 (s1 : Nat) (w0 : World) (vs : Nat → Value) (w : World) : Prop := ∃ b2 b4, vs 4 = .pointer (some ⟨b4, 0, none⟩) ∧ Blk w b2 62 (wrongL s1) ∧ Blk w b4 62 [.int .i64 10, .int .i64 0, .string ⟨#[]⟩, .slice (some ⟨b2, 0, none⟩) 2 2] ∧ Grew w0 w
theorem S2.ext {s1 : Nat} {w0 : World} (vs vs' : Nat → Value) (w : World) (h : ∀ k, k < 5 → ([] : List Nat).contains k = false → vs k = vs' k) (hs : S2 s1 w0 vs w) : S2 s1 w0 vs' w := by
  obtain ⟨b2, b4, h1, h2⟩ := hs
  exact ⟨b2, b4, by rw [← h 4 (by omega) rfl]; exact h1, h2⟩
def P6 (s1 bs : Nat) (n m : Int) (k : Nat) (v : Value) (w : World) : Prop := match k with
  | 0 => v = nv 2 1
  | 1 => v = .int .i64 n
  | 2 => v = .int .i64 m
  | 3 => v = nv 1 m
  | 4 => v = .agg #[.int .i64 8, .int .i64 0, .string ⟨#[]⟩, .slice (some ⟨s1, 0, none⟩) 2 2]
  | 5 => ∃ b, v = .slice (some ⟨b, 0, none⟩) 3 3 ∧ Blk w b 62 (threeL m s1)
  | 6 => ∃ b, v = .agg #[.int .i64 15, .int .i64 0, .string ⟨#[]⟩, .slice (some ⟨b, 0, none⟩) 3 3] ∧ Blk w b 62 (threeL m s1)
  | 7 => v = .tuple #[nv 1 m, .int .i64 0]
  | 8 => v = .tuple #[nv 1 m, .int .i64 0]
  | 9 => v = nv 1 m
  | 10 => v = .int .i64 0
  | _ => ∃ b, v = .pointer (some ⟨b, 0, none⟩) ∧ Blk w b 26 [.int .i64 0, .int .i64 0, .string ⟨#[]⟩, .slice none 0 0] ∧ bs ≤ b
theorem P6.grew {s1 bs : Nat} {n m : Int} (k : Nat) (v : Value) (w w' : World) (g : Grew w w') (h : P6 s1 bs n m k v w) : P6 s1 bs n m k v w' := by
  unfold P6 at *
  split at h
  case h_6 => obtain ⟨b, h1, h2⟩ := h; exact ⟨b, h1, h2.grew g⟩
  case h_7 => obtain ⟨b, h1, h2⟩ := h; exact ⟨b, h1, h2.grew g⟩
  case h_12 => obtain ⟨b, h1, h2, h3⟩ := h; exact ⟨b, h1, h2.grew g, h3⟩
  all_goals exact h
def S6 (m : Int) (w0 : World) (vs : Nat → Value) (w : World) : Prop := ∃ b, vs 11 = .pointer (some ⟨b, 0, none⟩) ∧ Blk w b 26 [.int .i64 1, .int .i64 m, .string ⟨#[]⟩, .slice none 0 0] ∧ Grew w0 w ∧ vs 8 = .tuple #[nv 1 m, .int .i64 0]
theorem S6.ext {m : Int} {w0 : World} (vs vs' : Nat → Value) (w : World) (h : ∀ k, k < 12 → [10, 13].contains k = false → vs k = vs' k) (hs : S6 m w0 vs w) : S6 m w0 vs' w := by
  obtain ⟨b, h1, h2, h3, h4⟩ := hs
  exact ⟨b, by rw [← h 11 (by omega) rfl]; exact h1, h2, h3, by rw [← h 8 (by omega) rfl]; exact h4⟩

set_option maxHeartbeats 4000000 in
theorem short_walk (n : Int) (wfn : (Lit.int .i64 n).wf = true) (w : World) : Calls Tryd.prog 9 #[.int .i64 n] w fun e w' => e = .returned (.bool true) ∧ Below w.heap.size w w' := by
  have K0 := fun W => hide (lin_any 0 W)
  have K1 := fun W => hide (lin_any 1 W)
  have a63 := and63 n
  have hm : nuB (n % 64) = true := Sm.nu ⟨by omega, by omega⟩
  generalize n % 64 = m at *
  have KM := fun W => hide (lin_any m W)
  have E1 := fun W s1 s2 s3 (h : Bw W s1 s2) h3 => hide (and_no (s3 := s3) h h3)
  have E2 := fun W s1 s2 s3 (h : Bw W s1 s2) h3 => hide (or_yes (s3 := s3) h h3)
  have E3 := fun W s1 s2 s3 (h : Bw W s1 s2) h3 => hide (if_yes (n := m) (s3 := s3) h h3 hm)
  have E4 := fun W s1 s2 s3 (h : Bw W s1 s2) h3 => hide (and_yes (s3 := s3) h h3)
  have AW := fun W => hide (awake_any W)
  clear wfn hm
  go_enter Tryd.func9, Tryd.ntmps9
  go_wp2_with fail
  refine ((K1 _).out).mono ?_
  rintro e w1 ⟨rfl, G1⟩
  try (with_reducible replace G1 := Grew.undrawn G1)
  have z1 := G1.size
  try simp only [World.size_alloc, World.size_setCell, size_drewN] at z1
  replace G1 := hide G1
  go_wp2_with fail
  refine ((K0 _).out).mono ?_
  rintro e w2 ⟨rfl, G2⟩
  try (with_reducible replace G2 := Grew.undrawn G2)
  have z2 := G2.size
  try simp only [World.size_alloc, World.size_setCell, size_drewN] at z2
  replace G2 := hide G2
  go_wp2_with fail
  refine name_world fun w3 h3 => ?_
  have G3 : Grew w w3 := by
    rw [h3]
    repeat' (first | (with_reducible exact Grew.refl _) | (with_reducible refine Grew.setCell ?_ ?_ _) | (with_reducible refine Grew.drewN ?_ _) | (with_reducible refine Grew.reD ?_ _) | (with_reducible refine Grew.alloc ?_ _) | (with_reducible refine Grew.trans ?_ G3.out) | (with_reducible refine Grew.trans ?_ G2.out) | (with_reducible refine Grew.trans ?_ G1.out) | (dsimp only; omega))
  have B3_0 : Blk w3 (w2.heap.size) 62 [.int .i64 1, .int .i64 1, .string ⟨#[]⟩, .slice none 0 0, .int .i64 1, .int .i64 0, .string ⟨#[]⟩, .slice none 0 0] := by (rw [h3]; repeat' (first | (with_reducible assumption) | ((with_reducible refine Blk.new ?_); (first | (with_reducible rfl) | (simp only [World.size_alloc, World.size_setCell, size_drewN]; done))) | (with_reducible refine Blk.alloc ?_ _) | (with_reducible refine Blk.drewN ?_ _) | (with_reducible refine Blk.drew ?_) | (refine Blk.other ?_ (by omega) _) | fail))
  have B3_1 : Blk w3 (w2.heap.size + 1) 62 [.int .i64 8, .int .i64 0, .string ⟨#[]⟩, .slice (some ⟨w2.heap.size, 0, none⟩) 2 2] := by (rw [h3]; repeat' (first | (with_reducible assumption) | ((with_reducible refine Blk.new ?_); (first | (with_reducible rfl) | (simp only [World.size_alloc, World.size_setCell, size_drewN]; done))) | (with_reducible refine Blk.alloc ?_ _) | (with_reducible refine Blk.drewN ?_ _) | (with_reducible refine Blk.drew ?_) | (refine Blk.other ?_ (by omega) _) | fail))
  have z3 := G3.size
  replace G3 := hide G3
  clear h3
  have t3_0 := B3_0.lt
  have d3_0_0 := B3_0.cell 0 rfl
  have e3_0_0 := B3_0.free 0
  have d3_0_1 := B3_0.cell 1 rfl
  have e3_0_1 := B3_0.free 1
  have d3_0_2 := B3_0.cell 2 rfl
  have e3_0_2 := B3_0.free 2
  have d3_0_3 := B3_0.cell 3 rfl
  have e3_0_3 := B3_0.free 3
  have d3_0_4 := B3_0.cell 4 rfl
  have e3_0_4 := B3_0.free 4
  have d3_0_5 := B3_0.cell 5 rfl
  have e3_0_5 := B3_0.free 5
  have d3_0_6 := B3_0.cell 6 rfl
  have e3_0_6 := B3_0.free 6
  have d3_0_7 := B3_0.cell 7 rfl
  have e3_0_7 := B3_0.free 7
  have t3_1 := B3_1.lt
  have d3_1_0 := B3_1.cell 0 rfl
  have e3_1_0 := B3_1.free 0
  have d3_1_1 := B3_1.cell 1 rfl
  have e3_1_1 := B3_1.free 1
  have d3_1_2 := B3_1.cell 2 rfl
  have e3_1_2 := B3_1.free 2
  have d3_1_3 := B3_1.cell 3 rfl
  have e3_1_3 := B3_1.free 3
  refine wp_region_two 5 6 [] [(19, 0), (20, 1), (21, 2), (22, 3), (4, 4)] (P2 w2.heap.size w3.heap.size) (fun _ _ => True) (S2 w2.heap.size w3) (by kernel_rfl) (by kernel_rfl) (by simp) rfl (by omega) (fun k h => by simp at h) S2.ext ?_
  refine lex_two 0 (by omega) (by omega) rfl rfl P2.grew ?_ ?_
  · intro vs W hG hp
    have Q := B3_1.grew hG
    have d0 := Q.cell 0 rfl
    have fr0 := Q.free 0
    have d1 := Q.cell 1 rfl
    have fr1 := Q.free 1
    have d2 := Q.cell 2 rfl
    have fr2 := Q.free 2
    have d3 := Q.cell 3 rfl
    have fr3 := Q.free 3
    simp [go_sem, evS, List.lookup, P2, Grew.refl, d0, d1, d2, d3]
  refine lex_two 1 (by omega) (by omega) rfl rfl P2.grew ?_ ?_
  · intro vs W hG hp
    simp [go_sem, evS, List.lookup]
    refine ((K0 _).out).mono ?_
    rintro e w' ⟨rfl, g⟩
    exact ⟨_, rfl, g, rfl⟩
  refine lex_two 2 (by omega) (by omega) rfl rfl P2.grew ?_ ?_
  · intro vs W hG hp
    have h0 := hp 0 (by omega) rfl (by kernel_rfl)
    have h1 := hp 1 (by omega) rfl (by kernel_rfl)
    simp only [P2] at h0 h1
    simp [go_sem, evS, List.lookup, h0, h1]
    exact ⟨(Grew.refl _).alloc _, _, rfl, Blk.new rfl⟩
  refine lex_two 3 (by omega) (by omega) rfl rfl P2.grew ?_ ?_
  · intro vs W hG hp
    obtain ⟨b, h2, hB⟩ := hp 2 (by omega) rfl (by kernel_rfl)
    simp [go_sem, evS, List.lookup, h2]
    exact ⟨Grew.refl _, b, rfl, hB⟩
  refine lex_two 4 (by omega) (by omega) rfl rfl P2.grew ?_ ?_
  · intro vs W hG hp
    simp [go_sem, evS, List.lookup]
    exact ⟨(Grew.refl _).alloc _, _, rfl, Blk.new rfl, hG.size⟩
  refine lex_two_store (by omega) rfl (by kernel_rfl) rfl S2.ext ?_ ?_
  · intro vs W hG hp
    obtain ⟨b2, hv3, hB2⟩ := hp 3 (by omega) rfl
    obtain ⟨b4, hv4, hB4, hle⟩ := hp 4 (by omega) rfl
    have hne : b2 ≠ b4 := by
      rintro rfl
      have e := (show W.heap[b2]? = _ from hB2).symm.trans hB4
      simp at e
    have d0 := hB4.cell 0 rfl
    have fr0 := hB4.free 0
    have d1 := hB4.cell 1 rfl
    have fr1 := hB4.free 1
    have d2 := hB4.cell 2 rfl
    have fr2 := hB4.free 2
    have d3 := hB4.cell 3 rfl
    have fr3 := hB4.free 3
    have hlt := hB4.lt
    simp [go_sem, evS, List.lookup, hv3, hv4, d0, d1, d2, d3, fr0, fr1, fr2, fr3]
    exact ⟨b2, b4, hv4, (((hB2.other hne _).other hne _).other hne _).other hne _, (((hB4.set' 0 _ rfl).set' 1 _ rfl).set' 2 _ rfl).set' 3 _ rfl, (((hG.setCell hle _).setCell hle _).setCell hle _).setCell hle _⟩
  refine lex_nil ?_
  rintro vs w4 ⟨⟨h, -, -⟩ | ⟨-, -, b2, b4, hv4, hB2, hB4, hG⟩, -⟩
  · cases h
  simp only [fillS, List.foldl_cons, List.foldl_nil, hv4]
  generalize vs 0 = vv0
  generalize vs 1 = vv1
  generalize vs 2 = vv2
  generalize vs 3 = vv3
  clear hv4 vs
  have G4 := hide hG
  have B4_0 := B3_0.grew hG
  have B4_1 := B3_1.grew hG
  have B4_2 := hB2
  have B4_3 := hB4
  have z4 := hG.size
  clear hG hB2 hB4
  have t4_0 := B4_0.lt
  have d4_0_0 := B4_0.cell 0 rfl
  have e4_0_0 := B4_0.free 0
  have d4_0_1 := B4_0.cell 1 rfl
  have e4_0_1 := B4_0.free 1
  have d4_0_2 := B4_0.cell 2 rfl
  have e4_0_2 := B4_0.free 2
  have d4_0_3 := B4_0.cell 3 rfl
  have e4_0_3 := B4_0.free 3
  have d4_0_4 := B4_0.cell 4 rfl
  have e4_0_4 := B4_0.free 4
  have d4_0_5 := B4_0.cell 5 rfl
  have e4_0_5 := B4_0.free 5
  have d4_0_6 := B4_0.cell 6 rfl
  have e4_0_6 := B4_0.free 6
  have d4_0_7 := B4_0.cell 7 rfl
  have e4_0_7 := B4_0.free 7
  have t4_1 := B4_1.lt
  have d4_1_0 := B4_1.cell 0 rfl
  have e4_1_0 := B4_1.free 0
  have d4_1_1 := B4_1.cell 1 rfl
  have e4_1_1 := B4_1.free 1
  have d4_1_2 := B4_1.cell 2 rfl
  have e4_1_2 := B4_1.free 2
  have d4_1_3 := B4_1.cell 3 rfl
  have e4_1_3 := B4_1.free 3
  have t4_2 := B4_2.lt
  have d4_2_0 := B4_2.cell 0 rfl
  have e4_2_0 := B4_2.free 0
  have d4_2_1 := B4_2.cell 1 rfl
  have e4_2_1 := B4_2.free 1
  have d4_2_2 := B4_2.cell 2 rfl
  have e4_2_2 := B4_2.free 2
  have d4_2_3 := B4_2.cell 3 rfl
  have e4_2_3 := B4_2.free 3
  have d4_2_4 := B4_2.cell 4 rfl
  have e4_2_4 := B4_2.free 4
  have d4_2_5 := B4_2.cell 5 rfl
  have e4_2_5 := B4_2.free 5
  have d4_2_6 := B4_2.cell 6 rfl
  have e4_2_6 := B4_2.free 6
  have d4_2_7 := B4_2.cell 7 rfl
  have e4_2_7 := B4_2.free 7
  have t4_3 := B4_3.lt
  have d4_3_0 := B4_3.cell 0 rfl
  have e4_3_0 := B4_3.free 0
  have d4_3_1 := B4_3.cell 1 rfl
  have e4_3_1 := B4_3.free 1
  have d4_3_2 := B4_3.cell 2 rfl
  have e4_3_2 := B4_3.free 2
  have d4_3_3 := B4_3.cell 3 rfl
  have e4_3_3 := B4_3.free 3
  go_simp
  go_wp2_with fail
  refine name_calls fun w5 h5 => ?_
  have G5 : Grew w w5 := by
    rw [h5]
    repeat' (first | (with_reducible exact Grew.refl _) | (with_reducible refine Grew.setCell ?_ ?_ _) | (with_reducible refine Grew.drewN ?_ _) | (with_reducible refine Grew.reD ?_ _) | (with_reducible refine Grew.alloc ?_ _) | (with_reducible refine Grew.trans ?_ G5.out) | (with_reducible refine Grew.trans ?_ G4.out) | (with_reducible refine Grew.trans ?_ G3.out) | (with_reducible refine Grew.trans ?_ G2.out) | (with_reducible refine Grew.trans ?_ G1.out) | (dsimp only; omega))
  have B5_0 : Blk w5 (w2.heap.size) 62 [.int .i64 1, .int .i64 1, .string ⟨#[]⟩, .slice none 0 0, .int .i64 1, .int .i64 0, .string ⟨#[]⟩, .slice none 0 0] := by (rw [h5]; repeat' (first | (with_reducible assumption) | ((with_reducible refine Blk.new ?_); (first | (with_reducible rfl) | (simp only [World.size_alloc, World.size_setCell, size_drewN]; done))) | (with_reducible refine Blk.alloc ?_ _) | (with_reducible refine Blk.drewN ?_ _) | (with_reducible refine Blk.drew ?_) | (refine Blk.other ?_ (by omega) _) | fail))
  have B5_1 : Blk w5 (w2.heap.size + 1) 62 [.int .i64 8, .int .i64 0, .string ⟨#[]⟩, .slice (some ⟨w2.heap.size, 0, none⟩) 2 2] := by (rw [h5]; repeat' (first | (with_reducible assumption) | ((with_reducible refine Blk.new ?_); (first | (with_reducible rfl) | (simp only [World.size_alloc, World.size_setCell, size_drewN]; done))) | (with_reducible refine Blk.alloc ?_ _) | (with_reducible refine Blk.drewN ?_ _) | (with_reducible refine Blk.drew ?_) | (refine Blk.other ?_ (by omega) _) | fail))
  have B5_2 : Blk w5 (b2) 62 [.int .i64 8, .int .i64 0, .string ⟨#[]⟩, .slice (some ⟨w2.heap.size, 0, none⟩) 2 2, .int .i64 1, .int .i64 0, .string ⟨#[]⟩, .slice none 0 0] := by (rw [h5]; repeat' (first | (with_reducible assumption) | ((with_reducible refine Blk.new ?_); (first | (with_reducible rfl) | (simp only [World.size_alloc, World.size_setCell, size_drewN]; done))) | (with_reducible refine Blk.alloc ?_ _) | (with_reducible refine Blk.drewN ?_ _) | (with_reducible refine Blk.drew ?_) | (refine Blk.other ?_ (by omega) _) | fail))
  have B5_3 : Blk w5 (b4) 62 [.int .i64 10, .int .i64 0, .string ⟨#[]⟩, .slice (some ⟨b2, 0, none⟩) 2 2] := by (rw [h5]; repeat' (first | (with_reducible assumption) | ((with_reducible refine Blk.new ?_); (first | (with_reducible rfl) | (simp only [World.size_alloc, World.size_setCell, size_drewN]; done))) | (with_reducible refine Blk.alloc ?_ _) | (with_reducible refine Blk.drewN ?_ _) | (with_reducible refine Blk.drew ?_) | (refine Blk.other ?_ (by omega) _) | fail))
  have B5_4 : Blk w5 (w4.heap.size) 62 [.int .i64 2, .int .i64 0, .string ⟨#[]⟩, .slice none 0 0] := by (rw [h5]; repeat' (first | (with_reducible assumption) | ((with_reducible refine Blk.new ?_); (first | (with_reducible rfl) | (simp only [World.size_alloc, World.size_setCell, size_drewN]; done))) | (with_reducible refine Blk.alloc ?_ _) | (with_reducible refine Blk.drewN ?_ _) | (with_reducible refine Blk.drew ?_) | (refine Blk.other ?_ (by omega) _) | fail))
  have B5_5 : Blk w5 (w4.heap.size + 1) 62 [.int .i64 2, .int .i64 1, .string ⟨#[]⟩, .slice none 0 0] := by (rw [h5]; repeat' (first | (with_reducible assumption) | ((with_reducible refine Blk.new ?_); (first | (with_reducible rfl) | (simp only [World.size_alloc, World.size_setCell, size_drewN]; done))) | (with_reducible refine Blk.alloc ?_ _) | (with_reducible refine Blk.drewN ?_ _) | (with_reducible refine Blk.drew ?_) | (refine Blk.other ?_ (by omega) _) | fail))
  have B5_6 : Blk w5 (w4.heap.size + 1 + 1) 62 [.int .i64 2, .int .i64 0, .string ⟨#[]⟩, .slice none 0 0, .int .i64 10, .int .i64 0, .string ⟨#[]⟩, .slice (some ⟨b2, 0, none⟩) 2 2] := by (rw [h5]; repeat' (first | (with_reducible assumption) | ((with_reducible refine Blk.new ?_); (first | (with_reducible rfl) | (simp only [World.size_alloc, World.size_setCell, size_drewN]; done))) | (with_reducible refine Blk.alloc ?_ _) | (with_reducible refine Blk.drewN ?_ _) | (with_reducible refine Blk.drew ?_) | (refine Blk.other ?_ (by omega) _) | fail))
  have z5 := G5.size
  replace G5 := hide G5
  clear h5
  have t5_0 := B5_0.lt
  have d5_0_0 := B5_0.cell 0 rfl
  have e5_0_0 := B5_0.free 0
  have d5_0_1 := B5_0.cell 1 rfl
  have e5_0_1 := B5_0.free 1
  have d5_0_2 := B5_0.cell 2 rfl
  have e5_0_2 := B5_0.free 2
  have d5_0_3 := B5_0.cell 3 rfl
  have e5_0_3 := B5_0.free 3
  have d5_0_4 := B5_0.cell 4 rfl
  have e5_0_4 := B5_0.free 4
  have d5_0_5 := B5_0.cell 5 rfl
  have e5_0_5 := B5_0.free 5
  have d5_0_6 := B5_0.cell 6 rfl
  have e5_0_6 := B5_0.free 6
  have d5_0_7 := B5_0.cell 7 rfl
  have e5_0_7 := B5_0.free 7
  have t5_1 := B5_1.lt
  have d5_1_0 := B5_1.cell 0 rfl
  have e5_1_0 := B5_1.free 0
  have d5_1_1 := B5_1.cell 1 rfl
  have e5_1_1 := B5_1.free 1
  have d5_1_2 := B5_1.cell 2 rfl
  have e5_1_2 := B5_1.free 2
  have d5_1_3 := B5_1.cell 3 rfl
  have e5_1_3 := B5_1.free 3
  have t5_2 := B5_2.lt
  have d5_2_0 := B5_2.cell 0 rfl
  have e5_2_0 := B5_2.free 0
  have d5_2_1 := B5_2.cell 1 rfl
  have e5_2_1 := B5_2.free 1
  have d5_2_2 := B5_2.cell 2 rfl
  have e5_2_2 := B5_2.free 2
  have d5_2_3 := B5_2.cell 3 rfl
  have e5_2_3 := B5_2.free 3
  have d5_2_4 := B5_2.cell 4 rfl
  have e5_2_4 := B5_2.free 4
  have d5_2_5 := B5_2.cell 5 rfl
  have e5_2_5 := B5_2.free 5
  have d5_2_6 := B5_2.cell 6 rfl
  have e5_2_6 := B5_2.free 6
  have d5_2_7 := B5_2.cell 7 rfl
  have e5_2_7 := B5_2.free 7
  have t5_3 := B5_3.lt
  have d5_3_0 := B5_3.cell 0 rfl
  have e5_3_0 := B5_3.free 0
  have d5_3_1 := B5_3.cell 1 rfl
  have e5_3_1 := B5_3.free 1
  have d5_3_2 := B5_3.cell 2 rfl
  have e5_3_2 := B5_3.free 2
  have d5_3_3 := B5_3.cell 3 rfl
  have e5_3_3 := B5_3.free 3
  have t5_4 := B5_4.lt
  have d5_4_0 := B5_4.cell 0 rfl
  have e5_4_0 := B5_4.free 0
  have d5_4_1 := B5_4.cell 1 rfl
  have e5_4_1 := B5_4.free 1
  have d5_4_2 := B5_4.cell 2 rfl
  have e5_4_2 := B5_4.free 2
  have d5_4_3 := B5_4.cell 3 rfl
  have e5_4_3 := B5_4.free 3
  have t5_5 := B5_5.lt
  have d5_5_0 := B5_5.cell 0 rfl
  have e5_5_0 := B5_5.free 0
  have d5_5_1 := B5_5.cell 1 rfl
  have e5_5_1 := B5_5.free 1
  have d5_5_2 := B5_5.cell 2 rfl
  have e5_5_2 := B5_5.free 2
  have d5_5_3 := B5_5.cell 3 rfl
  have e5_5_3 := B5_5.free 3
  have t5_6 := B5_6.lt
  have d5_6_0 := B5_6.cell 0 rfl
  have e5_6_0 := B5_6.free 0
  have d5_6_1 := B5_6.cell 1 rfl
  have e5_6_1 := B5_6.free 1
  have d5_6_2 := B5_6.cell 2 rfl
  have e5_6_2 := B5_6.free 2
  have d5_6_3 := B5_6.cell 3 rfl
  have e5_6_3 := B5_6.free 3
  have d5_6_4 := B5_6.cell 4 rfl
  have e5_6_4 := B5_6.free 4
  have d5_6_5 := B5_6.cell 5 rfl
  have e5_6_5 := B5_6.free 5
  have d5_6_6 := B5_6.cell 6 rfl
  have e5_6_6 := B5_6.free 6
  have d5_6_7 := B5_6.cell 7 rfl
  have e5_6_7 := B5_6.free 7
  refine ((E1 w5 _ _ _ ⟨B5_0, B5_2⟩ B5_6).out).mono ?_
  rintro e w6 ⟨rfl, G6⟩
  try (with_reducible replace G6 := Grew.undrawn G6)
  have B6_0 : Blk w6 (w2.heap.size) 62 [.int .i64 1, .int .i64 1, .string ⟨#[]⟩, .slice none 0 0, .int .i64 1, .int .i64 0, .string ⟨#[]⟩, .slice none 0 0] := Blk.grew (by (repeat' (first | (with_reducible assumption) | ((with_reducible refine Blk.new ?_); (first | (with_reducible rfl) | (simp only [World.size_alloc, World.size_setCell, size_drewN]; done))) | (with_reducible refine Blk.alloc ?_ _) | (with_reducible refine Blk.drewN ?_ _) | (with_reducible refine Blk.drew ?_) | (refine Blk.other ?_ (by omega) _) | fail))) G6
  have B6_1 : Blk w6 (w2.heap.size + 1) 62 [.int .i64 8, .int .i64 0, .string ⟨#[]⟩, .slice (some ⟨w2.heap.size, 0, none⟩) 2 2] := Blk.grew (by (repeat' (first | (with_reducible assumption) | ((with_reducible refine Blk.new ?_); (first | (with_reducible rfl) | (simp only [World.size_alloc, World.size_setCell, size_drewN]; done))) | (with_reducible refine Blk.alloc ?_ _) | (with_reducible refine Blk.drewN ?_ _) | (with_reducible refine Blk.drew ?_) | (refine Blk.other ?_ (by omega) _) | fail))) G6
  have B6_2 : Blk w6 (b2) 62 [.int .i64 8, .int .i64 0, .string ⟨#[]⟩, .slice (some ⟨w2.heap.size, 0, none⟩) 2 2, .int .i64 1, .int .i64 0, .string ⟨#[]⟩, .slice none 0 0] := Blk.grew (by (repeat' (first | (with_reducible assumption) | ((with_reducible refine Blk.new ?_); (first | (with_reducible rfl) | (simp only [World.size_alloc, World.size_setCell, size_drewN]; done))) | (with_reducible refine Blk.alloc ?_ _) | (with_reducible refine Blk.drewN ?_ _) | (with_reducible refine Blk.drew ?_) | (refine Blk.other ?_ (by omega) _) | fail))) G6
  have B6_3 : Blk w6 (b4) 62 [.int .i64 10, .int .i64 0, .string ⟨#[]⟩, .slice (some ⟨b2, 0, none⟩) 2 2] := Blk.grew (by (repeat' (first | (with_reducible assumption) | ((with_reducible refine Blk.new ?_); (first | (with_reducible rfl) | (simp only [World.size_alloc, World.size_setCell, size_drewN]; done))) | (with_reducible refine Blk.alloc ?_ _) | (with_reducible refine Blk.drewN ?_ _) | (with_reducible refine Blk.drew ?_) | (refine Blk.other ?_ (by omega) _) | fail))) G6
  have B6_4 : Blk w6 (w4.heap.size) 62 [.int .i64 2, .int .i64 0, .string ⟨#[]⟩, .slice none 0 0] := Blk.grew (by (repeat' (first | (with_reducible assumption) | ((with_reducible refine Blk.new ?_); (first | (with_reducible rfl) | (simp only [World.size_alloc, World.size_setCell, size_drewN]; done))) | (with_reducible refine Blk.alloc ?_ _) | (with_reducible refine Blk.drewN ?_ _) | (with_reducible refine Blk.drew ?_) | (refine Blk.other ?_ (by omega) _) | fail))) G6
  have B6_5 : Blk w6 (w4.heap.size + 1) 62 [.int .i64 2, .int .i64 1, .string ⟨#[]⟩, .slice none 0 0] := Blk.grew (by (repeat' (first | (with_reducible assumption) | ((with_reducible refine Blk.new ?_); (first | (with_reducible rfl) | (simp only [World.size_alloc, World.size_setCell, size_drewN]; done))) | (with_reducible refine Blk.alloc ?_ _) | (with_reducible refine Blk.drewN ?_ _) | (with_reducible refine Blk.drew ?_) | (refine Blk.other ?_ (by omega) _) | fail))) G6
  have B6_6 : Blk w6 (w4.heap.size + 1 + 1) 62 [.int .i64 2, .int .i64 0, .string ⟨#[]⟩, .slice none 0 0, .int .i64 10, .int .i64 0, .string ⟨#[]⟩, .slice (some ⟨b2, 0, none⟩) 2 2] := Blk.grew (by (repeat' (first | (with_reducible assumption) | ((with_reducible refine Blk.new ?_); (first | (with_reducible rfl) | (simp only [World.size_alloc, World.size_setCell, size_drewN]; done))) | (with_reducible refine Blk.alloc ?_ _) | (with_reducible refine Blk.drewN ?_ _) | (with_reducible refine Blk.drew ?_) | (refine Blk.other ?_ (by omega) _) | fail))) G6
  have z6 := G6.size
  try simp only [World.size_alloc, World.size_setCell, size_drewN] at z6
  replace G6 := hide G6
  have t6_0 := B6_0.lt
  have d6_0_0 := B6_0.cell 0 rfl
  have e6_0_0 := B6_0.free 0
  have d6_0_1 := B6_0.cell 1 rfl
  have e6_0_1 := B6_0.free 1
  have d6_0_2 := B6_0.cell 2 rfl
  have e6_0_2 := B6_0.free 2
  have d6_0_3 := B6_0.cell 3 rfl
  have e6_0_3 := B6_0.free 3
  have d6_0_4 := B6_0.cell 4 rfl
  have e6_0_4 := B6_0.free 4
  have d6_0_5 := B6_0.cell 5 rfl
  have e6_0_5 := B6_0.free 5
  have d6_0_6 := B6_0.cell 6 rfl
  have e6_0_6 := B6_0.free 6
  have d6_0_7 := B6_0.cell 7 rfl
  have e6_0_7 := B6_0.free 7
  have t6_1 := B6_1.lt
  have d6_1_0 := B6_1.cell 0 rfl
  have e6_1_0 := B6_1.free 0
  have d6_1_1 := B6_1.cell 1 rfl
  have e6_1_1 := B6_1.free 1
  have d6_1_2 := B6_1.cell 2 rfl
  have e6_1_2 := B6_1.free 2
  have d6_1_3 := B6_1.cell 3 rfl
  have e6_1_3 := B6_1.free 3
  have t6_2 := B6_2.lt
  have d6_2_0 := B6_2.cell 0 rfl
  have e6_2_0 := B6_2.free 0
  have d6_2_1 := B6_2.cell 1 rfl
  have e6_2_1 := B6_2.free 1
  have d6_2_2 := B6_2.cell 2 rfl
  have e6_2_2 := B6_2.free 2
  have d6_2_3 := B6_2.cell 3 rfl
  have e6_2_3 := B6_2.free 3
  have d6_2_4 := B6_2.cell 4 rfl
  have e6_2_4 := B6_2.free 4
  have d6_2_5 := B6_2.cell 5 rfl
  have e6_2_5 := B6_2.free 5
  have d6_2_6 := B6_2.cell 6 rfl
  have e6_2_6 := B6_2.free 6
  have d6_2_7 := B6_2.cell 7 rfl
  have e6_2_7 := B6_2.free 7
  have t6_3 := B6_3.lt
  have d6_3_0 := B6_3.cell 0 rfl
  have e6_3_0 := B6_3.free 0
  have d6_3_1 := B6_3.cell 1 rfl
  have e6_3_1 := B6_3.free 1
  have d6_3_2 := B6_3.cell 2 rfl
  have e6_3_2 := B6_3.free 2
  have d6_3_3 := B6_3.cell 3 rfl
  have e6_3_3 := B6_3.free 3
  have t6_4 := B6_4.lt
  have d6_4_0 := B6_4.cell 0 rfl
  have e6_4_0 := B6_4.free 0
  have d6_4_1 := B6_4.cell 1 rfl
  have e6_4_1 := B6_4.free 1
  have d6_4_2 := B6_4.cell 2 rfl
  have e6_4_2 := B6_4.free 2
  have d6_4_3 := B6_4.cell 3 rfl
  have e6_4_3 := B6_4.free 3
  have t6_5 := B6_5.lt
  have d6_5_0 := B6_5.cell 0 rfl
  have e6_5_0 := B6_5.free 0
  have d6_5_1 := B6_5.cell 1 rfl
  have e6_5_1 := B6_5.free 1
  have d6_5_2 := B6_5.cell 2 rfl
  have e6_5_2 := B6_5.free 2
  have d6_5_3 := B6_5.cell 3 rfl
  have e6_5_3 := B6_5.free 3
  have t6_6 := B6_6.lt
  have d6_6_0 := B6_6.cell 0 rfl
  have e6_6_0 := B6_6.free 0
  have d6_6_1 := B6_6.cell 1 rfl
  have e6_6_1 := B6_6.free 1
  have d6_6_2 := B6_6.cell 2 rfl
  have e6_6_2 := B6_6.free 2
  have d6_6_3 := B6_6.cell 3 rfl
  have e6_6_3 := B6_6.free 3
  have d6_6_4 := B6_6.cell 4 rfl
  have e6_6_4 := B6_6.free 4
  have d6_6_5 := B6_6.cell 5 rfl
  have e6_6_5 := B6_6.free 5
  have d6_6_6 := B6_6.cell 6 rfl
  have e6_6_6 := B6_6.free 6
  have d6_6_7 := B6_6.cell 7 rfl
  have e6_6_7 := B6_6.free 7
  go_wp2_with fail
  refine name_calls fun w7 h7 => ?_
  have G7 : Grew w w7 := by
    rw [h7]
    repeat' (first | (with_reducible exact Grew.refl _) | (with_reducible refine Grew.setCell ?_ ?_ _) | (with_reducible refine Grew.drewN ?_ _) | (with_reducible refine Grew.reD ?_ _) | (with_reducible refine Grew.alloc ?_ _) | (with_reducible refine Grew.trans ?_ G7.out) | (with_reducible refine Grew.trans ?_ G6.out) | (with_reducible refine Grew.trans ?_ G5.out) | (with_reducible refine Grew.trans ?_ G4.out) | (with_reducible refine Grew.trans ?_ G3.out) | (with_reducible refine Grew.trans ?_ G2.out) | (with_reducible refine Grew.trans ?_ G1.out) | (dsimp only; omega))
  have B7_0 : Blk w7 (w2.heap.size) 62 [.int .i64 1, .int .i64 1, .string ⟨#[]⟩, .slice none 0 0, .int .i64 1, .int .i64 0, .string ⟨#[]⟩, .slice none 0 0] := by (rw [h7]; repeat' (first | (with_reducible assumption) | ((with_reducible refine Blk.new ?_); (first | (with_reducible rfl) | (simp only [World.size_alloc, World.size_setCell, size_drewN]; done))) | (with_reducible refine Blk.alloc ?_ _) | (with_reducible refine Blk.drewN ?_ _) | (with_reducible refine Blk.drew ?_) | (refine Blk.other ?_ (by omega) _) | fail))
  have B7_1 : Blk w7 (w2.heap.size + 1) 62 [.int .i64 8, .int .i64 0, .string ⟨#[]⟩, .slice (some ⟨w2.heap.size, 0, none⟩) 2 2] := by (rw [h7]; repeat' (first | (with_reducible assumption) | ((with_reducible refine Blk.new ?_); (first | (with_reducible rfl) | (simp only [World.size_alloc, World.size_setCell, size_drewN]; done))) | (with_reducible refine Blk.alloc ?_ _) | (with_reducible refine Blk.drewN ?_ _) | (with_reducible refine Blk.drew ?_) | (refine Blk.other ?_ (by omega) _) | fail))
  have B7_2 : Blk w7 (b2) 62 [.int .i64 8, .int .i64 0, .string ⟨#[]⟩, .slice (some ⟨w2.heap.size, 0, none⟩) 2 2, .int .i64 1, .int .i64 0, .string ⟨#[]⟩, .slice none 0 0] := by (rw [h7]; repeat' (first | (with_reducible assumption) | ((with_reducible refine Blk.new ?_); (first | (with_reducible rfl) | (simp only [World.size_alloc, World.size_setCell, size_drewN]; done))) | (with_reducible refine Blk.alloc ?_ _) | (with_reducible refine Blk.drewN ?_ _) | (with_reducible refine Blk.drew ?_) | (refine Blk.other ?_ (by omega) _) | fail))
  have B7_3 : Blk w7 (b4) 62 [.int .i64 10, .int .i64 0, .string ⟨#[]⟩, .slice (some ⟨b2, 0, none⟩) 2 2] := by (rw [h7]; repeat' (first | (with_reducible assumption) | ((with_reducible refine Blk.new ?_); (first | (with_reducible rfl) | (simp only [World.size_alloc, World.size_setCell, size_drewN]; done))) | (with_reducible refine Blk.alloc ?_ _) | (with_reducible refine Blk.drewN ?_ _) | (with_reducible refine Blk.drew ?_) | (refine Blk.other ?_ (by omega) _) | fail))
  have B7_4 : Blk w7 (w4.heap.size) 62 [.int .i64 2, .int .i64 0, .string ⟨#[]⟩, .slice none 0 0] := by (rw [h7]; repeat' (first | (with_reducible assumption) | ((with_reducible refine Blk.new ?_); (first | (with_reducible rfl) | (simp only [World.size_alloc, World.size_setCell, size_drewN]; done))) | (with_reducible refine Blk.alloc ?_ _) | (with_reducible refine Blk.drewN ?_ _) | (with_reducible refine Blk.drew ?_) | (refine Blk.other ?_ (by omega) _) | fail))
  have B7_5 : Blk w7 (w4.heap.size + 1) 62 [.int .i64 2, .int .i64 1, .string ⟨#[]⟩, .slice none 0 0] := by (rw [h7]; repeat' (first | (with_reducible assumption) | ((with_reducible refine Blk.new ?_); (first | (with_reducible rfl) | (simp only [World.size_alloc, World.size_setCell, size_drewN]; done))) | (with_reducible refine Blk.alloc ?_ _) | (with_reducible refine Blk.drewN ?_ _) | (with_reducible refine Blk.drew ?_) | (refine Blk.other ?_ (by omega) _) | fail))
  have B7_6 : Blk w7 (w6.heap.size) 26 [.int .i64 2, .int .i64 0, .string ⟨#[]⟩, .slice none 0 0] := by (rw [h7]; repeat' (first | (with_reducible assumption) | ((with_reducible refine Blk.new ?_); (first | (with_reducible rfl) | (simp only [World.size_alloc, World.size_setCell, size_drewN]; done))) | (with_reducible refine Blk.alloc ?_ _) | (with_reducible refine Blk.drewN ?_ _) | (with_reducible refine Blk.drew ?_) | (refine Blk.other ?_ (by omega) _) | fail))
  have B7_7 : Blk w7 (w6.heap.size + 1) 62 [.int .i64 2, .int .i64 1, .string ⟨#[]⟩, .slice none 0 0, .int .i64 10, .int .i64 0, .string ⟨#[]⟩, .slice (some ⟨b2, 0, none⟩) 2 2] := by (rw [h7]; repeat' (first | (with_reducible assumption) | ((with_reducible refine Blk.new ?_); (first | (with_reducible rfl) | (simp only [World.size_alloc, World.size_setCell, size_drewN]; done))) | (with_reducible refine Blk.alloc ?_ _) | (with_reducible refine Blk.drewN ?_ _) | (with_reducible refine Blk.drew ?_) | (refine Blk.other ?_ (by omega) _) | fail))
  have z7 := G7.size
  replace G7 := hide G7
  clear h7
  have t7_0 := B7_0.lt
  have d7_0_0 := B7_0.cell 0 rfl
  have e7_0_0 := B7_0.free 0
  have d7_0_1 := B7_0.cell 1 rfl
  have e7_0_1 := B7_0.free 1
  have d7_0_2 := B7_0.cell 2 rfl
  have e7_0_2 := B7_0.free 2
  have d7_0_3 := B7_0.cell 3 rfl
  have e7_0_3 := B7_0.free 3
  have d7_0_4 := B7_0.cell 4 rfl
  have e7_0_4 := B7_0.free 4
  have d7_0_5 := B7_0.cell 5 rfl
  have e7_0_5 := B7_0.free 5
  have d7_0_6 := B7_0.cell 6 rfl
  have e7_0_6 := B7_0.free 6
  have d7_0_7 := B7_0.cell 7 rfl
  have e7_0_7 := B7_0.free 7
  have t7_1 := B7_1.lt
  have d7_1_0 := B7_1.cell 0 rfl
  have e7_1_0 := B7_1.free 0
  have d7_1_1 := B7_1.cell 1 rfl
  have e7_1_1 := B7_1.free 1
  have d7_1_2 := B7_1.cell 2 rfl
  have e7_1_2 := B7_1.free 2
  have d7_1_3 := B7_1.cell 3 rfl
  have e7_1_3 := B7_1.free 3
  have t7_2 := B7_2.lt
  have d7_2_0 := B7_2.cell 0 rfl
  have e7_2_0 := B7_2.free 0
  have d7_2_1 := B7_2.cell 1 rfl
  have e7_2_1 := B7_2.free 1
  have d7_2_2 := B7_2.cell 2 rfl
  have e7_2_2 := B7_2.free 2
  have d7_2_3 := B7_2.cell 3 rfl
  have e7_2_3 := B7_2.free 3
  have d7_2_4 := B7_2.cell 4 rfl
  have e7_2_4 := B7_2.free 4
  have d7_2_5 := B7_2.cell 5 rfl
  have e7_2_5 := B7_2.free 5
  have d7_2_6 := B7_2.cell 6 rfl
  have e7_2_6 := B7_2.free 6
  have d7_2_7 := B7_2.cell 7 rfl
  have e7_2_7 := B7_2.free 7
  have t7_3 := B7_3.lt
  have d7_3_0 := B7_3.cell 0 rfl
  have e7_3_0 := B7_3.free 0
  have d7_3_1 := B7_3.cell 1 rfl
  have e7_3_1 := B7_3.free 1
  have d7_3_2 := B7_3.cell 2 rfl
  have e7_3_2 := B7_3.free 2
  have d7_3_3 := B7_3.cell 3 rfl
  have e7_3_3 := B7_3.free 3
  have t7_4 := B7_4.lt
  have d7_4_0 := B7_4.cell 0 rfl
  have e7_4_0 := B7_4.free 0
  have d7_4_1 := B7_4.cell 1 rfl
  have e7_4_1 := B7_4.free 1
  have d7_4_2 := B7_4.cell 2 rfl
  have e7_4_2 := B7_4.free 2
  have d7_4_3 := B7_4.cell 3 rfl
  have e7_4_3 := B7_4.free 3
  have t7_5 := B7_5.lt
  have d7_5_0 := B7_5.cell 0 rfl
  have e7_5_0 := B7_5.free 0
  have d7_5_1 := B7_5.cell 1 rfl
  have e7_5_1 := B7_5.free 1
  have d7_5_2 := B7_5.cell 2 rfl
  have e7_5_2 := B7_5.free 2
  have d7_5_3 := B7_5.cell 3 rfl
  have e7_5_3 := B7_5.free 3
  have t7_6 := B7_6.lt
  have d7_6_0 := B7_6.cell 0 rfl
  have e7_6_0 := B7_6.free 0
  have d7_6_1 := B7_6.cell 1 rfl
  have e7_6_1 := B7_6.free 1
  have d7_6_2 := B7_6.cell 2 rfl
  have e7_6_2 := B7_6.free 2
  have d7_6_3 := B7_6.cell 3 rfl
  have e7_6_3 := B7_6.free 3
  have t7_7 := B7_7.lt
  have d7_7_0 := B7_7.cell 0 rfl
  have e7_7_0 := B7_7.free 0
  have d7_7_1 := B7_7.cell 1 rfl
  have e7_7_1 := B7_7.free 1
  have d7_7_2 := B7_7.cell 2 rfl
  have e7_7_2 := B7_7.free 2
  have d7_7_3 := B7_7.cell 3 rfl
  have e7_7_3 := B7_7.free 3
  have d7_7_4 := B7_7.cell 4 rfl
  have e7_7_4 := B7_7.free 4
  have d7_7_5 := B7_7.cell 5 rfl
  have e7_7_5 := B7_7.free 5
  have d7_7_6 := B7_7.cell 6 rfl
  have e7_7_6 := B7_7.free 6
  have d7_7_7 := B7_7.cell 7 rfl
  have e7_7_7 := B7_7.free 7
  refine ((E2 w7 _ _ _ ⟨B7_0, B7_2⟩ B7_7).out).mono ?_
  rintro e w8 ⟨rfl, G8⟩
  try (with_reducible replace G8 := Grew.undrawn G8)
  have B8_0 : Blk w8 (w2.heap.size) 62 [.int .i64 1, .int .i64 1, .string ⟨#[]⟩, .slice none 0 0, .int .i64 1, .int .i64 0, .string ⟨#[]⟩, .slice none 0 0] := Blk.grew (by (repeat' (first | (with_reducible assumption) | ((with_reducible refine Blk.new ?_); (first | (with_reducible rfl) | (simp only [World.size_alloc, World.size_setCell, size_drewN]; done))) | (with_reducible refine Blk.alloc ?_ _) | (with_reducible refine Blk.drewN ?_ _) | (with_reducible refine Blk.drew ?_) | (refine Blk.other ?_ (by omega) _) | fail))) G8
  have B8_1 : Blk w8 (w2.heap.size + 1) 62 [.int .i64 8, .int .i64 0, .string ⟨#[]⟩, .slice (some ⟨w2.heap.size, 0, none⟩) 2 2] := Blk.grew (by (repeat' (first | (with_reducible assumption) | ((with_reducible refine Blk.new ?_); (first | (with_reducible rfl) | (simp only [World.size_alloc, World.size_setCell, size_drewN]; done))) | (with_reducible refine Blk.alloc ?_ _) | (with_reducible refine Blk.drewN ?_ _) | (with_reducible refine Blk.drew ?_) | (refine Blk.other ?_ (by omega) _) | fail))) G8
  have B8_2 : Blk w8 (b2) 62 [.int .i64 8, .int .i64 0, .string ⟨#[]⟩, .slice (some ⟨w2.heap.size, 0, none⟩) 2 2, .int .i64 1, .int .i64 0, .string ⟨#[]⟩, .slice none 0 0] := Blk.grew (by (repeat' (first | (with_reducible assumption) | ((with_reducible refine Blk.new ?_); (first | (with_reducible rfl) | (simp only [World.size_alloc, World.size_setCell, size_drewN]; done))) | (with_reducible refine Blk.alloc ?_ _) | (with_reducible refine Blk.drewN ?_ _) | (with_reducible refine Blk.drew ?_) | (refine Blk.other ?_ (by omega) _) | fail))) G8
  have B8_3 : Blk w8 (b4) 62 [.int .i64 10, .int .i64 0, .string ⟨#[]⟩, .slice (some ⟨b2, 0, none⟩) 2 2] := Blk.grew (by (repeat' (first | (with_reducible assumption) | ((with_reducible refine Blk.new ?_); (first | (with_reducible rfl) | (simp only [World.size_alloc, World.size_setCell, size_drewN]; done))) | (with_reducible refine Blk.alloc ?_ _) | (with_reducible refine Blk.drewN ?_ _) | (with_reducible refine Blk.drew ?_) | (refine Blk.other ?_ (by omega) _) | fail))) G8
  have B8_4 : Blk w8 (w4.heap.size) 62 [.int .i64 2, .int .i64 0, .string ⟨#[]⟩, .slice none 0 0] := Blk.grew (by (repeat' (first | (with_reducible assumption) | ((with_reducible refine Blk.new ?_); (first | (with_reducible rfl) | (simp only [World.size_alloc, World.size_setCell, size_drewN]; done))) | (with_reducible refine Blk.alloc ?_ _) | (with_reducible refine Blk.drewN ?_ _) | (with_reducible refine Blk.drew ?_) | (refine Blk.other ?_ (by omega) _) | fail))) G8
  have B8_5 : Blk w8 (w4.heap.size + 1) 62 [.int .i64 2, .int .i64 1, .string ⟨#[]⟩, .slice none 0 0] := Blk.grew (by (repeat' (first | (with_reducible assumption) | ((with_reducible refine Blk.new ?_); (first | (with_reducible rfl) | (simp only [World.size_alloc, World.size_setCell, size_drewN]; done))) | (with_reducible refine Blk.alloc ?_ _) | (with_reducible refine Blk.drewN ?_ _) | (with_reducible refine Blk.drew ?_) | (refine Blk.other ?_ (by omega) _) | fail))) G8
  have B8_6 : Blk w8 (w6.heap.size) 26 [.int .i64 2, .int .i64 0, .string ⟨#[]⟩, .slice none 0 0] := Blk.grew (by (repeat' (first | (with_reducible assumption) | ((with_reducible refine Blk.new ?_); (first | (with_reducible rfl) | (simp only [World.size_alloc, World.size_setCell, size_drewN]; done))) | (with_reducible refine Blk.alloc ?_ _) | (with_reducible refine Blk.drewN ?_ _) | (with_reducible refine Blk.drew ?_) | (refine Blk.other ?_ (by omega) _) | fail))) G8
  have B8_7 : Blk w8 (w6.heap.size + 1) 62 [.int .i64 2, .int .i64 1, .string ⟨#[]⟩, .slice none 0 0, .int .i64 10, .int .i64 0, .string ⟨#[]⟩, .slice (some ⟨b2, 0, none⟩) 2 2] := Blk.grew (by (repeat' (first | (with_reducible assumption) | ((with_reducible refine Blk.new ?_); (first | (with_reducible rfl) | (simp only [World.size_alloc, World.size_setCell, size_drewN]; done))) | (with_reducible refine Blk.alloc ?_ _) | (with_reducible refine Blk.drewN ?_ _) | (with_reducible refine Blk.drew ?_) | (refine Blk.other ?_ (by omega) _) | fail))) G8
  have z8 := G8.size
  try simp only [World.size_alloc, World.size_setCell, size_drewN] at z8
  replace G8 := hide G8
  have t8_0 := B8_0.lt
  have d8_0_0 := B8_0.cell 0 rfl
  have e8_0_0 := B8_0.free 0
  have d8_0_1 := B8_0.cell 1 rfl
  have e8_0_1 := B8_0.free 1
  have d8_0_2 := B8_0.cell 2 rfl
  have e8_0_2 := B8_0.free 2
  have d8_0_3 := B8_0.cell 3 rfl
  have e8_0_3 := B8_0.free 3
  have d8_0_4 := B8_0.cell 4 rfl
  have e8_0_4 := B8_0.free 4
  have d8_0_5 := B8_0.cell 5 rfl
  have e8_0_5 := B8_0.free 5
  have d8_0_6 := B8_0.cell 6 rfl
  have e8_0_6 := B8_0.free 6
  have d8_0_7 := B8_0.cell 7 rfl
  have e8_0_7 := B8_0.free 7
  have t8_1 := B8_1.lt
  have d8_1_0 := B8_1.cell 0 rfl
  have e8_1_0 := B8_1.free 0
  have d8_1_1 := B8_1.cell 1 rfl
  have e8_1_1 := B8_1.free 1
  have d8_1_2 := B8_1.cell 2 rfl
  have e8_1_2 := B8_1.free 2
  have d8_1_3 := B8_1.cell 3 rfl
  have e8_1_3 := B8_1.free 3
  have t8_2 := B8_2.lt
  have d8_2_0 := B8_2.cell 0 rfl
  have e8_2_0 := B8_2.free 0
  have d8_2_1 := B8_2.cell 1 rfl
  have e8_2_1 := B8_2.free 1
  have d8_2_2 := B8_2.cell 2 rfl
  have e8_2_2 := B8_2.free 2
  have d8_2_3 := B8_2.cell 3 rfl
  have e8_2_3 := B8_2.free 3
  have d8_2_4 := B8_2.cell 4 rfl
  have e8_2_4 := B8_2.free 4
  have d8_2_5 := B8_2.cell 5 rfl
  have e8_2_5 := B8_2.free 5
  have d8_2_6 := B8_2.cell 6 rfl
  have e8_2_6 := B8_2.free 6
  have d8_2_7 := B8_2.cell 7 rfl
  have e8_2_7 := B8_2.free 7
  have t8_3 := B8_3.lt
  have d8_3_0 := B8_3.cell 0 rfl
  have e8_3_0 := B8_3.free 0
  have d8_3_1 := B8_3.cell 1 rfl
  have e8_3_1 := B8_3.free 1
  have d8_3_2 := B8_3.cell 2 rfl
  have e8_3_2 := B8_3.free 2
  have d8_3_3 := B8_3.cell 3 rfl
  have e8_3_3 := B8_3.free 3
  have t8_4 := B8_4.lt
  have d8_4_0 := B8_4.cell 0 rfl
  have e8_4_0 := B8_4.free 0
  have d8_4_1 := B8_4.cell 1 rfl
  have e8_4_1 := B8_4.free 1
  have d8_4_2 := B8_4.cell 2 rfl
  have e8_4_2 := B8_4.free 2
  have d8_4_3 := B8_4.cell 3 rfl
  have e8_4_3 := B8_4.free 3
  have t8_5 := B8_5.lt
  have d8_5_0 := B8_5.cell 0 rfl
  have e8_5_0 := B8_5.free 0
  have d8_5_1 := B8_5.cell 1 rfl
  have e8_5_1 := B8_5.free 1
  have d8_5_2 := B8_5.cell 2 rfl
  have e8_5_2 := B8_5.free 2
  have d8_5_3 := B8_5.cell 3 rfl
  have e8_5_3 := B8_5.free 3
  have t8_6 := B8_6.lt
  have d8_6_0 := B8_6.cell 0 rfl
  have e8_6_0 := B8_6.free 0
  have d8_6_1 := B8_6.cell 1 rfl
  have e8_6_1 := B8_6.free 1
  have d8_6_2 := B8_6.cell 2 rfl
  have e8_6_2 := B8_6.free 2
  have d8_6_3 := B8_6.cell 3 rfl
  have e8_6_3 := B8_6.free 3
  have t8_7 := B8_7.lt
  have d8_7_0 := B8_7.cell 0 rfl
  have e8_7_0 := B8_7.free 0
  have d8_7_1 := B8_7.cell 1 rfl
  have e8_7_1 := B8_7.free 1
  have d8_7_2 := B8_7.cell 2 rfl
  have e8_7_2 := B8_7.free 2
  have d8_7_3 := B8_7.cell 3 rfl
  have e8_7_3 := B8_7.free 3
  have d8_7_4 := B8_7.cell 4 rfl
  have e8_7_4 := B8_7.free 4
  have d8_7_5 := B8_7.cell 5 rfl
  have e8_7_5 := B8_7.free 5
  have d8_7_6 := B8_7.cell 6 rfl
  have e8_7_6 := B8_7.free 6
  have d8_7_7 := B8_7.cell 7 rfl
  have e8_7_7 := B8_7.free 7
  go_wp2_with fail
  refine name_world fun w9 h9 => ?_
  have G9 : Grew w w9 := by
    rw [h9]
    repeat' (first | (with_reducible exact Grew.refl _) | (with_reducible refine Grew.setCell ?_ ?_ _) | (with_reducible refine Grew.drewN ?_ _) | (with_reducible refine Grew.reD ?_ _) | (with_reducible refine Grew.alloc ?_ _) | (with_reducible refine Grew.trans ?_ G9.out) | (with_reducible refine Grew.trans ?_ G8.out) | (with_reducible refine Grew.trans ?_ G7.out) | (with_reducible refine Grew.trans ?_ G6.out) | (with_reducible refine Grew.trans ?_ G5.out) | (with_reducible refine Grew.trans ?_ G4.out) | (with_reducible refine Grew.trans ?_ G3.out) | (with_reducible refine Grew.trans ?_ G2.out) | (with_reducible refine Grew.trans ?_ G1.out) | (dsimp only; omega))
  have B9_0 : Blk w9 (w2.heap.size) 62 [.int .i64 1, .int .i64 1, .string ⟨#[]⟩, .slice none 0 0, .int .i64 1, .int .i64 0, .string ⟨#[]⟩, .slice none 0 0] := by (rw [h9]; repeat' (first | (with_reducible assumption) | ((with_reducible refine Blk.new ?_); (first | (with_reducible rfl) | (simp only [World.size_alloc, World.size_setCell, size_drewN]; done))) | (with_reducible refine Blk.alloc ?_ _) | (with_reducible refine Blk.drewN ?_ _) | (with_reducible refine Blk.drew ?_) | (refine Blk.other ?_ (by omega) _) | fail))
  have B9_1 : Blk w9 (w2.heap.size + 1) 62 [.int .i64 8, .int .i64 0, .string ⟨#[]⟩, .slice (some ⟨w2.heap.size, 0, none⟩) 2 2] := by (rw [h9]; repeat' (first | (with_reducible assumption) | ((with_reducible refine Blk.new ?_); (first | (with_reducible rfl) | (simp only [World.size_alloc, World.size_setCell, size_drewN]; done))) | (with_reducible refine Blk.alloc ?_ _) | (with_reducible refine Blk.drewN ?_ _) | (with_reducible refine Blk.drew ?_) | (refine Blk.other ?_ (by omega) _) | fail))
  have B9_2 : Blk w9 (b2) 62 [.int .i64 8, .int .i64 0, .string ⟨#[]⟩, .slice (some ⟨w2.heap.size, 0, none⟩) 2 2, .int .i64 1, .int .i64 0, .string ⟨#[]⟩, .slice none 0 0] := by (rw [h9]; repeat' (first | (with_reducible assumption) | ((with_reducible refine Blk.new ?_); (first | (with_reducible rfl) | (simp only [World.size_alloc, World.size_setCell, size_drewN]; done))) | (with_reducible refine Blk.alloc ?_ _) | (with_reducible refine Blk.drewN ?_ _) | (with_reducible refine Blk.drew ?_) | (refine Blk.other ?_ (by omega) _) | fail))
  have B9_3 : Blk w9 (b4) 62 [.int .i64 10, .int .i64 0, .string ⟨#[]⟩, .slice (some ⟨b2, 0, none⟩) 2 2] := by (rw [h9]; repeat' (first | (with_reducible assumption) | ((with_reducible refine Blk.new ?_); (first | (with_reducible rfl) | (simp only [World.size_alloc, World.size_setCell, size_drewN]; done))) | (with_reducible refine Blk.alloc ?_ _) | (with_reducible refine Blk.drewN ?_ _) | (with_reducible refine Blk.drew ?_) | (refine Blk.other ?_ (by omega) _) | fail))
  have B9_4 : Blk w9 (w4.heap.size) 62 [.int .i64 2, .int .i64 0, .string ⟨#[]⟩, .slice none 0 0] := by (rw [h9]; repeat' (first | (with_reducible assumption) | ((with_reducible refine Blk.new ?_); (first | (with_reducible rfl) | (simp only [World.size_alloc, World.size_setCell, size_drewN]; done))) | (with_reducible refine Blk.alloc ?_ _) | (with_reducible refine Blk.drewN ?_ _) | (with_reducible refine Blk.drew ?_) | (refine Blk.other ?_ (by omega) _) | fail))
  have B9_5 : Blk w9 (w4.heap.size + 1) 62 [.int .i64 2, .int .i64 1, .string ⟨#[]⟩, .slice none 0 0] := by (rw [h9]; repeat' (first | (with_reducible assumption) | ((with_reducible refine Blk.new ?_); (first | (with_reducible rfl) | (simp only [World.size_alloc, World.size_setCell, size_drewN]; done))) | (with_reducible refine Blk.alloc ?_ _) | (with_reducible refine Blk.drewN ?_ _) | (with_reducible refine Blk.drew ?_) | (refine Blk.other ?_ (by omega) _) | fail))
  have B9_6 : Blk w9 (w6.heap.size) 26 [.int .i64 2, .int .i64 0, .string ⟨#[]⟩, .slice none 0 0] := by (rw [h9]; repeat' (first | (with_reducible assumption) | ((with_reducible refine Blk.new ?_); (first | (with_reducible rfl) | (simp only [World.size_alloc, World.size_setCell, size_drewN]; done))) | (with_reducible refine Blk.alloc ?_ _) | (with_reducible refine Blk.drewN ?_ _) | (with_reducible refine Blk.drew ?_) | (refine Blk.other ?_ (by omega) _) | fail))
  have B9_7 : Blk w9 (w8.heap.size) 26 [.int .i64 2, .int .i64 1, .string ⟨#[]⟩, .slice none 0 0] := by (rw [h9]; repeat' (first | (with_reducible assumption) | ((with_reducible refine Blk.new ?_); (first | (with_reducible rfl) | (simp only [World.size_alloc, World.size_setCell, size_drewN]; done))) | (with_reducible refine Blk.alloc ?_ _) | (with_reducible refine Blk.drewN ?_ _) | (with_reducible refine Blk.drew ?_) | (refine Blk.other ?_ (by omega) _) | fail))
  have z9 := G9.size
  replace G9 := hide G9
  clear h9
  have t9_0 := B9_0.lt
  have d9_0_0 := B9_0.cell 0 rfl
  have e9_0_0 := B9_0.free 0
  have d9_0_1 := B9_0.cell 1 rfl
  have e9_0_1 := B9_0.free 1
  have d9_0_2 := B9_0.cell 2 rfl
  have e9_0_2 := B9_0.free 2
  have d9_0_3 := B9_0.cell 3 rfl
  have e9_0_3 := B9_0.free 3
  have d9_0_4 := B9_0.cell 4 rfl
  have e9_0_4 := B9_0.free 4
  have d9_0_5 := B9_0.cell 5 rfl
  have e9_0_5 := B9_0.free 5
  have d9_0_6 := B9_0.cell 6 rfl
  have e9_0_6 := B9_0.free 6
  have d9_0_7 := B9_0.cell 7 rfl
  have e9_0_7 := B9_0.free 7
  have t9_1 := B9_1.lt
  have d9_1_0 := B9_1.cell 0 rfl
  have e9_1_0 := B9_1.free 0
  have d9_1_1 := B9_1.cell 1 rfl
  have e9_1_1 := B9_1.free 1
  have d9_1_2 := B9_1.cell 2 rfl
  have e9_1_2 := B9_1.free 2
  have d9_1_3 := B9_1.cell 3 rfl
  have e9_1_3 := B9_1.free 3
  have t9_2 := B9_2.lt
  have d9_2_0 := B9_2.cell 0 rfl
  have e9_2_0 := B9_2.free 0
  have d9_2_1 := B9_2.cell 1 rfl
  have e9_2_1 := B9_2.free 1
  have d9_2_2 := B9_2.cell 2 rfl
  have e9_2_2 := B9_2.free 2
  have d9_2_3 := B9_2.cell 3 rfl
  have e9_2_3 := B9_2.free 3
  have d9_2_4 := B9_2.cell 4 rfl
  have e9_2_4 := B9_2.free 4
  have d9_2_5 := B9_2.cell 5 rfl
  have e9_2_5 := B9_2.free 5
  have d9_2_6 := B9_2.cell 6 rfl
  have e9_2_6 := B9_2.free 6
  have d9_2_7 := B9_2.cell 7 rfl
  have e9_2_7 := B9_2.free 7
  have t9_3 := B9_3.lt
  have d9_3_0 := B9_3.cell 0 rfl
  have e9_3_0 := B9_3.free 0
  have d9_3_1 := B9_3.cell 1 rfl
  have e9_3_1 := B9_3.free 1
  have d9_3_2 := B9_3.cell 2 rfl
  have e9_3_2 := B9_3.free 2
  have d9_3_3 := B9_3.cell 3 rfl
  have e9_3_3 := B9_3.free 3
  have t9_4 := B9_4.lt
  have d9_4_0 := B9_4.cell 0 rfl
  have e9_4_0 := B9_4.free 0
  have d9_4_1 := B9_4.cell 1 rfl
  have e9_4_1 := B9_4.free 1
  have d9_4_2 := B9_4.cell 2 rfl
  have e9_4_2 := B9_4.free 2
  have d9_4_3 := B9_4.cell 3 rfl
  have e9_4_3 := B9_4.free 3
  have t9_5 := B9_5.lt
  have d9_5_0 := B9_5.cell 0 rfl
  have e9_5_0 := B9_5.free 0
  have d9_5_1 := B9_5.cell 1 rfl
  have e9_5_1 := B9_5.free 1
  have d9_5_2 := B9_5.cell 2 rfl
  have e9_5_2 := B9_5.free 2
  have d9_5_3 := B9_5.cell 3 rfl
  have e9_5_3 := B9_5.free 3
  have t9_6 := B9_6.lt
  have d9_6_0 := B9_6.cell 0 rfl
  have e9_6_0 := B9_6.free 0
  have d9_6_1 := B9_6.cell 1 rfl
  have e9_6_1 := B9_6.free 1
  have d9_6_2 := B9_6.cell 2 rfl
  have e9_6_2 := B9_6.free 2
  have d9_6_3 := B9_6.cell 3 rfl
  have e9_6_3 := B9_6.free 3
  have t9_7 := B9_7.lt
  have d9_7_0 := B9_7.cell 0 rfl
  have e9_7_0 := B9_7.free 0
  have d9_7_1 := B9_7.cell 1 rfl
  have e9_7_1 := B9_7.free 1
  have d9_7_2 := B9_7.cell 2 rfl
  have e9_7_2 := B9_7.free 2
  have d9_7_3 := B9_7.cell 3 rfl
  have e9_7_3 := B9_7.free 3
  refine wp_region_two 12 14 [10, 13] [(42, 0), (43, 1), (44, 2), (45, 3), (46, 4), (47, 5), (48, 6), (49, 7), (41, 8), (50, 9), (51, 10), (11, 11), (12, 13)] (P6 w2.heap.size w9.heap.size n m) (fun _ v => v = .int .i64 0) (S6 m w9) (by kernel_rfl) (by kernel_rfl) (by simp) rfl (by omega) (fun k h => by simp at h; omega) S6.ext ?_
  refine lex_two 0 (by omega) (by omega) rfl rfl P6.grew ?_ ?_
  · intro vs W hG hp
    have Q := B9_5.grew hG
    have d0 := Q.cell 0 rfl
    have fr0 := Q.free 0
    have d1 := Q.cell 1 rfl
    have fr1 := Q.free 1
    have d2 := Q.cell 2 rfl
    have fr2 := Q.free 2
    have d3 := Q.cell 3 rfl
    have fr3 := Q.free 3
    simp [go_sem, evS, List.lookup, P6, Grew.refl, d0, d1, d2, d3]
  refine lex_two 1 (by omega) (by omega) rfl rfl P6.grew ?_ ?_
  · intro vs W hG hp
    simp [go_sem, evS, List.lookup, P6, Grew.refl]
  refine lex_two 2 (by omega) (by omega) rfl rfl P6.grew ?_ ?_
  · intro vs W hG hp
    have h1 := hp 1 (by omega) rfl (by kernel_rfl)
    simp only [P6] at h1
    simp [go_sem, evS, List.lookup, P6, Grew.refl, h1, a63]
  refine lex_two 3 (by omega) (by omega) rfl rfl P6.grew ?_ ?_
  · intro vs W hG hp
    have h1 := hp 2 (by omega) rfl (by kernel_rfl)
    simp only [P6] at h1
    simp [go_sem, evS, List.lookup, h1]
    refine ((KM _).out).mono ?_
    rintro e w' ⟨rfl, g⟩
    exact ⟨_, rfl, g, rfl⟩
  refine lex_two 4 (by omega) (by omega) rfl rfl P6.grew ?_ ?_
  · intro vs W hG hp
    have Q := B9_1.grew hG
    have d0 := Q.cell 0 rfl
    have fr0 := Q.free 0
    have d1 := Q.cell 1 rfl
    have fr1 := Q.free 1
    have d2 := Q.cell 2 rfl
    have fr2 := Q.free 2
    have d3 := Q.cell 3 rfl
    have fr3 := Q.free 3
    simp [go_sem, evS, List.lookup, P6, Grew.refl, d0, d1, d2, d3]
  refine lex_two 5 (by omega) (by omega) rfl rfl P6.grew ?_ ?_
  · intro vs W hG hp
    have h0 := hp 0 (by omega) rfl (by kernel_rfl)
    have h3 := hp 3 (by omega) rfl (by kernel_rfl)
    have h4 := hp 4 (by omega) rfl (by kernel_rfl)
    simp only [P6] at h0 h3 h4
    simp [go_sem, evS, List.lookup, h0, h3, h4]
    exact ⟨(Grew.refl _).alloc _, _, rfl, Blk.new rfl⟩
  refine lex_two 6 (by omega) (by omega) rfl rfl P6.grew ?_ ?_
  · intro vs W hG hp
    obtain ⟨b, h2, hB⟩ := hp 5 (by omega) rfl (by kernel_rfl)
    simp [go_sem, evS, List.lookup, h2]
    exact ⟨Grew.refl _, b, rfl, hB⟩
  refine lex_two 7 (by omega) (by omega) rfl rfl P6.grew ?_ ?_
  · intro vs W hG hp
    obtain ⟨b, h2, hB⟩ := hp 6 (by omega) rfl (by kernel_rfl)
    have hW : Bw W _ b2 := ⟨B9_0.grew hG, B9_2.grew hG⟩
    simp [go_sem, evS, List.lookup, h2]
    refine ((E3 W _ b2 b hW hB).out).mono ?_
    rintro e w' ⟨rfl, g⟩
    exact ⟨_, rfl, g, rfl⟩
  refine lex_two 8 (by omega) (by omega) rfl rfl P6.grew ?_ ?_
  · intro vs W hG hp
    have h1 := hp 7 (by omega) rfl (by kernel_rfl)
    simp only [P6] at h1
    simp [go_sem, evS, List.lookup, P6, Grew.refl, h1]
  refine lex_two 9 (by omega) (by omega) rfl rfl P6.grew ?_ ?_
  · intro vs W hG hp
    have h1 := hp 8 (by omega) rfl (by kernel_rfl)
    simp only [P6] at h1
    simp [go_sem, evS, List.lookup, P6, Grew.refl, h1]
  refine lex_two_free 10 (by omega) rfl (by omega) rfl S6.ext ?_ ?_
  · intro vs W hp _
    have h1 : vs 8 = .tuple #[nv 1 m, .int .i64 0] := by
      rcases hp with hp | hp
      · exact hp 8 (by omega) rfl (by kernel_rfl)
      · obtain ⟨b, -, -, -, h⟩ := hp; exact h
    simp [go_sem, evS, List.lookup, h1]
  refine lex_two 11 (by omega) (by omega) rfl rfl P6.grew ?_ ?_
  · intro vs W hG hp
    simp [go_sem, evS, List.lookup]
    exact ⟨(Grew.refl _).alloc _, _, rfl, Blk.new rfl, hG.size⟩
  refine lex_two_store (by omega) rfl (by kernel_rfl) rfl S6.ext ?_ ?_
  · intro vs W hG hp
    have hv9 := hp 9 (by omega) rfl
    have hv8 := hp 8 (by omega) rfl
    obtain ⟨b4, hv4, hB4, hle⟩ := hp 11 (by omega) rfl
    simp only [P6] at hv9 hv8
    have d0 := hB4.cell 0 rfl
    have fr0 := hB4.free 0
    have d1 := hB4.cell 1 rfl
    have fr1 := hB4.free 1
    have d2 := hB4.cell 2 rfl
    have fr2 := hB4.free 2
    have d3 := hB4.cell 3 rfl
    have fr3 := hB4.free 3
    have hlt := hB4.lt
    simp [go_sem, evS, List.lookup, hv9, hv4, d0, d1, d2, d3, fr0, fr1, fr2, fr3]
    exact ⟨b4, hv4, (((hB4.set' 0 _ rfl).set' 1 _ rfl).set' 2 _ rfl).set' 3 _ rfl, (((hG.setCell hle _).setCell hle _).setCell hle _).setCell hle _, hv8⟩
  refine lex_two_free 13 (by omega) rfl (by omega) rfl S6.ext ?_ ?_
  · intro vs W _ hp
    have h4 : vs 10 = .int .i64 0 := hp 10 rfl (by kernel_rfl)
    simp [go_sem, evS, List.lookup, h4]
  refine lex_nil ?_
  rintro vs w10 ⟨⟨h, -, -⟩ | ⟨-, -, b6, hv11, hB6, hG, -⟩, hv13⟩
  · cases h
  replace hv13 := hv13 13 rfl rfl
  simp only [fillS, List.foldl_cons, List.foldl_nil, hv11, hv13]
  generalize vs 0 = vx0
  generalize vs 1 = vx1
  generalize vs 2 = vx2
  generalize vs 3 = vx3
  generalize vs 4 = vx4
  generalize vs 5 = vx5
  generalize vs 6 = vx6
  generalize vs 7 = vx7
  generalize vs 8 = vx8
  generalize vs 9 = vx9
  generalize vs 10 = vx10
  clear hv13 hv11 vs
  have G10 := hide hG
  have B10_0 := B9_0.grew hG
  have B10_1 := B9_1.grew hG
  have B10_2 := B9_2.grew hG
  have B10_3 := B9_3.grew hG
  have B10_4 := B9_4.grew hG
  have B10_5 := B9_5.grew hG
  have B10_6 := B9_6.grew hG
  have B10_7 := B9_7.grew hG
  have B10_8 := hB6
  have z10 := hG.size
  clear hG hB6
  have t10_0 := B10_0.lt
  have d10_0_0 := B10_0.cell 0 rfl
  have e10_0_0 := B10_0.free 0
  have d10_0_1 := B10_0.cell 1 rfl
  have e10_0_1 := B10_0.free 1
  have d10_0_2 := B10_0.cell 2 rfl
  have e10_0_2 := B10_0.free 2
  have d10_0_3 := B10_0.cell 3 rfl
  have e10_0_3 := B10_0.free 3
  have d10_0_4 := B10_0.cell 4 rfl
  have e10_0_4 := B10_0.free 4
  have d10_0_5 := B10_0.cell 5 rfl
  have e10_0_5 := B10_0.free 5
  have d10_0_6 := B10_0.cell 6 rfl
  have e10_0_6 := B10_0.free 6
  have d10_0_7 := B10_0.cell 7 rfl
  have e10_0_7 := B10_0.free 7
  have t10_1 := B10_1.lt
  have d10_1_0 := B10_1.cell 0 rfl
  have e10_1_0 := B10_1.free 0
  have d10_1_1 := B10_1.cell 1 rfl
  have e10_1_1 := B10_1.free 1
  have d10_1_2 := B10_1.cell 2 rfl
  have e10_1_2 := B10_1.free 2
  have d10_1_3 := B10_1.cell 3 rfl
  have e10_1_3 := B10_1.free 3
  have t10_2 := B10_2.lt
  have d10_2_0 := B10_2.cell 0 rfl
  have e10_2_0 := B10_2.free 0
  have d10_2_1 := B10_2.cell 1 rfl
  have e10_2_1 := B10_2.free 1
  have d10_2_2 := B10_2.cell 2 rfl
  have e10_2_2 := B10_2.free 2
  have d10_2_3 := B10_2.cell 3 rfl
  have e10_2_3 := B10_2.free 3
  have d10_2_4 := B10_2.cell 4 rfl
  have e10_2_4 := B10_2.free 4
  have d10_2_5 := B10_2.cell 5 rfl
  have e10_2_5 := B10_2.free 5
  have d10_2_6 := B10_2.cell 6 rfl
  have e10_2_6 := B10_2.free 6
  have d10_2_7 := B10_2.cell 7 rfl
  have e10_2_7 := B10_2.free 7
  have t10_3 := B10_3.lt
  have d10_3_0 := B10_3.cell 0 rfl
  have e10_3_0 := B10_3.free 0
  have d10_3_1 := B10_3.cell 1 rfl
  have e10_3_1 := B10_3.free 1
  have d10_3_2 := B10_3.cell 2 rfl
  have e10_3_2 := B10_3.free 2
  have d10_3_3 := B10_3.cell 3 rfl
  have e10_3_3 := B10_3.free 3
  have t10_4 := B10_4.lt
  have d10_4_0 := B10_4.cell 0 rfl
  have e10_4_0 := B10_4.free 0
  have d10_4_1 := B10_4.cell 1 rfl
  have e10_4_1 := B10_4.free 1
  have d10_4_2 := B10_4.cell 2 rfl
  have e10_4_2 := B10_4.free 2
  have d10_4_3 := B10_4.cell 3 rfl
  have e10_4_3 := B10_4.free 3
  have t10_5 := B10_5.lt
  have d10_5_0 := B10_5.cell 0 rfl
  have e10_5_0 := B10_5.free 0
  have d10_5_1 := B10_5.cell 1 rfl
  have e10_5_1 := B10_5.free 1
  have d10_5_2 := B10_5.cell 2 rfl
  have e10_5_2 := B10_5.free 2
  have d10_5_3 := B10_5.cell 3 rfl
  have e10_5_3 := B10_5.free 3
  have t10_6 := B10_6.lt
  have d10_6_0 := B10_6.cell 0 rfl
  have e10_6_0 := B10_6.free 0
  have d10_6_1 := B10_6.cell 1 rfl
  have e10_6_1 := B10_6.free 1
  have d10_6_2 := B10_6.cell 2 rfl
  have e10_6_2 := B10_6.free 2
  have d10_6_3 := B10_6.cell 3 rfl
  have e10_6_3 := B10_6.free 3
  have t10_7 := B10_7.lt
  have d10_7_0 := B10_7.cell 0 rfl
  have e10_7_0 := B10_7.free 0
  have d10_7_1 := B10_7.cell 1 rfl
  have e10_7_1 := B10_7.free 1
  have d10_7_2 := B10_7.cell 2 rfl
  have e10_7_2 := B10_7.free 2
  have d10_7_3 := B10_7.cell 3 rfl
  have e10_7_3 := B10_7.free 3
  have t10_8 := B10_8.lt
  have d10_8_0 := B10_8.cell 0 rfl
  have e10_8_0 := B10_8.free 0
  have d10_8_1 := B10_8.cell 1 rfl
  have e10_8_1 := B10_8.free 1
  have d10_8_2 := B10_8.cell 2 rfl
  have e10_8_2 := B10_8.free 2
  have d10_8_3 := B10_8.cell 3 rfl
  have e10_8_3 := B10_8.free 3
  go_simp
  go_wp2_with fail
  refine name_calls fun w11 h11 => ?_
  have G11 : Grew w w11 := by
    rw [h11]
    repeat' (first | (with_reducible exact Grew.refl _) | (with_reducible refine Grew.setCell ?_ ?_ _) | (with_reducible refine Grew.drewN ?_ _) | (with_reducible refine Grew.reD ?_ _) | (with_reducible refine Grew.alloc ?_ _) | (with_reducible refine Grew.trans ?_ G11.out) | (with_reducible refine Grew.trans ?_ G10.out) | (with_reducible refine Grew.trans ?_ G9.out) | (with_reducible refine Grew.trans ?_ G8.out) | (with_reducible refine Grew.trans ?_ G7.out) | (with_reducible refine Grew.trans ?_ G6.out) | (with_reducible refine Grew.trans ?_ G5.out) | (with_reducible refine Grew.trans ?_ G4.out) | (with_reducible refine Grew.trans ?_ G3.out) | (with_reducible refine Grew.trans ?_ G2.out) | (with_reducible refine Grew.trans ?_ G1.out) | (dsimp only; omega))
  have B11_0 : Blk w11 (w2.heap.size) 62 [.int .i64 1, .int .i64 1, .string ⟨#[]⟩, .slice none 0 0, .int .i64 1, .int .i64 0, .string ⟨#[]⟩, .slice none 0 0] := by (rw [h11]; repeat' (first | (with_reducible assumption) | ((with_reducible refine Blk.new ?_); (first | (with_reducible rfl) | (simp only [World.size_alloc, World.size_setCell, size_drewN]; done))) | (with_reducible refine Blk.alloc ?_ _) | (with_reducible refine Blk.drewN ?_ _) | (with_reducible refine Blk.drew ?_) | (refine Blk.other ?_ (by omega) _) | fail))
  have B11_1 : Blk w11 (w2.heap.size + 1) 62 [.int .i64 8, .int .i64 0, .string ⟨#[]⟩, .slice (some ⟨w2.heap.size, 0, none⟩) 2 2] := by (rw [h11]; repeat' (first | (with_reducible assumption) | ((with_reducible refine Blk.new ?_); (first | (with_reducible rfl) | (simp only [World.size_alloc, World.size_setCell, size_drewN]; done))) | (with_reducible refine Blk.alloc ?_ _) | (with_reducible refine Blk.drewN ?_ _) | (with_reducible refine Blk.drew ?_) | (refine Blk.other ?_ (by omega) _) | fail))
  have B11_2 : Blk w11 (b2) 62 [.int .i64 8, .int .i64 0, .string ⟨#[]⟩, .slice (some ⟨w2.heap.size, 0, none⟩) 2 2, .int .i64 1, .int .i64 0, .string ⟨#[]⟩, .slice none 0 0] := by (rw [h11]; repeat' (first | (with_reducible assumption) | ((with_reducible refine Blk.new ?_); (first | (with_reducible rfl) | (simp only [World.size_alloc, World.size_setCell, size_drewN]; done))) | (with_reducible refine Blk.alloc ?_ _) | (with_reducible refine Blk.drewN ?_ _) | (with_reducible refine Blk.drew ?_) | (refine Blk.other ?_ (by omega) _) | fail))
  have B11_3 : Blk w11 (b4) 62 [.int .i64 10, .int .i64 0, .string ⟨#[]⟩, .slice (some ⟨b2, 0, none⟩) 2 2] := by (rw [h11]; repeat' (first | (with_reducible assumption) | ((with_reducible refine Blk.new ?_); (first | (with_reducible rfl) | (simp only [World.size_alloc, World.size_setCell, size_drewN]; done))) | (with_reducible refine Blk.alloc ?_ _) | (with_reducible refine Blk.drewN ?_ _) | (with_reducible refine Blk.drew ?_) | (refine Blk.other ?_ (by omega) _) | fail))
  have B11_4 : Blk w11 (w4.heap.size) 62 [.int .i64 2, .int .i64 0, .string ⟨#[]⟩, .slice none 0 0] := by (rw [h11]; repeat' (first | (with_reducible assumption) | ((with_reducible refine Blk.new ?_); (first | (with_reducible rfl) | (simp only [World.size_alloc, World.size_setCell, size_drewN]; done))) | (with_reducible refine Blk.alloc ?_ _) | (with_reducible refine Blk.drewN ?_ _) | (with_reducible refine Blk.drew ?_) | (refine Blk.other ?_ (by omega) _) | fail))
  have B11_5 : Blk w11 (w4.heap.size + 1) 62 [.int .i64 2, .int .i64 1, .string ⟨#[]⟩, .slice none 0 0] := by (rw [h11]; repeat' (first | (with_reducible assumption) | ((with_reducible refine Blk.new ?_); (first | (with_reducible rfl) | (simp only [World.size_alloc, World.size_setCell, size_drewN]; done))) | (with_reducible refine Blk.alloc ?_ _) | (with_reducible refine Blk.drewN ?_ _) | (with_reducible refine Blk.drew ?_) | (refine Blk.other ?_ (by omega) _) | fail))
  have B11_6 : Blk w11 (w6.heap.size) 26 [.int .i64 2, .int .i64 0, .string ⟨#[]⟩, .slice none 0 0] := by (rw [h11]; repeat' (first | (with_reducible assumption) | ((with_reducible refine Blk.new ?_); (first | (with_reducible rfl) | (simp only [World.size_alloc, World.size_setCell, size_drewN]; done))) | (with_reducible refine Blk.alloc ?_ _) | (with_reducible refine Blk.drewN ?_ _) | (with_reducible refine Blk.drew ?_) | (refine Blk.other ?_ (by omega) _) | fail))
  have B11_7 : Blk w11 (w8.heap.size) 26 [.int .i64 2, .int .i64 1, .string ⟨#[]⟩, .slice none 0 0] := by (rw [h11]; repeat' (first | (with_reducible assumption) | ((with_reducible refine Blk.new ?_); (first | (with_reducible rfl) | (simp only [World.size_alloc, World.size_setCell, size_drewN]; done))) | (with_reducible refine Blk.alloc ?_ _) | (with_reducible refine Blk.drewN ?_ _) | (with_reducible refine Blk.drew ?_) | (refine Blk.other ?_ (by omega) _) | fail))
  have B11_8 : Blk w11 (b6) 26 [.int .i64 1, .int .i64 m, .string ⟨#[]⟩, .slice none 0 0] := by (rw [h11]; repeat' (first | (with_reducible assumption) | ((with_reducible refine Blk.new ?_); (first | (with_reducible rfl) | (simp only [World.size_alloc, World.size_setCell, size_drewN]; done))) | (with_reducible refine Blk.alloc ?_ _) | (with_reducible refine Blk.drewN ?_ _) | (with_reducible refine Blk.drew ?_) | (refine Blk.other ?_ (by omega) _) | fail))
  have B11_9 : Blk w11 (w10.heap.size) 62 [.int .i64 2, .int .i64 1, .string ⟨#[]⟩, .slice none 0 0, .int .i64 10, .int .i64 0, .string ⟨#[]⟩, .slice (some ⟨b2, 0, none⟩) 2 2] := by (rw [h11]; repeat' (first | (with_reducible assumption) | ((with_reducible refine Blk.new ?_); (first | (with_reducible rfl) | (simp only [World.size_alloc, World.size_setCell, size_drewN]; done))) | (with_reducible refine Blk.alloc ?_ _) | (with_reducible refine Blk.drewN ?_ _) | (with_reducible refine Blk.drew ?_) | (refine Blk.other ?_ (by omega) _) | fail))
  have z11 := G11.size
  replace G11 := hide G11
  clear h11
  have t11_0 := B11_0.lt
  have d11_0_0 := B11_0.cell 0 rfl
  have e11_0_0 := B11_0.free 0
  have d11_0_1 := B11_0.cell 1 rfl
  have e11_0_1 := B11_0.free 1
  have d11_0_2 := B11_0.cell 2 rfl
  have e11_0_2 := B11_0.free 2
  have d11_0_3 := B11_0.cell 3 rfl
  have e11_0_3 := B11_0.free 3
  have d11_0_4 := B11_0.cell 4 rfl
  have e11_0_4 := B11_0.free 4
  have d11_0_5 := B11_0.cell 5 rfl
  have e11_0_5 := B11_0.free 5
  have d11_0_6 := B11_0.cell 6 rfl
  have e11_0_6 := B11_0.free 6
  have d11_0_7 := B11_0.cell 7 rfl
  have e11_0_7 := B11_0.free 7
  have t11_1 := B11_1.lt
  have d11_1_0 := B11_1.cell 0 rfl
  have e11_1_0 := B11_1.free 0
  have d11_1_1 := B11_1.cell 1 rfl
  have e11_1_1 := B11_1.free 1
  have d11_1_2 := B11_1.cell 2 rfl
  have e11_1_2 := B11_1.free 2
  have d11_1_3 := B11_1.cell 3 rfl
  have e11_1_3 := B11_1.free 3
  have t11_2 := B11_2.lt
  have d11_2_0 := B11_2.cell 0 rfl
  have e11_2_0 := B11_2.free 0
  have d11_2_1 := B11_2.cell 1 rfl
  have e11_2_1 := B11_2.free 1
  have d11_2_2 := B11_2.cell 2 rfl
  have e11_2_2 := B11_2.free 2
  have d11_2_3 := B11_2.cell 3 rfl
  have e11_2_3 := B11_2.free 3
  have d11_2_4 := B11_2.cell 4 rfl
  have e11_2_4 := B11_2.free 4
  have d11_2_5 := B11_2.cell 5 rfl
  have e11_2_5 := B11_2.free 5
  have d11_2_6 := B11_2.cell 6 rfl
  have e11_2_6 := B11_2.free 6
  have d11_2_7 := B11_2.cell 7 rfl
  have e11_2_7 := B11_2.free 7
  have t11_3 := B11_3.lt
  have d11_3_0 := B11_3.cell 0 rfl
  have e11_3_0 := B11_3.free 0
  have d11_3_1 := B11_3.cell 1 rfl
  have e11_3_1 := B11_3.free 1
  have d11_3_2 := B11_3.cell 2 rfl
  have e11_3_2 := B11_3.free 2
  have d11_3_3 := B11_3.cell 3 rfl
  have e11_3_3 := B11_3.free 3
  have t11_4 := B11_4.lt
  have d11_4_0 := B11_4.cell 0 rfl
  have e11_4_0 := B11_4.free 0
  have d11_4_1 := B11_4.cell 1 rfl
  have e11_4_1 := B11_4.free 1
  have d11_4_2 := B11_4.cell 2 rfl
  have e11_4_2 := B11_4.free 2
  have d11_4_3 := B11_4.cell 3 rfl
  have e11_4_3 := B11_4.free 3
  have t11_5 := B11_5.lt
  have d11_5_0 := B11_5.cell 0 rfl
  have e11_5_0 := B11_5.free 0
  have d11_5_1 := B11_5.cell 1 rfl
  have e11_5_1 := B11_5.free 1
  have d11_5_2 := B11_5.cell 2 rfl
  have e11_5_2 := B11_5.free 2
  have d11_5_3 := B11_5.cell 3 rfl
  have e11_5_3 := B11_5.free 3
  have t11_6 := B11_6.lt
  have d11_6_0 := B11_6.cell 0 rfl
  have e11_6_0 := B11_6.free 0
  have d11_6_1 := B11_6.cell 1 rfl
  have e11_6_1 := B11_6.free 1
  have d11_6_2 := B11_6.cell 2 rfl
  have e11_6_2 := B11_6.free 2
  have d11_6_3 := B11_6.cell 3 rfl
  have e11_6_3 := B11_6.free 3
  have t11_7 := B11_7.lt
  have d11_7_0 := B11_7.cell 0 rfl
  have e11_7_0 := B11_7.free 0
  have d11_7_1 := B11_7.cell 1 rfl
  have e11_7_1 := B11_7.free 1
  have d11_7_2 := B11_7.cell 2 rfl
  have e11_7_2 := B11_7.free 2
  have d11_7_3 := B11_7.cell 3 rfl
  have e11_7_3 := B11_7.free 3
  have t11_8 := B11_8.lt
  have d11_8_0 := B11_8.cell 0 rfl
  have e11_8_0 := B11_8.free 0
  have d11_8_1 := B11_8.cell 1 rfl
  have e11_8_1 := B11_8.free 1
  have d11_8_2 := B11_8.cell 2 rfl
  have e11_8_2 := B11_8.free 2
  have d11_8_3 := B11_8.cell 3 rfl
  have e11_8_3 := B11_8.free 3
  have t11_9 := B11_9.lt
  have d11_9_0 := B11_9.cell 0 rfl
  have e11_9_0 := B11_9.free 0
  have d11_9_1 := B11_9.cell 1 rfl
  have e11_9_1 := B11_9.free 1
  have d11_9_2 := B11_9.cell 2 rfl
  have e11_9_2 := B11_9.free 2
  have d11_9_3 := B11_9.cell 3 rfl
  have e11_9_3 := B11_9.free 3
  have d11_9_4 := B11_9.cell 4 rfl
  have e11_9_4 := B11_9.free 4
  have d11_9_5 := B11_9.cell 5 rfl
  have e11_9_5 := B11_9.free 5
  have d11_9_6 := B11_9.cell 6 rfl
  have e11_9_6 := B11_9.free 6
  have d11_9_7 := B11_9.cell 7 rfl
  have e11_9_7 := B11_9.free 7
  refine ((E4 w11 _ _ _ ⟨B11_0, B11_2⟩ B11_9).out).mono ?_
  rintro e w12 ⟨rfl, G12⟩
  try (with_reducible replace G12 := Grew.undrawn G12)
  have B12_0 : Blk w12 (w2.heap.size) 62 [.int .i64 1, .int .i64 1, .string ⟨#[]⟩, .slice none 0 0, .int .i64 1, .int .i64 0, .string ⟨#[]⟩, .slice none 0 0] := Blk.grew (by (repeat' (first | (with_reducible assumption) | ((with_reducible refine Blk.new ?_); (first | (with_reducible rfl) | (simp only [World.size_alloc, World.size_setCell, size_drewN]; done))) | (with_reducible refine Blk.alloc ?_ _) | (with_reducible refine Blk.drewN ?_ _) | (with_reducible refine Blk.drew ?_) | (refine Blk.other ?_ (by omega) _) | fail))) G12
  have B12_1 : Blk w12 (w2.heap.size + 1) 62 [.int .i64 8, .int .i64 0, .string ⟨#[]⟩, .slice (some ⟨w2.heap.size, 0, none⟩) 2 2] := Blk.grew (by (repeat' (first | (with_reducible assumption) | ((with_reducible refine Blk.new ?_); (first | (with_reducible rfl) | (simp only [World.size_alloc, World.size_setCell, size_drewN]; done))) | (with_reducible refine Blk.alloc ?_ _) | (with_reducible refine Blk.drewN ?_ _) | (with_reducible refine Blk.drew ?_) | (refine Blk.other ?_ (by omega) _) | fail))) G12
  have B12_2 : Blk w12 (b2) 62 [.int .i64 8, .int .i64 0, .string ⟨#[]⟩, .slice (some ⟨w2.heap.size, 0, none⟩) 2 2, .int .i64 1, .int .i64 0, .string ⟨#[]⟩, .slice none 0 0] := Blk.grew (by (repeat' (first | (with_reducible assumption) | ((with_reducible refine Blk.new ?_); (first | (with_reducible rfl) | (simp only [World.size_alloc, World.size_setCell, size_drewN]; done))) | (with_reducible refine Blk.alloc ?_ _) | (with_reducible refine Blk.drewN ?_ _) | (with_reducible refine Blk.drew ?_) | (refine Blk.other ?_ (by omega) _) | fail))) G12
  have B12_3 : Blk w12 (b4) 62 [.int .i64 10, .int .i64 0, .string ⟨#[]⟩, .slice (some ⟨b2, 0, none⟩) 2 2] := Blk.grew (by (repeat' (first | (with_reducible assumption) | ((with_reducible refine Blk.new ?_); (first | (with_reducible rfl) | (simp only [World.size_alloc, World.size_setCell, size_drewN]; done))) | (with_reducible refine Blk.alloc ?_ _) | (with_reducible refine Blk.drewN ?_ _) | (with_reducible refine Blk.drew ?_) | (refine Blk.other ?_ (by omega) _) | fail))) G12
  have B12_4 : Blk w12 (w4.heap.size) 62 [.int .i64 2, .int .i64 0, .string ⟨#[]⟩, .slice none 0 0] := Blk.grew (by (repeat' (first | (with_reducible assumption) | ((with_reducible refine Blk.new ?_); (first | (with_reducible rfl) | (simp only [World.size_alloc, World.size_setCell, size_drewN]; done))) | (with_reducible refine Blk.alloc ?_ _) | (with_reducible refine Blk.drewN ?_ _) | (with_reducible refine Blk.drew ?_) | (refine Blk.other ?_ (by omega) _) | fail))) G12
  have B12_5 : Blk w12 (w4.heap.size + 1) 62 [.int .i64 2, .int .i64 1, .string ⟨#[]⟩, .slice none 0 0] := Blk.grew (by (repeat' (first | (with_reducible assumption) | ((with_reducible refine Blk.new ?_); (first | (with_reducible rfl) | (simp only [World.size_alloc, World.size_setCell, size_drewN]; done))) | (with_reducible refine Blk.alloc ?_ _) | (with_reducible refine Blk.drewN ?_ _) | (with_reducible refine Blk.drew ?_) | (refine Blk.other ?_ (by omega) _) | fail))) G12
  have B12_6 : Blk w12 (w6.heap.size) 26 [.int .i64 2, .int .i64 0, .string ⟨#[]⟩, .slice none 0 0] := Blk.grew (by (repeat' (first | (with_reducible assumption) | ((with_reducible refine Blk.new ?_); (first | (with_reducible rfl) | (simp only [World.size_alloc, World.size_setCell, size_drewN]; done))) | (with_reducible refine Blk.alloc ?_ _) | (with_reducible refine Blk.drewN ?_ _) | (with_reducible refine Blk.drew ?_) | (refine Blk.other ?_ (by omega) _) | fail))) G12
  have B12_7 : Blk w12 (w8.heap.size) 26 [.int .i64 2, .int .i64 1, .string ⟨#[]⟩, .slice none 0 0] := Blk.grew (by (repeat' (first | (with_reducible assumption) | ((with_reducible refine Blk.new ?_); (first | (with_reducible rfl) | (simp only [World.size_alloc, World.size_setCell, size_drewN]; done))) | (with_reducible refine Blk.alloc ?_ _) | (with_reducible refine Blk.drewN ?_ _) | (with_reducible refine Blk.drew ?_) | (refine Blk.other ?_ (by omega) _) | fail))) G12
  have B12_8 : Blk w12 (b6) 26 [.int .i64 1, .int .i64 m, .string ⟨#[]⟩, .slice none 0 0] := Blk.grew (by (repeat' (first | (with_reducible assumption) | ((with_reducible refine Blk.new ?_); (first | (with_reducible rfl) | (simp only [World.size_alloc, World.size_setCell, size_drewN]; done))) | (with_reducible refine Blk.alloc ?_ _) | (with_reducible refine Blk.drewN ?_ _) | (with_reducible refine Blk.drew ?_) | (refine Blk.other ?_ (by omega) _) | fail))) G12
  have B12_9 : Blk w12 (w10.heap.size) 62 [.int .i64 2, .int .i64 1, .string ⟨#[]⟩, .slice none 0 0, .int .i64 10, .int .i64 0, .string ⟨#[]⟩, .slice (some ⟨b2, 0, none⟩) 2 2] := Blk.grew (by (repeat' (first | (with_reducible assumption) | ((with_reducible refine Blk.new ?_); (first | (with_reducible rfl) | (simp only [World.size_alloc, World.size_setCell, size_drewN]; done))) | (with_reducible refine Blk.alloc ?_ _) | (with_reducible refine Blk.drewN ?_ _) | (with_reducible refine Blk.drew ?_) | (refine Blk.other ?_ (by omega) _) | fail))) G12
  have z12 := G12.size
  try simp only [World.size_alloc, World.size_setCell, size_drewN] at z12
  replace G12 := hide G12
  have t12_0 := B12_0.lt
  have d12_0_0 := B12_0.cell 0 rfl
  have e12_0_0 := B12_0.free 0
  have d12_0_1 := B12_0.cell 1 rfl
  have e12_0_1 := B12_0.free 1
  have d12_0_2 := B12_0.cell 2 rfl
  have e12_0_2 := B12_0.free 2
  have d12_0_3 := B12_0.cell 3 rfl
  have e12_0_3 := B12_0.free 3
  have d12_0_4 := B12_0.cell 4 rfl
  have e12_0_4 := B12_0.free 4
  have d12_0_5 := B12_0.cell 5 rfl
  have e12_0_5 := B12_0.free 5
  have d12_0_6 := B12_0.cell 6 rfl
  have e12_0_6 := B12_0.free 6
  have d12_0_7 := B12_0.cell 7 rfl
  have e12_0_7 := B12_0.free 7
  have t12_1 := B12_1.lt
  have d12_1_0 := B12_1.cell 0 rfl
  have e12_1_0 := B12_1.free 0
  have d12_1_1 := B12_1.cell 1 rfl
  have e12_1_1 := B12_1.free 1
  have d12_1_2 := B12_1.cell 2 rfl
  have e12_1_2 := B12_1.free 2
  have d12_1_3 := B12_1.cell 3 rfl
  have e12_1_3 := B12_1.free 3
  have t12_2 := B12_2.lt
  have d12_2_0 := B12_2.cell 0 rfl
  have e12_2_0 := B12_2.free 0
  have d12_2_1 := B12_2.cell 1 rfl
  have e12_2_1 := B12_2.free 1
  have d12_2_2 := B12_2.cell 2 rfl
  have e12_2_2 := B12_2.free 2
  have d12_2_3 := B12_2.cell 3 rfl
  have e12_2_3 := B12_2.free 3
  have d12_2_4 := B12_2.cell 4 rfl
  have e12_2_4 := B12_2.free 4
  have d12_2_5 := B12_2.cell 5 rfl
  have e12_2_5 := B12_2.free 5
  have d12_2_6 := B12_2.cell 6 rfl
  have e12_2_6 := B12_2.free 6
  have d12_2_7 := B12_2.cell 7 rfl
  have e12_2_7 := B12_2.free 7
  have t12_3 := B12_3.lt
  have d12_3_0 := B12_3.cell 0 rfl
  have e12_3_0 := B12_3.free 0
  have d12_3_1 := B12_3.cell 1 rfl
  have e12_3_1 := B12_3.free 1
  have d12_3_2 := B12_3.cell 2 rfl
  have e12_3_2 := B12_3.free 2
  have d12_3_3 := B12_3.cell 3 rfl
  have e12_3_3 := B12_3.free 3
  have t12_4 := B12_4.lt
  have d12_4_0 := B12_4.cell 0 rfl
  have e12_4_0 := B12_4.free 0
  have d12_4_1 := B12_4.cell 1 rfl
  have e12_4_1 := B12_4.free 1
  have d12_4_2 := B12_4.cell 2 rfl
  have e12_4_2 := B12_4.free 2
  have d12_4_3 := B12_4.cell 3 rfl
  have e12_4_3 := B12_4.free 3
  have t12_5 := B12_5.lt
  have d12_5_0 := B12_5.cell 0 rfl
  have e12_5_0 := B12_5.free 0
  have d12_5_1 := B12_5.cell 1 rfl
  have e12_5_1 := B12_5.free 1
  have d12_5_2 := B12_5.cell 2 rfl
  have e12_5_2 := B12_5.free 2
  have d12_5_3 := B12_5.cell 3 rfl
  have e12_5_3 := B12_5.free 3
  have t12_6 := B12_6.lt
  have d12_6_0 := B12_6.cell 0 rfl
  have e12_6_0 := B12_6.free 0
  have d12_6_1 := B12_6.cell 1 rfl
  have e12_6_1 := B12_6.free 1
  have d12_6_2 := B12_6.cell 2 rfl
  have e12_6_2 := B12_6.free 2
  have d12_6_3 := B12_6.cell 3 rfl
  have e12_6_3 := B12_6.free 3
  have t12_7 := B12_7.lt
  have d12_7_0 := B12_7.cell 0 rfl
  have e12_7_0 := B12_7.free 0
  have d12_7_1 := B12_7.cell 1 rfl
  have e12_7_1 := B12_7.free 1
  have d12_7_2 := B12_7.cell 2 rfl
  have e12_7_2 := B12_7.free 2
  have d12_7_3 := B12_7.cell 3 rfl
  have e12_7_3 := B12_7.free 3
  have t12_8 := B12_8.lt
  have d12_8_0 := B12_8.cell 0 rfl
  have e12_8_0 := B12_8.free 0
  have d12_8_1 := B12_8.cell 1 rfl
  have e12_8_1 := B12_8.free 1
  have d12_8_2 := B12_8.cell 2 rfl
  have e12_8_2 := B12_8.free 2
  have d12_8_3 := B12_8.cell 3 rfl
  have e12_8_3 := B12_8.free 3
  have t12_9 := B12_9.lt
  have d12_9_0 := B12_9.cell 0 rfl
  have e12_9_0 := B12_9.free 0
  have d12_9_1 := B12_9.cell 1 rfl
  have e12_9_1 := B12_9.free 1
  have d12_9_2 := B12_9.cell 2 rfl
  have e12_9_2 := B12_9.free 2
  have d12_9_3 := B12_9.cell 3 rfl
  have e12_9_3 := B12_9.free 3
  have d12_9_4 := B12_9.cell 4 rfl
  have e12_9_4 := B12_9.free 4
  have d12_9_5 := B12_9.cell 5 rfl
  have e12_9_5 := B12_9.free 5
  have d12_9_6 := B12_9.cell 6 rfl
  have e12_9_6 := B12_9.free 6
  have d12_9_7 := B12_9.cell 7 rfl
  have e12_9_7 := B12_9.free 7
  go_wp2_with fail
  refine ((AW _).out).mono ?_
  rintro e w13 ⟨rfl, G13⟩
  try (with_reducible replace G13 := Grew.undrawn G13)
  have B13_0 : Blk w13 (w2.heap.size) 62 [.int .i64 1, .int .i64 1, .string ⟨#[]⟩, .slice none 0 0, .int .i64 1, .int .i64 0, .string ⟨#[]⟩, .slice none 0 0] := Blk.grew (by (repeat' (first | (with_reducible assumption) | ((with_reducible refine Blk.new ?_); (first | (with_reducible rfl) | (simp only [World.size_alloc, World.size_setCell, size_drewN]; done))) | (with_reducible refine Blk.alloc ?_ _) | (with_reducible refine Blk.drewN ?_ _) | (with_reducible refine Blk.drew ?_) | (refine Blk.other ?_ (by omega) _) | fail))) G13
  have B13_1 : Blk w13 (w2.heap.size + 1) 62 [.int .i64 8, .int .i64 0, .string ⟨#[]⟩, .slice (some ⟨w2.heap.size, 0, none⟩) 2 2] := Blk.grew (by (repeat' (first | (with_reducible assumption) | ((with_reducible refine Blk.new ?_); (first | (with_reducible rfl) | (simp only [World.size_alloc, World.size_setCell, size_drewN]; done))) | (with_reducible refine Blk.alloc ?_ _) | (with_reducible refine Blk.drewN ?_ _) | (with_reducible refine Blk.drew ?_) | (refine Blk.other ?_ (by omega) _) | fail))) G13
  have B13_2 : Blk w13 (b2) 62 [.int .i64 8, .int .i64 0, .string ⟨#[]⟩, .slice (some ⟨w2.heap.size, 0, none⟩) 2 2, .int .i64 1, .int .i64 0, .string ⟨#[]⟩, .slice none 0 0] := Blk.grew (by (repeat' (first | (with_reducible assumption) | ((with_reducible refine Blk.new ?_); (first | (with_reducible rfl) | (simp only [World.size_alloc, World.size_setCell, size_drewN]; done))) | (with_reducible refine Blk.alloc ?_ _) | (with_reducible refine Blk.drewN ?_ _) | (with_reducible refine Blk.drew ?_) | (refine Blk.other ?_ (by omega) _) | fail))) G13
  have B13_3 : Blk w13 (b4) 62 [.int .i64 10, .int .i64 0, .string ⟨#[]⟩, .slice (some ⟨b2, 0, none⟩) 2 2] := Blk.grew (by (repeat' (first | (with_reducible assumption) | ((with_reducible refine Blk.new ?_); (first | (with_reducible rfl) | (simp only [World.size_alloc, World.size_setCell, size_drewN]; done))) | (with_reducible refine Blk.alloc ?_ _) | (with_reducible refine Blk.drewN ?_ _) | (with_reducible refine Blk.drew ?_) | (refine Blk.other ?_ (by omega) _) | fail))) G13
  have B13_4 : Blk w13 (w4.heap.size) 62 [.int .i64 2, .int .i64 0, .string ⟨#[]⟩, .slice none 0 0] := Blk.grew (by (repeat' (first | (with_reducible assumption) | ((with_reducible refine Blk.new ?_); (first | (with_reducible rfl) | (simp only [World.size_alloc, World.size_setCell, size_drewN]; done))) | (with_reducible refine Blk.alloc ?_ _) | (with_reducible refine Blk.drewN ?_ _) | (with_reducible refine Blk.drew ?_) | (refine Blk.other ?_ (by omega) _) | fail))) G13
  have B13_5 : Blk w13 (w4.heap.size + 1) 62 [.int .i64 2, .int .i64 1, .string ⟨#[]⟩, .slice none 0 0] := Blk.grew (by (repeat' (first | (with_reducible assumption) | ((with_reducible refine Blk.new ?_); (first | (with_reducible rfl) | (simp only [World.size_alloc, World.size_setCell, size_drewN]; done))) | (with_reducible refine Blk.alloc ?_ _) | (with_reducible refine Blk.drewN ?_ _) | (with_reducible refine Blk.drew ?_) | (refine Blk.other ?_ (by omega) _) | fail))) G13
  have B13_6 : Blk w13 (w6.heap.size) 26 [.int .i64 2, .int .i64 0, .string ⟨#[]⟩, .slice none 0 0] := Blk.grew (by (repeat' (first | (with_reducible assumption) | ((with_reducible refine Blk.new ?_); (first | (with_reducible rfl) | (simp only [World.size_alloc, World.size_setCell, size_drewN]; done))) | (with_reducible refine Blk.alloc ?_ _) | (with_reducible refine Blk.drewN ?_ _) | (with_reducible refine Blk.drew ?_) | (refine Blk.other ?_ (by omega) _) | fail))) G13
  have B13_7 : Blk w13 (w8.heap.size) 26 [.int .i64 2, .int .i64 1, .string ⟨#[]⟩, .slice none 0 0] := Blk.grew (by (repeat' (first | (with_reducible assumption) | ((with_reducible refine Blk.new ?_); (first | (with_reducible rfl) | (simp only [World.size_alloc, World.size_setCell, size_drewN]; done))) | (with_reducible refine Blk.alloc ?_ _) | (with_reducible refine Blk.drewN ?_ _) | (with_reducible refine Blk.drew ?_) | (refine Blk.other ?_ (by omega) _) | fail))) G13
  have B13_8 : Blk w13 (b6) 26 [.int .i64 1, .int .i64 m, .string ⟨#[]⟩, .slice none 0 0] := Blk.grew (by (repeat' (first | (with_reducible assumption) | ((with_reducible refine Blk.new ?_); (first | (with_reducible rfl) | (simp only [World.size_alloc, World.size_setCell, size_drewN]; done))) | (with_reducible refine Blk.alloc ?_ _) | (with_reducible refine Blk.drewN ?_ _) | (with_reducible refine Blk.drew ?_) | (refine Blk.other ?_ (by omega) _) | fail))) G13
  have B13_9 : Blk w13 (w10.heap.size) 62 [.int .i64 2, .int .i64 1, .string ⟨#[]⟩, .slice none 0 0, .int .i64 10, .int .i64 0, .string ⟨#[]⟩, .slice (some ⟨b2, 0, none⟩) 2 2] := Blk.grew (by (repeat' (first | (with_reducible assumption) | ((with_reducible refine Blk.new ?_); (first | (with_reducible rfl) | (simp only [World.size_alloc, World.size_setCell, size_drewN]; done))) | (with_reducible refine Blk.alloc ?_ _) | (with_reducible refine Blk.drewN ?_ _) | (with_reducible refine Blk.drew ?_) | (refine Blk.other ?_ (by omega) _) | fail))) G13
  have z13 := G13.size
  try simp only [World.size_alloc, World.size_setCell, size_drewN] at z13
  replace G13 := hide G13
  have t13_0 := B13_0.lt
  have d13_0_0 := B13_0.cell 0 rfl
  have e13_0_0 := B13_0.free 0
  have d13_0_1 := B13_0.cell 1 rfl
  have e13_0_1 := B13_0.free 1
  have d13_0_2 := B13_0.cell 2 rfl
  have e13_0_2 := B13_0.free 2
  have d13_0_3 := B13_0.cell 3 rfl
  have e13_0_3 := B13_0.free 3
  have d13_0_4 := B13_0.cell 4 rfl
  have e13_0_4 := B13_0.free 4
  have d13_0_5 := B13_0.cell 5 rfl
  have e13_0_5 := B13_0.free 5
  have d13_0_6 := B13_0.cell 6 rfl
  have e13_0_6 := B13_0.free 6
  have d13_0_7 := B13_0.cell 7 rfl
  have e13_0_7 := B13_0.free 7
  have t13_1 := B13_1.lt
  have d13_1_0 := B13_1.cell 0 rfl
  have e13_1_0 := B13_1.free 0
  have d13_1_1 := B13_1.cell 1 rfl
  have e13_1_1 := B13_1.free 1
  have d13_1_2 := B13_1.cell 2 rfl
  have e13_1_2 := B13_1.free 2
  have d13_1_3 := B13_1.cell 3 rfl
  have e13_1_3 := B13_1.free 3
  have t13_2 := B13_2.lt
  have d13_2_0 := B13_2.cell 0 rfl
  have e13_2_0 := B13_2.free 0
  have d13_2_1 := B13_2.cell 1 rfl
  have e13_2_1 := B13_2.free 1
  have d13_2_2 := B13_2.cell 2 rfl
  have e13_2_2 := B13_2.free 2
  have d13_2_3 := B13_2.cell 3 rfl
  have e13_2_3 := B13_2.free 3
  have d13_2_4 := B13_2.cell 4 rfl
  have e13_2_4 := B13_2.free 4
  have d13_2_5 := B13_2.cell 5 rfl
  have e13_2_5 := B13_2.free 5
  have d13_2_6 := B13_2.cell 6 rfl
  have e13_2_6 := B13_2.free 6
  have d13_2_7 := B13_2.cell 7 rfl
  have e13_2_7 := B13_2.free 7
  have t13_3 := B13_3.lt
  have d13_3_0 := B13_3.cell 0 rfl
  have e13_3_0 := B13_3.free 0
  have d13_3_1 := B13_3.cell 1 rfl
  have e13_3_1 := B13_3.free 1
  have d13_3_2 := B13_3.cell 2 rfl
  have e13_3_2 := B13_3.free 2
  have d13_3_3 := B13_3.cell 3 rfl
  have e13_3_3 := B13_3.free 3
  have t13_4 := B13_4.lt
  have d13_4_0 := B13_4.cell 0 rfl
  have e13_4_0 := B13_4.free 0
  have d13_4_1 := B13_4.cell 1 rfl
  have e13_4_1 := B13_4.free 1
  have d13_4_2 := B13_4.cell 2 rfl
  have e13_4_2 := B13_4.free 2
  have d13_4_3 := B13_4.cell 3 rfl
  have e13_4_3 := B13_4.free 3
  have t13_5 := B13_5.lt
  have d13_5_0 := B13_5.cell 0 rfl
  have e13_5_0 := B13_5.free 0
  have d13_5_1 := B13_5.cell 1 rfl
  have e13_5_1 := B13_5.free 1
  have d13_5_2 := B13_5.cell 2 rfl
  have e13_5_2 := B13_5.free 2
  have d13_5_3 := B13_5.cell 3 rfl
  have e13_5_3 := B13_5.free 3
  have t13_6 := B13_6.lt
  have d13_6_0 := B13_6.cell 0 rfl
  have e13_6_0 := B13_6.free 0
  have d13_6_1 := B13_6.cell 1 rfl
  have e13_6_1 := B13_6.free 1
  have d13_6_2 := B13_6.cell 2 rfl
  have e13_6_2 := B13_6.free 2
  have d13_6_3 := B13_6.cell 3 rfl
  have e13_6_3 := B13_6.free 3
  have t13_7 := B13_7.lt
  have d13_7_0 := B13_7.cell 0 rfl
  have e13_7_0 := B13_7.free 0
  have d13_7_1 := B13_7.cell 1 rfl
  have e13_7_1 := B13_7.free 1
  have d13_7_2 := B13_7.cell 2 rfl
  have e13_7_2 := B13_7.free 2
  have d13_7_3 := B13_7.cell 3 rfl
  have e13_7_3 := B13_7.free 3
  have t13_8 := B13_8.lt
  have d13_8_0 := B13_8.cell 0 rfl
  have e13_8_0 := B13_8.free 0
  have d13_8_1 := B13_8.cell 1 rfl
  have e13_8_1 := B13_8.free 1
  have d13_8_2 := B13_8.cell 2 rfl
  have e13_8_2 := B13_8.free 2
  have d13_8_3 := B13_8.cell 3 rfl
  have e13_8_3 := B13_8.free 3
  have t13_9 := B13_9.lt
  have d13_9_0 := B13_9.cell 0 rfl
  have e13_9_0 := B13_9.free 0
  have d13_9_1 := B13_9.cell 1 rfl
  have e13_9_1 := B13_9.free 1
  have d13_9_2 := B13_9.cell 2 rfl
  have e13_9_2 := B13_9.free 2
  have d13_9_3 := B13_9.cell 3 rfl
  have e13_9_3 := B13_9.free 3
  have d13_9_4 := B13_9.cell 4 rfl
  have e13_9_4 := B13_9.free 4
  have d13_9_5 := B13_9.cell 5 rfl
  have e13_9_5 := B13_9.free 5
  have d13_9_6 := B13_9.cell 6 rfl
  have e13_9_6 := B13_9.free 6
  have d13_9_7 := B13_9.cell 7 rfl
  have e13_9_7 := B13_9.free 7
  go_wp2
  go_ret
  refine ⟨rfl, Grew.below ?_⟩
  repeat' (first | (with_reducible exact Grew.refl _) | (with_reducible refine Grew.setCell ?_ ?_ _) | (with_reducible refine Grew.drewN ?_ _) | (with_reducible refine Grew.reD ?_ _) | (with_reducible refine Grew.alloc ?_ _) | (with_reducible refine Grew.trans ?_ G13.out) | (with_reducible refine Grew.trans ?_ G12.out) | (with_reducible refine Grew.trans ?_ G11.out) | (with_reducible refine Grew.trans ?_ G10.out) | (with_reducible refine Grew.trans ?_ G9.out) | (with_reducible refine Grew.trans ?_ G8.out) | (with_reducible refine Grew.trans ?_ G7.out) | (with_reducible refine Grew.trans ?_ G6.out) | (with_reducible refine Grew.trans ?_ G5.out) | (with_reducible refine Grew.trans ?_ G4.out) | (with_reducible refine Grew.trans ?_ G3.out) | (with_reducible refine Grew.trans ?_ G2.out) | (with_reducible refine Grew.trans ?_ G1.out) | (dsimp only; omega))

end Go.Proofs.YtnodhcmgogaaoaaDoor
