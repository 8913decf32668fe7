/- The reference's Place answers as the laws of package grid ask; no condition. -/
import Derived.Test.YtdoenkngmgclmaaGdA
import Derived.Test.YtdoenkngmgclmaaApp
import Derived.OwnWalk
namespace Go.Proofs.Ytdoenkngmgclmaa
open Go.RowKit Go.Sort
set_option linter.unusedVariables false
set_option linter.unusedSimpArgs false

theorem info_area : (Try.prog.info? 26).map (fun i => (i.zero, i.size, i.bytes)) = some (some (.agg #[.int .i64 0, .int .i64 0, .int .i64 0]), 3, 24) := by kernel_rfl
theorem info_partsG {i : Option TypeInfo} {z : Value} {n m : Nat} (h : i.map (fun i => (i.zero, i.size, i.bytes)) = some (some z, n, m)) : ∃ j, i = some j ∧ j.zero = some z ∧ j.size = n ∧ j.bytes = m := by
  cases i with
  | none => simp at h
  | some j => simp at h; exact ⟨j, rfl, h.1, h.2.1, h.2.2⟩
theorem below_appendedG {w0 w w' : World} {row : Option Nat} (h : Below w0.heap.size w0 w) (hg : w.grownBy w' row) (hrow : ∀ k, row = some k → w0.heap.size ≤ k) : Below w0.heap.size w0 w' :=
  ⟨hg.os.trans h.os, hg.tape.trans h.tape, hg.output.trans h.output, Nat.le_trans h.size hg.size, fun k hk => (hg.block k (Nat.lt_of_lt_of_le hk h.size) (fun e => by have := hrow k e.symm; omega)).trans (h.block k hk)⟩
theorem pl_some {cols : Int} {n : Nat} (h : 1 ≤ cols ∧ cols ≤ 24 ∧ n ≤ 100) : plN cols n = n := by unfold plN; rw [if_pos h]
theorem pl_none {cols : Int} {n : Nat} (h : ¬ (1 ≤ cols ∧ cols ≤ 24 ∧ n ≤ 100)) : plN cols n = 0 := by unfold plN; rw [if_neg h]
theorem srow_none (w : World) (k : Nat) (f : Nat → Nat → Value) : SRow w none 0 k f := fun h => absurd h (Nat.lt_irrefl _)

set_option maxRecDepth 100000 in
set_option maxHeartbeats 8000000 in
theorem rPl : KPl 10 := by
  intro cols p n c f w hr hn
  by_cases h : 1 ≤ cols ∧ cols ≤ 24 ∧ n ≤ 100
  · rw [pl_some h]
    obtain ⟨h1, h2, h3⟩ := h
    have H := hide hr
    have d1 : decide (cols < 1) = false := decide_eq_false (by omega)
    have d2 : decide (24 < cols) = false := decide_eq_false (by omega)
    have d3 : decide ((100 : Int) < (n : Int)) = false := decide_eq_false (by omega)
    obtain ⟨ia, a1, a2, a3, a4⟩ := info_partsG info_area
    clear hr
    have O0 : Hid (w.ownsRow w.heap.size 26 3 (.slice none 0 0) 0 (flat 0 3 (arV cols f))) := World.ownsRow_nil _ _ _ _
    go_enter Try.func10, Try.ntmps10
    go_wp2_with fail
    go_loopg [5, 6, 7, 8] (n + 1) (fun g1 va vb vc vk wr => ∃ (k : Nat) (v : Value), v = va ∧ vb = .int .i64 (stP cols f k).1 ∧ vc = .int .i64 (stP cols f k).2 ∧ vk = .int .i64 (k : Int) ∧ k ≤ n ∧ n - k < g1 ∧ Hid (Below w.heap.size w wr) ∧ Hid (wr.ownsRow w.heap.size 26 3 v k (flat k 3 (arV cols f))))
    case atStart => exact ⟨0, _, rfl, rfl, rfl, by go_num, by omega, by omega, Below.refl _ _, O0⟩
    case round =>
      clear O0
      obtain ⟨wo, rfl⟩ : ∃ wo : World, wo = wr := ⟨_, rfl⟩
      obtain ⟨k, v, rfl, rfl, rfl, rfl, hk, hg, B, O⟩ := hrel
      by_cases hlt : k < n
      · have hltz : (k : Int) < (n : Int) := by omega
        obtain ⟨b, off, rfl, hb⟩ := (H.out.below B.out) (by omega)
        have c1 : wo.cell? ⟨b, off + k, none⟩ = some (.int .i64 (f k)) := hb k hlt
        have KC := hide (rClamp_any (f k) 1 cols wo)
        have ss := st_succ cols f k
        have sb := st_bd h1 f k
        have pb := sp_bd h1 f k
        have eR : arR cols f k = if cols < (stP cols f k).2 + spG cols f k then (stP cols f k).1 + 1 else (stP cols f k).1 := rfl
        have eC : arC cols f k = if cols < (stP cols f k).2 + spG cols f k then 0 else (stP cols f k).2 := rfl
        have eF : flat (k + 1) 3 (arV cols f) = flat k 3 (arV cols f) ++ [.int .i64 (arR cols f k), .int .i64 (arC cols f k), .int .i64 (spG cols f k)] := by rw [flat_succ]; rfl
        have m3 : Hid (n - (k + 1) < n - k) := Nat.sub_lt_sub_left hlt (Nat.lt_succ_self k)
        rw [show clampS (f k) 1 cols = spG cols f k from rfl] at KC
        obtain ⟨⟨sb1, sb2⟩, sb3, sb4⟩ := sb
        obtain ⟨pb1, pb2⟩ := pb
        have wsz : w.heap.size ≤ wo.heap.size := B.out.size
        replace eF := hide eF
        obtain ⟨ss1, ss2⟩ := ss
        clear hb
        have O' := O.out
        by_cases q : cols < (stP cols f k).2 + spG cols f k
        · rw [if_pos q] at eR eC
          rw [eR] at eF ss1
          rw [eC] at eF ss2
          have es : Hid ((stP cols f (k + 1)).1 = (stP cols f k).1 + 1 ∧ (stP cols f (k + 1)).2 = spG cols f k) := ⟨ss1, by rw [ss2]; omega⟩
          clear eR eC ss1 ss2
          generalize (stP cols f k).1 = R at *
          generalize (stP cols f k).2 = C at *
          generalize spG cols f k = s at *
          have v1 : IntKind.i64.wrap (C + s) = C + s := wr (by omega) (by omega)
          have v2 : IntKind.i64.wrap (R + 1) = R + 1 := wr (by omega) (by omega)
          have v3 : IntKind.i64.wrap s = s := wr (by omega) (by omega)
          go_wp2_with fail
          refine KC.out.mono ?_
          rintro e w' ⟨rfl, rfl⟩
          clear KC
          have BN : Blk (wo.alloc (.cells [.int .i64 (R + 1), .int .i64 0, .int .i64 s].toArray 26)) wo.heap.size 26 [.int .i64 (R + 1), .int .i64 0, .int .i64 s] := Blk.new rfl
          have BN := hide BN
          go_wp2_with (at_builtin; refine wpList_append_own _ rfl _ _ 23 rfl w.heap.size 26 ia _ 3 24 Try.underlying23 a1 a2 a3 a4 rfl (by decide) _ _ _ rfl (O'.alloc _) ⟨wo.heap.size, 0, none⟩ 1 1 [.int .i64 (R + 1), .int .i64 0, .int .i64 s] rfl rfl ?c1 ?c2 ?c3 ?c4 ?c5 ?_)
          case c1 =>
            intro j u hj
            rw [addr_add]
            exact BN.out.cell j hj
          case c2 => intro u hu; simp at hu; rcases hu with rfl | rfl | rfl <;> rfl
          case c3 => unfold maxLen; omega
          case c4 => omega
          case c5 => simp; omega
          · intro v' w6 hown' hgrow hnil
            have NB : Hid (Below w.heap.size w w6) := below_appendedG (B.out.alloc B.out.size _) hgrow (own_lt O')
            have NO : Hid (w6.ownsRow w.heap.size 26 3 v' (k + 1) (flat (k + 1) 3 (arV cols f))) := by rw [eF.out]; exact hown'
            clear hown' hgrow hnil O' O B BN eF
            go_wp2_with fail
            go_roundg (n - k)
            case measure => exact hg
            case rel => exact ⟨k + 1, _, rfl, by rw [es.out.1], by rw [es.out.2], by go_num, hlt, m3.out, NB, NO⟩
        · rw [if_neg q] at eR eC
          rw [eR] at eF ss1
          rw [eC] at eF ss2
          have es : Hid ((stP cols f (k + 1)).1 = (stP cols f k).1 ∧ (stP cols f (k + 1)).2 = (stP cols f k).2 + spG cols f k) := ⟨ss1, ss2⟩
          clear eR eC ss1 ss2
          generalize (stP cols f k).1 = R at *
          generalize (stP cols f k).2 = C at *
          generalize spG cols f k = s at *
          have v1 : IntKind.i64.wrap (C + s) = C + s := wr (by omega) (by omega)
          go_wp2_with fail
          refine KC.out.mono ?_
          rintro e w' ⟨rfl, rfl⟩
          clear KC
          have BN : Blk (wo.alloc (.cells [.int .i64 R, .int .i64 C, .int .i64 s].toArray 26)) wo.heap.size 26 [.int .i64 R, .int .i64 C, .int .i64 s] := Blk.new rfl
          have BN := hide BN
          go_wp2_with (at_builtin; refine wpList_append_own _ rfl _ _ 23 rfl w.heap.size 26 ia _ 3 24 Try.underlying23 a1 a2 a3 a4 rfl (by decide) _ _ _ rfl (O'.alloc _) ⟨wo.heap.size, 0, none⟩ 1 1 [.int .i64 R, .int .i64 C, .int .i64 s] rfl rfl ?c1 ?c2 ?c3 ?c4 ?c5 ?_)
          case c1 =>
            intro j u hj
            rw [addr_add]
            exact BN.out.cell j hj
          case c2 => intro u hu; simp at hu; rcases hu with rfl | rfl | rfl <;> rfl
          case c3 => unfold maxLen; omega
          case c4 => omega
          case c5 => simp; omega
          · intro v' w6 hown' hgrow hnil
            have NB : Hid (Below w.heap.size w w6) := below_appendedG (B.out.alloc B.out.size _) hgrow (own_lt O')
            have NO : Hid (w6.ownsRow w.heap.size 26 3 v' (k + 1) (flat (k + 1) 3 (arV cols f))) := by rw [eF.out]; exact hown'
            clear hown' hgrow hnil O' O B BN eF
            go_wp2_with fail
            go_roundg (n - k)
            case measure => exact hg
            case rel => exact ⟨k + 1, _, rfl, by rw [es.out.1], by rw [es.out.2], by go_num, hlt, m3.out, NB, NO⟩
      · have hltz : ¬ (k : Int) < (n : Int) := by omega
        obtain rfl : n = k := by omega
        obtain ⟨q, d, rfl, _, hs⟩ := own_srow O.out
        have hs := hide hs
        clear O
        go_wp2_with fail
        go_ret
        exact ⟨q, ⟨d, rfl⟩, hs.out, B.out⟩
  · rw [pl_none h]
    clear hr
    by_cases h1 : cols < 1
    · have d1 : decide (cols < 1) = true := decide_eq_true h1
      go_enter Try.func10, Try.ntmps10
      go_wp2_with fail
      go_ret
      first | exact ⟨none, 0, rfl, srow_none _ _ _, Below.refl _ _⟩ | exact ⟨none, ⟨0, rfl⟩, srow_none _ _ _, Below.refl _ _⟩
    have d1 : decide (cols < 1) = false := decide_eq_false h1
    by_cases h2 : 24 < cols
    · have d2 : decide (24 < cols) = true := decide_eq_true h2
      go_enter Try.func10, Try.ntmps10
      go_wp2_with fail
      go_ret
      first | exact ⟨none, 0, rfl, srow_none _ _ _, Below.refl _ _⟩ | exact ⟨none, ⟨0, rfl⟩, srow_none _ _ _, Below.refl _ _⟩
    have d2 : decide (24 < cols) = false := decide_eq_false h2
    have d3 : decide ((100 : Int) < (n : Int)) = true := decide_eq_true (by omega)
    go_enter Try.func10, Try.ntmps10
    go_wp2_with fail
    go_ret
    first | exact ⟨none, 0, rfl, srow_none _ _ _, Below.refl _ _⟩ | exact ⟨none, ⟨0, rfl⟩, srow_none _ _ _, Below.refl _ _⟩
end Go.Proofs.Ytdoenkngmgclmaa
