/- What Tops, Visible and Pinned of the reference of scroll return; no condition but on sizes. -/
import Derived.Test.YtbmkamnjjfmdiaaScR1
import Derived.Test.YtbmkamnjjfmdiaaApM
namespace Go.Proofs.Ytbmkamnjjfmdiaa
open Go.RowKit Go.Sort
set_option linter.unusedVariables false
set_option linter.unusedSimpArgs false

theorem info_inS : (Try.prog.info? 3).map (fun i => (i.zero, i.size, i.bytes)) = some (some (.int .i64 0), 1, 8) := by kernel_rfl
theorem info_partsZ {i : Option TypeInfo} {z : Value} {n m : Nat} (h : i.map (fun i => (i.zero, i.size, i.bytes)) = some (some z, n, m)) : ∃ j, i = some j ∧ j.zero = some z ∧ j.size = n ∧ j.bytes = m := by
  cases i with
  | none => simp at h
  | some j => simp at h; exact ⟨j, rfl, h.1, h.2.1, h.2.2⟩
theorem vals_snoc (n : Nat) (f : Nat → Int) : vals n f ++ [.int .i64 (f n)] = vals (n + 1) f := by simp [vals, List.range_succ]
/-- What a call of Tops has returned. -/
def TpP (n : Nat) (l : Nat → Stp) (w : World) (e : Ending) (w' : World) : Prop := ∃ b k, e = .returned (.slice (some ⟨b, 0, none⟩) (n + 1) k) ∧ CRw w' b (n + 1) (topF l) ∧ w.heap.size ≤ b ∧ Below w.heap.size w w'
set_option maxHeartbeats 8000000 in
set_option maxRecDepth 100000 in
theorem rtops_any (p : Option Addr) (n c : Nat) (l : Nat → Stp) (w : World) (hp : SRow w p n 2 (stC l)) (hr : rowsB n l = true) : Calls Try.prog 27 #[.slice p n c] w (TpP n l w) := by
  obtain ⟨it, i1, i2, i3, i4⟩ := info_partsZ info_inS
  have hn := (rows_iff.1 hr).1
  have HP := hide hp
  have BD : Hid (∀ i, i ≤ n → 0 ≤ topF l i ∧ topF l i ≤ 10995116277760000) := fun i hi => top_big hr hi
  have OO : Hid ((w.alloc (.cells #[.int .i64 0] 3)).ownsRow w.heap.size 3 1 (.slice (some ⟨w.heap.size, 0, none⟩) 1 1) 1 (vals 1 (topF l))) := ⟨rfl, Or.inr ⟨w.heap.size, 1, #[.int .i64 0], rfl, Nat.le_refl _, heap_alloc_new w _, Nat.le_refl _, by unfold maxLen; omega, rfl, rfl⟩⟩
  have BB : Hid (Below w.heap.size w (w.alloc (.cells #[.int .i64 0] 3))) := (Below.refl _ _).alloc (Nat.le_refl _) _
  clear hp hr
  go_enter Try.func27, Try.ntmps27
  go_wp2_with fail
  generalize w.alloc (.cells #[.int .i64 0] 3) = w1 at *
  go_loopg [3, 4] (n + 1) (fun g1 vv vk wr => ∃ (k : Nat) (v : Value), v = vv ∧ vk = .int .i64 (k : Int) ∧ k ≤ n ∧ n - k < g1 ∧ Hid (wr.ownsRow w.heap.size 3 1 v (k + 1) (vals (k + 1) (topF l))) ∧ Hid (Below w.heap.size w wr))
  case atStart => exact ⟨0, _, rfl, by go_num, by omega, by omega, OO, BB⟩
  case round =>
    clear OO BB
    obtain ⟨wo, rfl⟩ : ∃ wo : World, wo = wr := ⟨_, rfl⟩
    obtain ⟨k, va, rfl, rfl, hk, hg, OO, BB⟩ := hrel
    by_cases hlt : k < n
    case neg =>
      have hltz : ¬ (k : Int) < (n : Int) := by omega
      obtain rfl : n = k := by omega
      obtain ⟨q, b, cv, rfl, hcv, hb, hq⟩ := own_sz OO.out
      obtain ⟨rfl, hC⟩ := hq (by omega)
      have CC := hide hC
      have B0 := hide BB.out
      clear OO BB HP BD hq hC
      go_wp2_with fail
      go_ret
      exact ⟨b, cv, rfl, CC.out, hb, B0.out⟩
    have hltz : (k : Int) < (n : Int) := by omega
    have hk0 : (0 : Int) ≤ (k : Int) := by omega
    have hk1 : (k : Int) < (k : Int) + 1 := by omega
    obtain ⟨q, tb, cv, rfl, hcv, htb, hq⟩ := own_sz OO.out
    obtain ⟨rfl, hC⟩ := hq (by omega)
    obtain ⟨lb, off, rfl, hlb, hc⟩ := (HP.out.below BB.out) (by omega)
    have b1 := BD.out k (by omega)
    have b2 := BD.out (k + 1) (by omega)
    have ts : topF l (k + 1) = topF l k + (l k).h := rfl
    obtain ⟨b1a, b1b⟩ := b1
    obtain ⟨b2a, b2b⟩ := b2
    rw [ts] at b2a b2b
    have wt : IntKind.i64.wrap (topF l k + (l k).h) = topF l k + (l k).h := wr (by omega) (by omega)
    have EV : Hid (vals (k + 1) (topF l) ++ [.int .i64 (topF l k + (l k).h)] = vals (k + 2) (topF l)) := by
      show _ = _
      rw [← ts]
      exact vals_snoc (k + 1) (topF l)
    have JQ : Hid (∀ W', W'.ownsRow w.heap.size 3 1 (.slice (some ⟨tb, 0, none⟩) (k + 1) cv) (k + 1) (vals (k + 1) (topF l)) → Below w.heap.size w W' → W'.cell? ⟨tb, k, none⟩ = some (.int .i64 (topF l k)) ∧ W'.cell? ⟨lb, off + k * 2 + 1, none⟩ = some (.int .i64 (l k).h)) := fun W' ho hB => by
      obtain ⟨q', tb', cv', e, -, -, hq'⟩ := own_sz ho
      obtain ⟨rfl, hC'⟩ := hq' (by omega)
      injection e with e1 e2 e3
      injection e1 with e1
      injection e1 with e1
      subst e1
      refine ⟨hC'.cell (by omega), ?_⟩
      have := (HP.out.below hB) (by omega)
      obtain ⟨b3, o3, e, _, hc3⟩ := this
      injection e with e
      injection e with e4 e5
      subst e4 e5
      exact hc3 k hlt 1 (by decide)
    clear hq hC hc hlb ts BD htb
    generalize topF l k = tk at *
    generalize (l k).h = hk' at *
    generalize vals (k + 1) (topF l) = xs at *
    go_wp2_with fail
    refine MJ.wp_region_mixed (fun W' => W'.cell? ⟨tb, k, none⟩ = some (.int .i64 tk) ∧ W'.cell? ⟨lb, off + k * 2 + 1, none⟩ = some (.int .i64 hk')) [11, 12, 13] [(23, 11), (24, 12), (3, 13)] (A1M w w.heap.size 3 1 (.slice (some ⟨tb, 0, none⟩) (k + 1) cv) (k + 1) xs [.int .i64 (tk + hk')] 11 12 13) (by kernel_rfl) (by kernel_rfl) (by simp) ?h0 (fun D D' vs vs' W hD h => h.ext hD) ?hold ?_
    case h0 => exact fun vs => A1M.start ⟨BB.out.os, BB.out.tape, BB.out.output, BB.out.size, BB.out.block⟩ OO.out
    case hold =>
      intro D vs W i hM hi hB hD hcl
      have hk : D 12 = false := hold_of (by decide +kernel) (by simpa using hi) hB hD hcl
      exact JQ.out W (hM.h0 hk) hM.bl
    repeat (refine MJ.lex_calm rfl (by rfl) (fun K hK => ?_); apply Exists.intro; refine ⟨fun W' hW => ?_, ?_⟩; (dsimp only at hW; go_simp; exact rfl); go_simp; refine hK _ ?_; clear hK K)
    refine MJ.lex_made (by rfl) rfl ?_ ?_
    · rintro D vs W hM hD hcl hdep
      have fb := off_of (hcl 12 11 (by decide +kernel)) hD
      have fc := off_of (hcl 13 12 (by decide +kernel)) fb
      have FIN := hide (hM.opA (by decide) (by decide) fb fc)
      clear hM
      simp [go_sem, evS, List.lookup]
      exact FIN.out
    repeat (refine MJ.lex_calm rfl (by rfl) (fun K hK => ?_); apply Exists.intro; refine ⟨fun W' hW => ?_, ?_⟩; (dsimp only at hW; go_simp; exact rfl); go_simp; refine hK _ ?_; clear hK K)
    refine MJ.lex_made (by rfl) rfl ?_ ?_
    · rintro D vs W hM hD hcl hdep
      have fa := hdep 11 (by decide +kernel)
      have fc := off_of (hcl 13 12 (by decide +kernel)) hD
      obtain ⟨g, e, hb⟩ := hM.ha fa hD
      have hO := hM.h0 hD
      refine does_append_any W _ _ 26 rfl w.heap.size 3 it _ 1 8 Try.underlying26 i1 i2 i3 i4 rfl (by decide) (.slice (some ⟨tb, 0, none⟩) (k + 1) cv) (k + 1) xs rfl hO ⟨g, 0, none⟩ 1 1 [.int .i64 (tk + hk')] e rfl ?c1 ?c2 ?c3 ?c4 hM.bl.size ?_
      case c1 =>
        intro j u hj
        rw [addr_add]
        exact hb.cell j hj
      case c2 => intro u hu; simp at hu; rcases hu with rfl; rfl
      case c3 => unfold maxLen; omega
      case c4 => omega
      intro v' w' ho hgr
      exact hM.opB (by decide) hD fc (Nat.le_refl _) ho hgr
    repeat (refine MJ.lex_calm rfl (by rfl) (fun K hK => ?_); apply Exists.intro; refine ⟨fun W' hW => ?_, ?_⟩; (dsimp only at hW; go_simp; exact rfl); go_simp; refine hK _ ?_; clear hK K)
    refine MJ.lex_made (by rfl) rfl ?_ ?_
    · rintro D vs W hM hD hcl hdep
      have FIN := hide (hM.opC (by decide) (by decide) (hdep 12 (by decide +kernel)))
      clear hM
      simp [go_sem, evS, List.lookup]
      exact FIN.out
    refine MJ.lex_nil ?_
    rintro us w6 hM
    have ⟨e1, hO6, hB6⟩ := hM.at_end
    have O6 := hide hO6
    have B6 := hide hB6
    clear hM hO6 hB6 JQ BB OO
    simp only [fillS, List.foldl_cons, List.foldl_nil, e1]
    generalize us 12 = v6 at *
    clear e1
    have O7 : Hid (w6.ownsRow w.heap.size 3 1 v6 (k + 1 + 1) (vals (k + 1 + 1) (topF l))) := by
      show World.ownsRow _ _ _ _ _ _ _
      rw [← EV.out]; exact O6.out
    clear O6 EV
    go_wp2_with fail
    go_roundg (n - k)
    case measure => exact hg
    case rel => exact ⟨k + 1, v6, rfl, by go_num, by omega, by omega, O7, B6⟩
end Go.Proofs.Ytbmkamnjjfmdiaa
