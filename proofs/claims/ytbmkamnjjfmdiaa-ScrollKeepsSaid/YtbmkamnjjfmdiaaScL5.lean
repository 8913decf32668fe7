/- What the laws ScrollVisible and ScrollRows run, where Clamp, Reveal, Visible and Keep answer as the chapter asks; no other condition. -/
import Derived.Test.YtbmkamnjjfmdiaaScL3
import Derived.Test.YtbmkamnjjfmdiaaFlat
namespace Go.Proofs.Ytbmkamnjjfmdiaa
open Go.RowKit Go.Sort
set_option linter.unusedVariables false
set_option linter.unusedSimpArgs false

theorem info_stS : (Try.prog.info? 38).map (fun i => (i.zero, i.size, i.bytes)) = some (some (.agg #[.string ⟨#[]⟩, .int .i64 0]), 2, 24) := by kernel_rfl
/-- The rows that the laws build. -/
def shL (l : Nat → Stp) (i : Nat) : Stp := ⟨if 1 < (l i).k.size then (l i).k.extract 0 1 else (l i).k, (l i).h % 64⟩
theorem sh_flat (l : Nat → Stp) (k : Nat) : flat k 2 (stC (shL l)) ++ [.string (shL l k).k, .int .i64 ((l k).h % 64)] = flat (k + 1) 2 (stC (shL l)) := by
  rw [flat_succ]; rfl
/-- What a call of short has returned. -/
def ShP (m : Nat) (l : Nat → Stp) (w : World) (e : Ending) (w' : World) : Prop := ∃ q cv, e = .returned (.slice q m cv) ∧ SRow w' q m 2 (stC (shL l)) ∧ m ≤ cv ∧ Below w.heap.size w w'
set_option maxHeartbeats 8000000 in
set_option maxRecDepth 100000 in
theorem short_any (p : Option Addr) (n c : Nat) (l : Nat → Stp) (w : World) (hp : SRow w p n 2 (stC l)) (m : Nat) (h1 : m ≤ n) (h2 : m ≤ 60) (h3 : m = n ∨ (m = 60 ∧ m < n)) :
    Calls Try.prog 21 #[.slice p n c] w (ShP m l w) := by
  obtain ⟨it, i1, i2, i3, i4⟩ := info_partsZ info_stS
  have HP := hide hp
  have OO : Hid (w.ownsRow w.heap.size 38 2 (.slice none 0 0) 0 (flat 0 2 (stC (shL l)))) := World.ownsRow_nil _ _ _ _
  have BB : Hid (Below w.heap.size w w) := Below.refl _ _
  clear hp
  go_enter Try.func21, Try.ntmps21
  go_wp2_with fail
  go_loopg [3, 4] (n + 1) (fun g1 vv vk wr => ∃ (k : Nat) (v : Value), v = vv ∧ vk = .int .i64 (k : Int) ∧ k ≤ m ∧ n - k < g1 ∧ Hid (wr.ownsRow w.heap.size 38 2 v k (flat k 2 (stC (shL l)))) ∧ Hid (Below w.heap.size w wr))
  case atStart => exact ⟨0, _, rfl, by go_num, by omega, by omega, OO, BB⟩
  case round =>
    clear OO BB
    obtain ⟨wo, rfl⟩ : ∃ wo : World, wo = wr := ⟨_, rfl⟩
    obtain ⟨k, va, rfl, rfl, hk, hg, OO, BB⟩ := hrel
    by_cases hlt : k < m
    case pos =>
      have hltz : (k : Int) < (n : Int) := by omega
      have hltw : (k : Int) < 60 := by omega
      have hk0 : (0 : Int) ≤ (k : Int) := by omega
      obtain ⟨lb, off, rfl, hlb, hc⟩ := (HP.out.below BB.out) (by omega)
      have y0 : wo.cell? ⟨lb, off + k * 2, none⟩ = some (.string (l k).k) := hc k (by omega) 0 (by decide)
      have y1 : wo.cell? ⟨lb, off + k * 2 + 1, none⟩ = some (.int .i64 (l k).h) := hc k (by omega) 1 (by decide)
      have EV := sh_flat l k
      have JQ : Hid (∀ W', W'.ownsRow w.heap.size 38 2 va k (flat k 2 (stC (shL l))) → Below w.heap.size w W' → W'.cell? ⟨lb, off + k * 2 + 1, none⟩ = some (.int .i64 (l k).h)) := fun W' ho hB => by
        obtain ⟨b3, o3, e, _, hc3⟩ := (HP.out.below hB) (by omega)
        injection e with e
        injection e with e4 e5
        subst e4 e5
        exact hc3 k (by omega) 1 (by decide)
      have kk : (shL l k).k = if 1 < (l k).k.size then (l k).k.extract 0 1 else (l k).k := rfl
      clear hc hlb
      generalize (l k).h = ht at *
      generalize (l k).k = ks at *
      generalize hxs : flat k 2 (stC (shL l)) = xs at *
      generalize (shL l k).k = kv at *
      by_cases hks : 1 < ks.size
      · rw [if_pos hks] at kk
        subst kk
        replace EV := hide EV
        have hsz : (1 : Int) < (ks.size : Int) := by omega
        have OA := hide (OO.out.alloc (.cells #[.string (ks.extract 0 1), .int .i64 (ht % 64)] 38))
        have BA := hide (BB.out.alloc BB.out.size (.cells #[.string (ks.extract 0 1), .int .i64 (ht % 64)] 38))
        clear JQ
        go_wp2_with (at_builtin; refine wpList_append_own _ rfl _ _ 22 rfl w.heap.size 38 it _ 2 24 Try.underlying22 i1 i2 i3 i4 rfl (by decide) va k xs rfl OA.out ⟨_, 0, none⟩ 1 1 [.string (ks.extract 0 1), .int .i64 (ht % 64)] rfl rfl ?_ ?_ ?_ ?_ ?_ ?_)
        ·
          intro j u hj
          rw [addr_add]
          exact (Blk.new (vs := [.string (ks.extract 0 1), .int .i64 (ht % 64)]) rfl).cell j hj
        · first
          | exact ⟨rfl, rfl⟩
          | (intro u hu; simp at hu; rcases hu with rfl | rfl <;> rfl)
        · unfold maxLen; omega
        · omega
        · exact (show w.heap.size ≤ (wo.alloc (.cells #[.string (ks.extract 0 1), .int .i64 (ht % 64)] 38)).heap.size from BA.out.size) |> fun h => by simpa [World.size_alloc] using h
        intro v6 w6 hO6 hg6 _
        have B6 := hide (below_byA BA.out OA.out hg6 (Nat.le_refl _) (Nat.le_refl _))
        have O6 := hide hO6
        clear hO6 hg6 OA BA OO BB
        have O7 : Hid (w6.ownsRow w.heap.size 38 2 v6 (k + 1) (flat (k + 1) 2 (stC (shL l)))) := by
          show World.ownsRow _ _ _ _ _ _ _
          rw [← EV.out]; exact O6.out
        clear O6 EV
        go_wp2_with fail
        go_roundg (n - k)
        case measure => exact (by omega)
        case rel => exact ⟨k + 1, v6, rfl, by go_num, by omega, by omega, O7, B6⟩
      · rw [if_neg hks] at kk
        subst kk
        replace EV := hide EV
        have hsz : ¬ (1 : Int) < (kv.size : Int) := by omega
        have OA := hide (OO.out.alloc (.cells #[.string kv, .int .i64 (ht % 64)] 38))
        have BA := hide (BB.out.alloc BB.out.size (.cells #[.string kv, .int .i64 (ht % 64)] 38))
        clear JQ
        go_wp2_with (at_builtin; refine wpList_append_own _ rfl _ _ 22 rfl w.heap.size 38 it _ 2 24 Try.underlying22 i1 i2 i3 i4 rfl (by decide) va k xs rfl OA.out ⟨_, 0, none⟩ 1 1 [.string kv, .int .i64 (ht % 64)] rfl rfl ?_ ?_ ?_ ?_ ?_ ?_)
        · first
          | exact ⟨rfl, rfl⟩
          | (intro u hu; simp at hu; rcases hu with rfl | rfl <;> rfl)
        · unfold maxLen; omega
        · omega
        · exact (show w.heap.size ≤ (wo.alloc (.cells #[.string kv, .int .i64 (ht % 64)] 38)).heap.size from BA.out.size) |> fun h => by simpa [World.size_alloc] using h
        intro v6 w6 hO6 hg6 _
        have B6 := hide (below_byA BA.out OA.out hg6 (Nat.le_refl _) (Nat.le_refl _))
        have O6 := hide hO6
        clear hO6 hg6 OA BA OO BB
        have O7 : Hid (w6.ownsRow w.heap.size 38 2 v6 (k + 1) (flat (k + 1) 2 (stC (shL l)))) := by
          show World.ownsRow _ _ _ _ _ _ _
          rw [← EV.out]; exact O6.out
        clear O6 EV
        go_wp2_with fail
        go_roundg (n - k)
        case measure => exact (by omega)
        case rel => exact ⟨k + 1, v6, rfl, by go_num, by omega, by omega, O7, B6⟩
    obtain rfl : m = k := by omega
    obtain ⟨q, cv, rfl, hcv, hq⟩ := own_srow OO.out
    have S1 := hide hq
    have B1 := hide BB.out
    clear OO BB HP hq
    rcases h3 with rfl | ⟨rfl, h3⟩
    · have hltz : ¬ (m : Int) < (m : Int) := by omega
      go_wp2_with fail
      go_ret
      exact ⟨q, cv, rfl, S1.out, hcv, B1.out⟩
    · have hltz : ((60 : Nat) : Int) < (n : Int) := by omega
      go_wp2_with fail
      go_ret
      exact ⟨q, cv, rfl, S1.out, hcv, B1.out⟩
end Go.Proofs.Ytbmkamnjjfmdiaa
