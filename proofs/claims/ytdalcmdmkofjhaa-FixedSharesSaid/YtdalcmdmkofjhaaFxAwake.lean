/- The references' comparison of two lists returns true where they are equal, and the laws' sanity check returns true; no condition. -/
import Derived.Test.YtdalcmdmkofjhaaFxShare
namespace Go.Proofs.Ytdalcmdmkofjhaa
open Go.RowKit

theorem Reads.drewN {w : World} {p : Option Addr} {n : Nat} {f : Nat → Int} (h : Reads w p n f) (k : Nat) : Reads (w.drewN k) p n f := h

set_option maxHeartbeats 1000000 in
theorem equal_yes (p q : Option Addr) (n c1 c2 : Nat) (f : Nat → Int) (w : World) (hn : n ≤ 1048576) (h1 : Reads w p n f) (h2 : Reads w q n f) :
    Calls Try.prog 21 #[.slice p n c1, .slice q n c2] w fun e w' => e = .returned (.bool true) ∧ Drawn w w' := by
  rcases Nat.eq_zero_or_pos n with rfl | hp
  · clear h1 h2
    go_enter Try.func21, Try.ntmps21
    go_wp2
    refine wp_loop_rounds 1 ?_
    rw [rounds_succ]
    go_wp2
    go_ret
    exact ⟨rfl, Drawn.refl _⟩
  · obtain ⟨b, off, rfl, hb⟩ := h1 hp
    obtain ⟨b', off', rfl, hb'⟩ := h2 hp
    have HB := hide hb
    have HB' := hide hb'
    clear h1 h2 hb hb'
    go_enter Try.func21, Try.ntmps21
    go_wp2
    go_loopg [5] (n + 1) (fun g1 vk wr => ∃ k j : Nat, vk = .int .i64 k ∧ k ≤ n ∧ n - k < g1 ∧ Hid (wr = w.drewN j))
    case atStart => exact ⟨0, 0, by go_num, by omega, by omega, rfl⟩
    case round =>
      obtain ⟨k, j, rfl, hk, hg, HW⟩ := hrel
      by_cases hlt : k < n
      · have hltz : (k : Int) < (n : Int) := by omega
        have c1 : wr.cell? ⟨b, off + k, none⟩ = some (.int .i64 (f k)) := by rw [HW.out]; exact HB.out k hlt
        have c2 : wr.cell? ⟨b', off' + k, none⟩ = some (.int .i64 (f k)) := by rw [HW.out]; exact HB'.out k hlt
        go_wp2
        go_quiet (fail)
        have HW' : Hid (wr.drewN nq = w.drewN (j + nq)) := by show _ = _; rw [HW.out, World.drewN_drewN]
        clear HW c1 c2
        generalize wr.drewN nq = w2 at HW' ⊢
        go_wp2
        go_roundg (n - k)
        case measure => omega
        case rel => exact ⟨k + 1, j + nq, by go_num, by omega, by omega, HW'⟩
      · have hltz : ¬ (k : Int) < (n : Int) := by omega
        go_wp2
        go_ret
        exact ⟨rfl, j, HW.out⟩

/-- Of three equal remainders the order is the indices' own. -/
theorem three {h g : Nat → Nat} (h1 : ∀ k, g (h k) = k) (h3 : ∀ k, 3 ≤ k → h k = k) {r : Nat → Int} (hr : ∀ i j, r i = r j) (h4 : ∀ i j, i < j → j < 3 → before r (h i) (h j)) : g 0 = 0 ∧ g 1 = 1 ∧ g 2 = 2 := by
  have lt : ∀ k, k < 3 → h k < 3 := fun k hk => (into (a := 0) h1 (fun k hk => h3 k (by omega)) (Nat.zero_le _) hk).2
  have a := h4 0 1 (by omega) (by omega)
  have b := h4 1 2 (by omega) (by omega)
  unfold before at a b
  have e1 := hr (h 0) (h 1)
  have e2 := hr (h 1) (h 2)
  have l0 := lt 0 (by omega)
  have l2 := lt 2 (by omega)
  have k0 : h 0 = 0 := by omega
  have k1 : h 1 = 1 := by omega
  have k2 : h 2 = 2 := by omega
  refine ⟨?_, ?_, ?_⟩
  · rw [← k0, h1, k0]
  · have := h1 1; rwa [k1] at this
  · have := h1 2; rwa [k2] at this
theorem ints3 (a b c : Int) : #[Value.int .i64 a, .int .i64 b, .int .i64 c] = ints 3 (fun i => if i = 0 then a else if i = 1 then b else c) := rfl

theorem share_ten (b : Nat) (w : World) (h : Reads w (some ⟨b, 0, none⟩) 3 (fun _ => 1)) :
    Calls Try.prog 19 #[.int .i64 10, .slice (some ⟨b, 0, none⟩) 3 3] w fun e w' =>
      e = .returned (.tuple #[.slice (some ⟨w.heap.size, 0, none⟩) 3 3, .int .i64 0]) ∧ Below w.heap.size w w' ∧ IRow w' w.heap.size 3 (fun i => if i = 0 then 4 else if i = 1 then 3 else 3) := by
  have hs : sumF (fun _ => (1 : Int)) 3 = 3 := rfl
  refine (share_main 10 _ 3 3 (fun _ => 1) w (by omega) (by omega) (by omega) h (fun k _ => ⟨by show (0 : Int) ≤ 1; omega, by show (1 : Int) ≤ _; omega⟩) (by rw [hs]; omega)).mono ?_
  rintro e w' ⟨P, he, hB, hP, hc⟩
  refine ⟨he, hB, hP.congr fun i hi => ?_⟩
  rcases hc with ⟨h0, _⟩ | ⟨_, f, g, g1, _, g3, g4, g5⟩
  · rw [hs] at h0; omega
  · obtain ⟨t0, t1, t2⟩ := three g1 g3 (fun _ _ => rfl) g4
    rw [g5 i hi]
    rcases (show i = 0 ∨ i = 1 ∨ i = 2 by omega) with rfl | rfl | rfl
    · unfold partF; rw [t0]; rfl
    · unfold partF; rw [t1]; rfl
    · unfold partF; rw [t2]; rfl

set_option maxHeartbeats 1000000 in
theorem awake_any (w : World) : Calls Try.prog 14 #[] w fun e w' => e = .returned (.bool true) ∧ Below w.heap.size w w' := by
  have r1 : IRow (w.alloc (.cells #[.int .i64 1, .int .i64 1, .int .i64 1] 3)) w.heap.size 3 (fun _ => 1) := by
    rw [ints3]
    exact (IRow.new w 3 _).congr (fun i _ => by (repeat' split) <;> rfl)
  have B1 : Below w.heap.size w (w.alloc (.cells #[.int .i64 1, .int .i64 1, .int .i64 1] 3)) := (Below.refl _ _).alloc (Nat.le_refl _) _
  have C := hide (share_ten _ _ r1.reads)
  have B1 := hide B1
  clear r1
  go_enter Try.func14, Try.ntmps14
  go_wp2_with fail
  refine C.out.mono ?_
  rintro e w1 ⟨rfl, hB, hP⟩
  have B2 := hide (B1.out.trans (hB.mono (by simp)))
  have hlt := hP.lt
  have E := hide (equal_yes (some ⟨w.heap.size + 1, 0, none⟩) (some ⟨w1.heap.size, 0, none⟩) 3 3 3 (fun i => if i = 0 then 4 else if i = 1 then 3 else 3) (w1.alloc (.cells #[.int .i64 4, .int .i64 3, .int .i64 3] 3)) (by omega)
    (by have := (hP.alloc (.cells #[.int .i64 4, .int .i64 3, .int .i64 3] 3)).reads; simpa using this) (by rw [ints3]; exact (IRow.new w1 3 _).reads))
  clear C B1 hB hP hlt
  go_wp2_with fail
  refine E.out.mono ?_
  rintro e w2 ⟨rfl, k, rfl⟩
  clear E
  go_wp2
  go_ret
  refine ⟨rfl, ?_⟩
  have hb := B2.out.alloc B2.out.size (.cells #[.int .i64 4, .int .i64 3, .int .i64 3] 3)
  exact ⟨hb.os, hb.tape, hb.output, hb.size, hb.block⟩

/-- The row's last step: old memory as it was, the arguments read again as they did. -/
theorem post_kept {H : Type} {enc : TypeId × Value → H} {P : Program} {f : Func} {s : ChangeSpec} {apart fresh handsOn : Bool} {W W' : World} {args : Array Value} {v : Value} {ds gs : List (DataW H)} {before pa pv : List MemPlace}
    (hW : DataW.Whole enc P f.params.toList s.vars apart W args.toList ds gs before)
    (hres : ∀ (b : Nat) (sp : Nat → Bool) (hd : Bool), DataW.TrodAll enc P W' b sp hd f.resultTypes.toList (v.resultList f.resultTypes.size) (s.fn H (ds ++ gs)).results [])
    (hargs : ∀ sp : Nat → Bool, (∀ p ∈ before, sp p.block = true) → DataW.TrodAll enc P W' 0 sp true f.params.toList args.toList (s.fn H (ds ++ gs)).args pa)
    (hvars : ∀ sp : Nat → Bool, (∀ p ∈ before, sp p.block = true) → DataW.TrodVars enc P W' sp s.vars (s.fn H (ds ++ gs)).vars pv)
    (hps : before = pa ++ pv) (hb : Below W.heap.size W W') : s.post enc P f apart fresh handsOn false W args v W' := by
  have old : ∀ p ∈ before, (fun b => decide (b < W.heap.size)) p.block = true := fun p hp => by simpa using hW.lt p hp
  exact ⟨ds, gs, before, [], pa, pv, hW, hres _ _ _, hargs _ old, hvars _ old,
    World.keptBut_mono (fun p hp => ⟨hp, Or.inr (by rw [hps, List.mem_append] at hp; exact hp)⟩) (hb.frame (· ∈ before)), fun h => by cases h⟩
end Go.Proofs.Ytdalcmdmkofjhaa
