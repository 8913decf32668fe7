/- Levels of the empty text. -/
import Derived.Test.YtdkmjhbkjhikfaaBdL
namespace Go.Proofs.Ytdkmjhbkjhikfaa
open Go.RowKit Go.Sort Go.Maps
set_option linter.unusedVariables false
set_option linter.unusedSimpArgs false

theorem kept_zero (pb gb cb lb : Nat) (vt : Value) (base : Int) (g c l : Nat → Int) (w : World) (H : ParAt w pb gb cb lb 0 vt base g c l) :
    Calls Try.prog 42 #[.pointer (some ⟨pb, 0, none⟩)] w fun e w' => e = .returned (.slice none 0 0) ∧ w = w' := by
  have b2 := H.blk.cell 2 rfl
  clear H
  go_enter Try.func42, Try.ntmps42
  go_wp2
  refine wp_loop_rounds 1 ?_
  rw [rounds_succ]
  go_wp2
  go_ret
  exact ⟨rfl, rfl⟩
theorem levelRuns_zero (pb : Nat) (w : World) :
    Calls Try.prog 43 #[.pointer (some ⟨pb, 0, none⟩), .slice none 0 0] w fun e w' => e = .returned (.slice none 0 0) ∧ w = w' := by
  go_enter Try.func43, Try.ntmps43
  go_wp2
  refine wp_loop_rounds 1 ?_
  rw [rounds_succ]
  go_wp2
  go_ret
  exact ⟨rfl, rfl⟩
set_option maxHeartbeats 2000000 in
theorem nextRuns_zero (pb gb cb lb : Nat) (vt : Value) (base : Int) (g c l : Nat → Int) (w : World) (H : ParAt w pb gb cb lb 0 vt base g c l) :
    Calls Try.prog 44 #[.pointer (some ⟨pb, 0, none⟩), .slice none 0 0, .slice none 0 0] w fun e w' => ∃ b, e = .returned (.slice (some ⟨b, 0, none⟩) 0 0) ∧ Grew w w' := by
  have hmm := @run_makeMap Try.prog
  have HH := hide H
  have G1 : Grew w (w.alloc (.map #[] 0)) := (Grew.refl w).alloc _
  clear H
  go_enter Try.func44, Try.ntmps44
  go_wp2
  generalize w.alloc (.map #[] 0) = w1 at *
  clear hmm
  refine wp_loop_rounds 1 ?_
  rw [rounds_succ]
  have H1 := hide (HH.out.grew G1)
  have b2 := H1.out.blk.cell 2 rfl
  have KM := hide (matches_any gb 0 g w1 H1.out.giv (fun k hk => by omega) (by omega))
  have G1' := hide G1
  clear G1
  go_wp2_with fail
  refine KM.out.mono ?_
  rintro e w2 ⟨eb, rfl, G2, heb, E2⟩
  have G2' := hide (G1'.out.trans G2)
  have hmk : (Instr.makeSlice 22 (.int .i64 0) (.int .i64 0)).run Try.prog w2 = .ok (.slice (some ⟨w2.heap.size, 0, none⟩) 0 0) (w2.alloc (.cells (ints 0 (fun _ => 0)) 3)) := make_ints 0 (by omega) w2
  have G3 := hide (G2'.out.alloc (.cells (ints 0 (fun _ => 0)) 3))
  clear G2 E2 b2 H1 KM G2'
  go_wp2
  refine wp_loop_rounds 1 ?_
  rw [rounds_succ]
  go_wp2
  go_ret
  exact ⟨_, rfl, G3.out⟩
theorem make_bool0 (w : World) : (Instr.makeSlice 29 (.int .i64 0) (.int .i64 0)).run Try.prog w = .ok (.slice (some ⟨w.heap.size, 0, none⟩) 0 0) (w.alloc (.cells #[] 4)) := by
  obtain ⟨i, hi, hz0, hz1, hz2⟩ := info_parts info_bool
  have hr := run_make (P := Try.prog) w 29 4 i _ Try.underlying29 hi hz0 .i64 .i64 0 0 (by omega) (by omega) (by rw [hz2]; omega) (by omega)
  rw [hr, hz1]
  have e : madeCells (Value.bool false).cells 0 = #[] := by kernel_rfl
  show Result.ok _ (w.alloc (.cells (madeCells (Value.bool false).cells 0) 4)) = _
  rw [e]
  rfl
theorem sequences_zero (pb gb cb lb : Nat) (vt : Value) (base : Int) (g c l : Nat → Int) (w : World) (H : ParAt w pb gb cb lb 0 vt base g c l) :
    Calls Try.prog 22 #[.pointer (some ⟨pb, 0, none⟩)] w fun e w' => e = .returned (.slice none 0 0) ∧ Grew w w' := by
  have K1 := hide (kept_zero pb gb cb lb vt base g c l w H)
  have K3 := hide (nextRuns_zero pb gb cb lb vt base g c l w H)
  clear H
  go_enter Try.func22, Try.ntmps22
  go_wp2_with fail
  refine K1.out.mono ?_
  rintro e w' ⟨rfl, rfl⟩
  go_wp2_with fail
  refine (levelRuns_zero pb w).mono ?_
  rintro e w' ⟨rfl, rfl⟩
  go_wp2_with fail
  refine K3.out.mono ?_
  rintro e w1 ⟨b, rfl, G1⟩
  have hmb := make_bool0 w1
  have G2 := hide (G1.alloc (.cells #[] 4))
  clear G1 K1 K3
  go_wp2
  refine wp_loop_rounds 1 ?_
  rw [rounds_succ]
  go_wp2
  go_ret
  exact ⟨rfl, G2.out⟩
theorem levels_zero (base : Int) (w : World) (hb : base = 0 ∨ base = 1) :
    Calls Try.prog 9 #[.slice none 0 0, .int .i64 base] w fun e w' => ∃ lb, e = .returned (.slice (some ⟨lb, 0, none⟩) 0 0) ∧ Grew w w' := by
  have K1 := hide (newParagraph_gen none 0 0 base base (fun _ => 0) w (fun h => by omega) (fun k hk => by omega) (by omega) (fun W _ => (Base_dir _ base W hb).mono fun _ _ ⟨h1, h2⟩ => ⟨h1, h2 ▸ Grew.refl _⟩))
  go_enter Try.func9, Try.ntmps9
  go_wp2_with fail
  refine K1.out.mono ?_
  rintro e w1 ⟨pb, gb, cb, lb, rfl, G1, hpb, hlb, P1⟩
  have G1' := hide G1
  have P1' := hide P1
  have HLB := hide hlb
  have K2 := hide (embed_any pb gb cb lb 0 _ base _ _ (fun _ => 0) w1 P1 (fun k hk => by omega) (by omega))
  clear G1 P1 K1 hpb hlb
  go_wp2_with fail
  refine K2.out.mono ?_
  rintro e w2 ⟨rfl, B2, R2⟩
  have P2 := hide (P1'.out.but B2 R2)
  have G2 := hide (B2.grew G1'.out HLB.out)
  have K3 := hide (sequences_zero pb gb cb lb _ base _ _ _ w2 P2.out)
  clear B2 R2 P1' G1' K2
  go_wp2_with fail
  refine K3.out.mono ?_
  rintro e w3 ⟨rfl, G3⟩
  have P3 := hide (P2.out.grew G3)
  have G3' := hide (G2.out.trans G3)
  have K6 := hide (levelRemoved_any pb gb cb lb 0 _ base _ _ _ w3 P3.out (fun k hk => by omega) (by omega))
  have K7 := hide (levelSeparators_any pb gb cb lb 0 _ base _ _ _ w3 P3.out (fun k hk => by omega) (by omega))
  clear G3 P2 G2 K3
  go_wp2
  refine wp_loop_rounds 1 ?_
  rw [rounds_succ]
  go_wp2_with fail
  refine K6.out.mono ?_
  rintro e w' ⟨rfl, rfl⟩
  clear K6
  go_wp2_with fail
  refine K7.out.mono ?_
  rintro e w6 ⟨rfl, f6, B6, R6, T6⟩
  have P6 := hide (P3.out.but B6 R6)
  have G6 := hide (B6.grew G3'.out HLB.out)
  have p4 := P6.out.blk.cell 4 rfl
  clear B6 R6 P3 G3' K7 T6
  go_wp2
  go_ret
  exact ⟨lb, rfl, G6.out⟩
end Go.Proofs.Ytdkmjhbkjhikfaa
