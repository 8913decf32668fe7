/- The laws' sanity check of package box returns true where Resolve and Offsets answer as the chapter asks; no other condition. -/
import Derived.Test.YtjaapdkhjgolfaaBoC
import Derived.Test.YtjaapdkhjgolfaaFxEq
namespace Go.Proofs.Ytjaapdkhjgolfaa
open Go.RowKit Go.Sort
set_option linter.unusedVariables false
set_option linter.unusedSimpArgs false

theorem Reads.congr {w : World} {p : Option Addr} {n : Nat} {f g : Nat → Int} (h : Reads w p n f) (e : ∀ i, i < n → f i = g i) : Reads w p n g := fun hn => by
  obtain ⟨b, off, hp, hc⟩ := h hn
  exact ⟨b, off, hp, fun k hk => by rw [← e k hk]; exact hc k hk⟩
theorem pair_reads (w : World) (a b : Int) : Reads (w.alloc (.cells #[.int .i64 a, .int .i64 b] 3)) (some ⟨w.heap.size, 0, none⟩) 2 (fun i => if i = 0 then a else b) :=
  (IRow.new w 2 (fun i => if i = 0 then a else b)).reads
theorem shr_two {T : Int} {f : Nat → Int} (h0 : f 0 = 1) (h1 : f 1 = 2) (hT : T = 60) : shr T f 2 0 = 20 ∧ shr T f 2 1 = 40 := by
  subst hT
  have hg : Good f 2 := fun k hk => by
    rcases (show k = 0 ∨ k = 1 by omega) with rfl | rfl
    · rw [h0]; omega
    · rw [h1]; omega
  have hs : sumF f 2 = 3 := by simp [sumF, h0, h1]
  have q0 : quoF 60 3 f 0 = 20 := by unfold quoF; rw [h0]; rfl
  have q1 : quoF 60 3 f 1 = 40 := by unfold quoF; rw [h1]; rfl
  have hq : sumF (quoF 60 3 f) 2 = 60 := by simp [sumF, q0, q1]
  rcases shr_parts (T := 60) hg with ⟨e, _⟩ | ⟨_, h, g, _, hp⟩
  · omega
  · rw [hs, hq] at hp
    have p0 := hp 0 (by omega)
    have p1 := hp 1 (by omega)
    unfold partF at p0 p1
    rw [q0, if_neg (by omega)] at p0
    rw [q1, if_neg (by omega)] at p1
    omega
def awX (k : Nat) : Fx := if k = 0 then ⟨20, 0, 1000, 1, 0⟩ else ⟨10, 0, 1000, 2, 0⟩
theorem aw_tot : totF true 90 awX 2 (natF awX) (fr0 true awX) = 60 := by rfl
theorem aw_t0 : tgF true 90 awX 2 (natF awX) (fr0 true awX) 0 = 40 := by
  unfold tgF
  rw [aw_tot]
  have := (shr_two (T := 60) (f := pack (fr0 true awX) (wtF true awX) 2) rfl rfl rfl).1
  show (20 : Int) + 1 * shr 60 (pack (fr0 true awX) (wtF true awX) 2) 2 0 = 40
  rw [this]; rfl
theorem aw_t1 : tgF true 90 awX 2 (natF awX) (fr0 true awX) 1 = 50 := by
  unfold tgF
  rw [aw_tot]
  have := (shr_two (T := 60) (f := pack (fr0 true awX) (wtF true awX) 2) rfl rfl rfl).2
  show (10 : Int) + 1 * shr 60 (pack (fr0 true awX) (wtF true awX) 2) 2 1 = 50
  rw [this]; rfl
theorem aw_v : vioF true 90 awX 2 (natF awX) (fr0 true awX) = 0 := by
  unfold vioF
  have z0 : fr0 true awX 0 = false := rfl
  have z1 : fr0 true awX 1 = false := rfl
  simp only [sumF, z0, z1, aw_t0, aw_t1]
  rfl
theorem aw_res : ∀ i, i < 2 → resF 100 10 awX 2 i = if i = 0 then 40 else 50 := by
  have hg : growB (spcF 100 10 2) awX 2 = true := rfl
  have hs : spcF 100 10 2 = 90 := rfl
  have z0 : fr0 true awX 0 = false := rfl
  have z1 : fr0 true awX 1 = false := rfl
  have s0 : stepF true 90 awX 2 (natF awX) (fr0 true awX) 0 = (40, true) := by
    unfold stepF
    rw [z0, aw_v, aw_t0]
    rfl
  have s1 : stepF true 90 awX 2 (natF awX) (fr0 true awX) 1 = (50, true) := by
    unfold stepF
    rw [z1, aw_v, aw_t1]
    rfl
  intro i hi
  unfold resF
  rw [hg, hs]
  have e : ∀ k, k < 2 → (itS true 90 awX 2 1).1 k = (if k = 0 then 40 else 50) ∧ (itS true 90 awX 2 1).2 k = true := fun k hk => by
    rcases (show k = 0 ∨ k = 1 by omega) with rfl | rfl
    · show (stepF true 90 awX 2 (natF awX) (fr0 true awX) 0).1 = _ ∧ (stepF true 90 awX 2 (natF awX) (fr0 true awX) 0).2 = _
      rw [s0]; exact ⟨rfl, rfl⟩
    · show (stepF true 90 awX 2 (natF awX) (fr0 true awX) 1).1 = _ ∧ (stepF true 90 awX 2 (natF awX) (fr0 true awX) 1).2 = _
      rw [s1]; exact ⟨rfl, rfl⟩
  show (stepF true 90 awX 2 (itS true 90 awX 2 1).1 (itS true 90 awX 2 1).2 i).1 = _
  unfold stepF
  rw [(e i hi).2, if_pos rfl]
  exact (e i hi).1
theorem aw_ok : ∀ i, i < 2 → okF (awX i) := fun i hi => by
  rcases (show i = 0 ∨ i = 1 by omega) with rfl | rfl
  · unfold okF awX; simp
  · unfold okF awX; simp
theorem aw_of : ∀ i, i < 2 → ofF 100 10 0 2 (fun i => if i = 0 then 40 else 50) true i = if i = 0 then 60 else 0 := fun i hi => by
  have e1 : extO 100 10 0 2 (fun i => if i = 0 then 40 else 50) 1 = 0 := by unfold extO; rw [if_neg (fun h => absurd h.1 (by omega))]
  rcases (show i = 0 ∨ i = 1 by omega) with rfl | rfl
  · rfl
  · unfold ofF posO
    rw [e1]
    rfl
theorem aw_ob : ofB 100 10 0 2 (fun i => if i = 0 then 40 else 50) = true := rfl
theorem srow_two (w : World) (x : Nat → Fx) : SRow (w.alloc (.cells #[fxC x 0 0, fxC x 0 1, fxC x 0 2, fxC x 0 3, fxC x 0 4, fxC x 1 0, fxC x 1 1, fxC x 1 2, fxC x 1 3, fxC x 1 4] 36)) (some ⟨w.heap.size, 0, none⟩) 2 5 (fxC x) := fun _ => by
  refine ⟨w.heap.size, 0, rfl, by simp, fun i hi j hj => ?_⟩
  have e := heap_alloc_new w (.cells #[fxC x 0 0, fxC x 0 1, fxC x 0 2, fxC x 0 3, fxC x 0 4, fxC x 1 0, fxC x 1 1, fxC x 1 2, fxC x 1 3, fxC x 1 4] 36)
  unfold World.cell?
  rw [e]
  rcases (show i = 0 ∨ i = 1 by omega) with rfl | rfl
  · rcases (show j = 0 ∨ j = 1 ∨ j = 2 ∨ j = 3 ∨ j = 4 by omega) with rfl | rfl | rfl | rfl | rfl <;> rfl
  · rcases (show j = 0 ∨ j = 1 ∨ j = 2 ∨ j = 3 ∨ j = 4 by omega) with rfl | rfl | rfl | rfl | rfl <;> rfl
end Go.Proofs.Ytjaapdkhjgolfaa
