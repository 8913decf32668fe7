/- The sanity check's two tracks, where Tracks answers as the chapter asks; no premise on the program. -/
import Derived.Test.YtdoenkngmgclmaaGdM
namespace Go.Proofs.Ytdoenkngmgclmaa
open Go.RowKit Go.Sort
set_option linter.unusedVariables false
set_option linter.unusedSimpArgs false

def twT (i : Nat) : Tk := if i = 0 then ⟨0, 30⟩ else ⟨2, 1⟩
def noI (i : Nat) : It := ⟨0, 0, 0, 0⟩
theorem tw_ok : allOk 100 10 2 twT 0 noI := by
  refine ⟨by omega, by omega, fun i hi => ?_, fun k hk => absurd hk (Nat.not_lt_zero _)⟩
  rcases (show i = 0 ∨ i = 1 by omega) with rfl | rfl
  · unfold okT twT; simp
  · unfold okT twT; simp
theorem tw_er : erG 100 10 2 twT 0 noI = 0 := by
  unfold erG
  rw [if_neg (by omega), if_pos tw_ok]
theorem tw_lq (i : Nat) : lqF twT 10 noI 2 0 i = if i = 0 then 30 else 0 := by
  show ls0 twT noI 0 i = _
  unfold ls0 twT
  by_cases h : i = 0
  · subst h; rfl
  · simp [h, mxK]
theorem tw_mq (i : Nat) : mqF twT 10 noI 2 0 i = if i = 0 then 30 else 0 := by
  show max (ms0 twT noI 0 i) (lqF twT 10 noI 2 0 i) = _
  rw [tw_lq]
  unfold ms0 twT
  by_cases h : i = 0
  · subst h; rfl
  · simp [h, mxK, ls0, twT]
theorem tw_tot : totG 10 (lqF twT 10 noI 2 0) 2 = 40 := by
  unfold totG
  simp [sumF, tw_lq]
theorem tw_s1 (i : Nat) : s1G 100 twT 10 noI 2 0 i = if i = 0 then 30 else 0 := by
  unfold s1G
  have hz : zA twT i = true := by
    unfold zA twT
    by_cases h : i = 0 <;> simp [h]
  rw [if_neg (fun h => by rw [hz] at h; exact Bool.noConfusion h.2), tw_lq]
theorem tw_re : reG 100 twT 10 noI 2 0 = 60 := by
  unfold reG spcF
  simp [sumF, tw_s1, zF, twT]
theorem tw_res (x : Nat → Fx) (h : x 0 = ⟨0, 0, 1048576, 1, 0⟩) : resF 60 0 x 1 0 = 60 := by
  have hs : spcF 60 0 1 = 60 := rfl
  have hn : natF x 0 = 0 := by unfold natF; rw [h]; rfl
  have hg : growB 60 x 1 = true := by unfold growB; rw [decide_eq_true_eq]; simp [sumF, hn]
  have hw : wtF true x 0 = 1 := by unfold wtF; rw [h]; rfl
  have hz : fr0 true x 0 = false := by unfold fr0; rw [hw, hn, h]; rfl
  have hr : rk (fr0 true x) 1 = 1 := by simp [rk, hz]
  have hp : pack (fr0 true x) (wtF true x) 1 0 = 1 := by simp [pack, hz, rk, hw]
  have ht : totF true 60 x 1 (natF x) (fr0 true x) = 60 := by unfold totF freF sgF; simp [sumF, hz, h]; rfl
  have hgd : Good (pack (fr0 true x) (wtF true x) 1) 1 := fun k hk => by
    obtain rfl : k = 0 := by omega
    rw [hp]; omega
  have hsh : shr 60 (pack (fr0 true x) (wtF true x) 1) 1 0 = 60 := by
    rcases (shr_parts (T := 60) hgd).sum hgd with ⟨e, _⟩ | ⟨_, e⟩
    · simp [sumF, hp] at e
    · simpa [sumF] using e
  have htg : tgF true 60 x 1 (natF x) (fr0 true x) 0 = 60 := by
    unfold tgF
    rw [ht, hr, show rk (fr0 true x) 0 = 0 from rfl, hsh, h]
    rfl
  have hc : clF (x 0) 60 = 60 := by rw [h]; rfl
  have hv : vioF true 60 x 1 (natF x) (fr0 true x) = 0 := by unfold vioF; simp [sumF, hz, htg, hc]
  unfold resF
  rw [hs, hg]
  show (stepF true 60 x 1 (itS true 60 x 1 0).1 (itS true 60 x 1 0).2 0).1 = 60
  show (stepF true 60 x 1 (natF x) (fr0 true x) 0).1 = 60
  unfold stepF
  rw [hz, hv, htg, hc]
  rfl
theorem tw_tr : ∀ i, i < 2 → trF 100 twT 10 noI 2 0 i = if i = 0 then 30 else 60 := fun i hi => by
  unfold trF
  rcases (show i = 0 ∨ i = 1 by omega) with rfl | rfl
  · rw [show zF twT 0 = true from rfl, tw_s1]; rfl
  · rw [show zF twT 1 = false from rfl, tw_re]
    have e1 : rk (zF twT) 2 = 1 := rfl
    have e2 : rk (zF twT) 1 = 0 := rfl
    have e3 : max (0 : Int) 60 = 60 := rfl
    rw [e1, e2, e3]
    refine tw_res _ ?_
    have e4 : selN (zF twT) 2 0 = 1 := rfl
    show fxG twT 10 noI 2 0 (selN (zF twT) 2 0) = _
    rw [e4]
    unfold fxG
    rw [tw_lq]
    rfl
theorem tr_of {k : Nat} (h : KTk k) : KTr k := by
  intro p c w hp hc2
  have hp2 : SRow w p 2 2 (trC twT) := fun hn => by
    obtain ⟨b, off, e, hb, hc⟩ := hp hn
    refine ⟨b, off, e, hb, fun i hi j hj => ?_⟩
    rw [hc i hi j hj]
    rcases (show i = 0 ∨ i = 1 by omega) with rfl | rfl <;> rcases (show j = 0 ∨ j = 1 by omega) with rfl | rfl <;> rfl
  have := h 100 10 p none 2 0 c 0 twT noI w hp2 (fun h => absurd h (Nat.lt_irrefl _)) hc2 (by omega) (by omega)
  simp only [tw_er, if_true] at this
  refine this.mono ?_
  rintro e w' ⟨r, u, rfl, hR, hB⟩
  refine ⟨r, u, rfl, fun hn => ?_, hB⟩
  obtain ⟨b, off, e, hc⟩ := hR hn
  exact ⟨b, off, e, fun k hk => by rw [hc k hk, tw_tr k hk]⟩
end Go.Proofs.Ytdoenkngmgclmaa
