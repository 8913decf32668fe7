/- What the laws of package constraint ask of Solve, as a definition over a function's number; results that lie in a cell; no condition. -/
import Derived.Test.YtdoncogkepopiaaCoM
import Derived.Test.YtdoncogkepopiaaFxShare
import Derived.Test.YtdoncogkepopiaaBRw
import Derived.Laws.ResultCell
import Derived.Laws.Rows
namespace Go.Proofs.Ytdoncogkepopiaa
open Go.RowKit Go.Sort
set_option linter.unusedVariables false
set_option linter.unusedSimpArgs false

/-- How slices of bools read. -/
def BReads (w : World) (p : Option Addr) (n : Nat) (f : Nat → Bool) : Prop := 0 < n → ∃ b off, p = some ⟨b, off, none⟩ ∧ b < w.heap.size ∧ ∀ k, k < n → w.cell? ⟨b, off + k, none⟩ = some (.bool (f k))
theorem BReads.below {w w' : World} {p : Option Addr} {n : Nat} {f : Nat → Bool} (h : BReads w p n f) (hB : Below w.heap.size w w') : BReads w' p n f := fun hn => by
  obtain ⟨b, off, e, hb, hc⟩ := h hn
  exact ⟨b, off, e, Nat.lt_of_lt_of_le hb hB.size, fun k hk => (hB.cell (p := ⟨b, off + k, none⟩) hb).trans (hc k hk)⟩
theorem BRow.breads {w : World} {b n : Nat} {f : Nat → Bool} (h : BRow w b n f) : BReads w (some ⟨b, 0, none⟩) n f := fun _ => ⟨b, 0, rfl, h.lt, fun k hk => by rw [Nat.zero_add]; exact h.cell hk⟩
abbrev sysL (vars : Int) (q1 : Option Addr) (n1 c1 : Nat) (q2 : Option Addr) (n2 c2 : Nat) (q3 : Option Addr) (n3 c3 : Nat) : List Value := [.int .i64 vars, .slice q1 n1 c1, .slice q2 n2 c2, .slice q3 n3 c3]
abbrev sysV (vars : Int) (q1 : Option Addr) (n1 c1 : Nat) (q2 : Option Addr) (n2 c2 : Nat) (q3 : Option Addr) (n3 c3 : Nat) : Value := .agg (sysL vars q1 n1 c1 q2 n2 c2 q3 n3 c3).toArray
abbrev sysZ : Value := sysV 0 none 0 0 none 0 0 none 0 0
/-- What a call of Solve has returned. -/
def SoPost (vars : Int) (m : Nat) (l : Nat → Cn) (w : World) (e : Ending) (w' : World) : Prop :=
  (erS vars m l = 0 → ∃ q1 c1 q2 c2 q3 c3, e = .returned (.tuple #[sysV vars q1 m c1 q2 m c2 q3 vars.toNat c3, .int .i64 0]) ∧ m ≤ c1 ∧ SRow w' q1 m 5 (cnC l) ∧ BReads w' q2 m (acB vars.toNat m l 3) ∧ Reads w' q3 vars.toNat (lvF vars.toNat m l (acB vars.toNat m l 3))) ∧
  (¬ erS vars m l = 0 → e = .returned (.tuple #[sysZ, .int .i64 (erS vars m l)])) ∧ Below w.heap.size w w'
def KSo (k : Nat) : Prop := ∀ (vars : Int) (p : Option Addr) (m c : Nat) (l : Nat → Cn) (w : World), SRow w p m 5 (cnC l) → m ≤ c → m ≤ 100000 →
  Calls Try.prog k #[.int .i64 vars, .slice p m c] w (SoPost vars m l w)
theorem results_row_tmp {P : Program} {fn : Func} {p u : Tmp} {ty : TypeId} (h : fn.results = #[.cell p ty, .tmp u]) (tmps : Array Value) (w : World) (g : Nat) (t : TypeId) (cs : Array Value) (fr : Nat × Nat) (d : TypeDesc)
    (hp : tmps.getD p undef = .pointer (some ⟨g, 0, none⟩)) (hg : w.heap[g]? = some (.cells cs t fr))
    (hu : P.underlying ty = some d) (hd : (match d with | .struct _ | .array _ _ => true | _ => false) = true) (hi : (P.info? ty).map (·.size) = some cs.size) :
    (results fn tmps).run P w = .ok (.tuple #[.agg cs, tmps.getD u undef]) w := by
  rw [results_cell_tmp h]
  have hp' : tmps[p]?.getD undef = .pointer (some ⟨g, 0, none⟩) := by simpa using hp
  simp [hp', asAddr, run_loadVar_row w g t ty cs fr d hg hu hd hi, Result.andThen]
theorem erS_low {vars : Int} {m : Nat} {l : Nat → Cn} (h : vars < 0 ∨ 64 < vars) : erS vars m l = 1 := by unfold erS; rw [if_pos h]
theorem erS_long {vars : Int} {m : Nat} {l : Nat → Cn} (h : ¬ (vars < 0 ∨ 64 < vars)) (h2 : 200 < m) : erS vars m l = 2 := by unfold erS; rw [if_neg h, if_pos h2]
theorem erS_bad {vars : Int} {m : Nat} {l : Nat → Cn} (h : ¬ (vars < 0 ∨ 64 < vars)) (h2 : ¬ 200 < m) {k : Nat} (hk : k < m) (h3 : ¬ okC vars (l k)) : erS vars m l = 1 := by
  unfold erS
  rw [if_neg h, if_neg h2, if_pos (fun q => h3 (q k hk))]
theorem erS_conf {n : Nat} {m : Nat} {l : Nat → Cn} (h : n ≤ 64) (h2 : ¬ 200 < m) (h3 : ∀ k, k < m → okC n (l k)) (h4 : ¬ Feas n m l (ac0 l)) : erS (n : Int) m l = 13 := by
  unfold erS
  rw [if_neg (by omega), if_neg h2, if_neg (fun q => q h3), Int.toNat_natCast, if_neg h4]
theorem erS_ok {n : Nat} {m : Nat} {l : Nat → Cn} (h : n ≤ 64) (h2 : ¬ 200 < m) (h3 : ∀ k, k < m → okC n (l k)) (h4 : Feas n m l (ac0 l)) : erS (n : Int) m l = 0 := by
  unfold erS
  rw [if_neg (by omega), if_neg h2, if_neg (fun q => q h3), Int.toNat_natCast, if_pos h4]
/-- A refusal. -/
theorem so_err {vars : Int} {m : Nat} {l : Nat → Cn} {w w' : World} {er : Int} (h : erS vars m l = er) (h0 : er ≠ 0) (hB : Below w.heap.size w w') : SoPost vars m l w (.returned (.tuple #[sysZ, .int .i64 er])) w' :=
  ⟨fun q => absurd (h ▸ q) h0, fun _ => by rw [h], hB⟩
end Go.Proofs.Ytdoncogkepopiaa
