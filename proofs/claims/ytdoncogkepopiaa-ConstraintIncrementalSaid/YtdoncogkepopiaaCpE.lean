/- What newAccepted, solution and the copy of a list of constraints return; what Solve's loops keep; no condition but on sizes. -/
import Derived.Test.YtdoncogkepopiaaCpD
import Derived.Test.YtdoncogkepopiaaCoR3
namespace Go.Proofs.Ytdoncogkepopiaa
open Go.RowKit Go.Sort Go.Shelf
set_option linter.unusedVariables false
set_option linter.unusedSimpArgs false

theorem wpList_append_any {P : Program} (w : World) {ops : Array Oper} {rest : List Oper} {o : Oper} {a : Act} {Q : Exit → Act → World → Prop} (hgd : o.guard = none) (s x : Operand) (t : TypeId)
    (ho : o.op = .call { callee := .builtin .append, args := #[s, x], argTypes := #[t, t] })
    (base : Nat) (e : TypeId) (i : TypeInfo) (z : Value) (size bytes : Nat) (ht : P.underlying t = some (.slice e)) (hi : P.info? e = some i) (hz : i.zero = some z)
    (hsize : i.size = size) (hby : i.bytes = bytes) (hzs : z.cells.size = size) (hsz : 0 < size)
    (v : Value) (n : Nat) (xs : List Value) (hs : a.eval s = v) (hown : w.ownsRow base e size v n xs)
    (ad : Addr) (m c : Nat) (f : Nat → Nat → Value) (hx : a.eval x = .slice (some ad) m c) (hp : SRow w (some ad) m size f) (h1 : ∀ i r, (f i r).oneCell' = true) (hm : n + m ≤ maxLen) (hmb : (n + m) * bytes ≤ 140737488355328) (hbase : base ≤ w.heap.size)
    (h : ∀ v' w', w'.ownsRow base e size v' (n + m) (xs ++ flat m size f) → w.grownBy w' v.ownBlock → wpList P ops Q rest (a.put o.dst v') w') : wpList P ops Q (o :: rest) a w := by
  refine wpList_append_own w hgd s x t ho base e i z size bytes ht hi hz hsize hby hzs hsz v n xs hs hown ad m c (flat m size f) hx (flat_len _ _ _) ?_ (flat_one h1) hm hmb hbase fun v' w' q1 q2 _ => h v' w' q1 q2
  intro j u hj
  obtain ⟨i', r, hi', hr, rfl, rfl⟩ := flat_at hj
  obtain ⟨b, off, q, _, hc⟩ := hp (Nat.lt_of_le_of_lt (Nat.zero_le _) hi')
  cases q
  rw [addr_off, ← Nat.add_assoc]
  exact hc i' hi' r hr
set_option maxHeartbeats 4000000 in
set_option maxRecDepth 100000 in
theorem pclone_any (p : Option Addr) (m c : Nat) (l : Nat → Cn) (w : World) (hp : SRow w p m 5 (cnC l)) (hmc : m ≤ c) (hm : m ≤ 100000) :
    Calls Try.prog 26 #[.slice p m c] w fun e w' => ∃ v, e = .returned v ∧ w'.ownsRow w.heap.size 40 5 v m (flat m 5 (cnC l)) ∧ Below w.heap.size w w' := by
  obtain ⟨i0, hi, hz0, hz1, hz2⟩ := info_partsS info_cn
  have q22 : ∀ (w : World) (a : Option Addr) (n c n' c' : Nat), (binOp .eql 22 (.slice a n c) (.slice none n' c')).run Try.prog w = .ok (.bool a.isNone) w := fun w a n c n' c' => Lib.run_eql_slice_nil w _ _ a n c n' c' Try.underlying22
  cases p with
  | none =>
    have h0 : m = 0 := by
      rcases Nat.eq_zero_or_pos m with e0 | e0
      · exact e0
      · obtain ⟨_, _, q, _⟩ := hp e0
        cases q
    subst h0
    clear hp
    go_enter Try.func26, Try.ntmps26
    go_wp2
    go_ret
    exact ⟨_, rfl, World.ownsRow_nil _ _ _ _, Below.refl _ _⟩
  | some ad =>
    have HP := hide hp
    have OM : (w.alloc (.cells #[] 40)).ownsRow w.heap.size 40 5 (.slice (some ⟨w.heap.size, 0, none⟩) 0 0) 0 [] := World.ownsRow_made w #[] 0 (Nat.le_refl _) (Nat.zero_le _) rfl
    have OM := hide OM
    clear hp
    go_enter Try.func26, Try.ntmps26
    go_wp2_with (at_builtin; refine wpList_append_any _ rfl _ _ 22 rfl w.heap.size 40 i0 _ 5 40 Try.underlying22 hi hz0 hz1 hz2 rfl (by decide) _ _ _ rfl OM.out ad m c (cnC l) rfl (HP.out.below ((Below.refl _ w).alloc (Nat.le_refl _) _)) (cn_one l) (by unfold maxLen; omega) (by omega) (by simp) ?_; intro v' w1 hown hgrow)
    go_wp2
    go_ret
    refine ⟨v', rfl, by simpa using hown, ((Below.refl _ w).alloc (Nat.le_refl _) _).grown hgrow (by simp) (own_lt OM.out)⟩
def SlP (n vb : Nat) (w : World) (e : Ending) (w' : World) : Prop := (∃ q c, e = .returned (.slice q n c) ∧ (0 < n → q = some ⟨vb, 1, none⟩)) ∧ w = w'
theorem psolution_any (ab n nb cb cv vb : Nat) (pb : Option Addr) (bl : Nat → Cn) (y : Nat → Int) (w : World) (hA : AvM w ab n nb cb cv vb pb bl y) (hn : n ≤ 64) :
    Calls Try.prog 27 #[.pointer (some ⟨ab, 0, none⟩)] w (SlP n vb w) := by
  have c1 := hA.blk.cell 1 rfl
  have hc := hA.cap
  have e1 : (n : Int) + 1 - 1 = (n : Int) := by omega
  have z1 : (1 : Int) ≤ (n : Int) + 1 := by omega
  have z2 : ¬ (n : Int) + 1 < 1 := by omega
  have z3 : (n : Int) + 1 ≤ (cv : Int) := by omega
  have z4 : (1 : Int) ≤ (cv : Int) := by omega
  by_cases h1 : cv = 1
  · have h0 : n = 0 := by omega
    subst h1 h0
    clear hA
    go_enter Try.func27, Try.ntmps27
    go_wp2
    go_ret
    exact ⟨⟨_, _, rfl, fun h => absurd h (Nat.lt_irrefl _)⟩, rfl⟩
  · have h2 : ¬ cv ≤ 1 := by omega
    clear hA
    go_enter Try.func27, Try.ntmps27
    go_wp2
    go_ret
    refine ⟨⟨some ⟨vb, 1, none⟩, cv - 1, ?_, fun _ => rfl⟩, rfl⟩
    simp [h1]
def NwP (n : Nat) (bl : Nat → Cn) (w : World) (e : Ending) (w' : World) : Prop := ∃ ab cv vb, e = .returned (.pointer (some ⟨ab, 0, none⟩)) ∧ AvM w' ab n 0 0 cv vb none bl (fun _ => 0) ∧ w.heap.size ≤ ab ∧ w.heap.size ≤ vb ∧ Below w.heap.size w w'
theorem pnew_any (n : Nat) (bl : Nat → Cn) (w : World) (hn : n ≤ 64) :
    Calls Try.prog 24 #[.int .i64 (n : Int)] w (NwP n bl w) := by
  have hmk : ∀ W : World, (Instr.makeSlice 24 (.int .i64 ((n : Int) + 1)) (.int .i64 ((n : Int) + 1))).run Try.prog W = .ok (.slice (some ⟨W.heap.size, 0, none⟩) (n + 1) (n + 1)) (W.alloc (.cells (ints (n + 1) (fun _ => 0)) 3)) := make_ints (n + 1) (by omega)
  have wn : IntKind.i64.wrap ((n : Int) + 1) = (n : Int) + 1 := wr (by omega) (by omega)
  have R : Hid (CRw (w.alloc (.cells (ints (n + 1) (fun _ => 0)) 3)) w.heap.size (n + 1) (shF (fun _ => 0))) := (CRw.of (IRow.new w (n + 1) (fun _ => 0))).congr fun i _ => by unfold shF; split <;> rfl
  have B1 : Hid (Below w.heap.size w (w.alloc (.cells (ints (n + 1) (fun _ => 0)) 3))) := (Below.refl _ _).alloc (Nat.le_refl _) _
  have S1 : (w.alloc (.cells (ints (n + 1) (fun _ => 0)) 3)).heap.size = w.heap.size + 1 := by simp
  go_enter Try.func24, Try.ntmps24
  go_wp2
  go_ret
  refine ⟨w.heap.size + 1, n + 1, w.heap.size, rfl, ⟨?_, ?_, ?_, ?_, Nat.le_refl _⟩, by omega, Nat.le_refl _, B1.out.alloc B1.out.size _⟩
  · rw [← S1]; exact Blk.new rfl
  · intro h; exact absurd h (Nat.lt_irrefl _)
  · exact R.out.below ((Below.refl _ _).alloc (Nat.le_refl _) _)
  · intro q h; cases h
/-- What Solve's loops keep: k constraints have been treated in the pass of strength s. -/
structure SvI (w W : World) (sk hb ab n m nb cb cv vb : Nat) (pb : Option Addr) (l bl : Nat → Cn) (y : Nat → Int) (s k : Nat) : Prop where
  below : Below w.heap.size w W
  kz : Blk W sk 26 [.int .i64 0, .slice none 0 0, .slice none 0 0, .slice none 0 0]
  av : AvM W ab n nb cb cv vb pb bl y
  row : BRow W hb m (acP n m l s k)
  bds : Bds n m l (acP n m l s k) nb bl
  lst : Lst n m l (acP n m l s k) y
  nbs : nb ≤ 2 * (200 * s + k)
  old : w.heap.size ≤ sk ∧ w.heap.size ≤ hb ∧ w.heap.size ≤ ab
  ne : sk ≠ hb ∧ sk ≠ ab ∧ hb ≠ ab
  ve : vb ≠ hb ∧ vb ≠ sk ∧ ∀ q, pb = some q → q.block ≠ hb
  vo : w.heap.size ≤ vb
def SvX (w W : World) (sk hb ab n m : Nat) (l : Nat → Cn) (s k : Nat) : Prop := ∃ nb cb cv vb pb bl y, SvI w W sk hb ab n m nb cb cv vb pb l bl y s k
section
variable {w W w' : World} {sk hb ab n m nb cb cv vb s k : Nat} {pb : Option Addr} {l bl : Nat → Cn} {y : Nat → Int}
theorem SvI.alloc (S : SvI w W sk hb ab n m nb cb cv vb pb l bl y s k) (o : Obj) : SvI w (W.alloc o) sk hb ab n m nb cb cv vb pb l bl y s k :=
  ⟨S.below.alloc S.below.size o, S.kz.alloc o, S.av.below ((Below.refl _ _).alloc (Nat.le_refl _) o), S.row.alloc o, S.bds, S.lst, S.nbs, S.old, S.ne, S.ve, S.vo⟩
theorem SvI.cong (S : SvI w W sk hb ab n m nb cb cv vb pb l bl y s k) {s' k' : Nat} (h : ∀ j, j < m → acP n m l s' k' j = acP n m l s k j) (hn : 200 * s + k ≤ 200 * s' + k') : SvI w W sk hb ab n m nb cb cv vb pb l bl y s' k' :=
  ⟨S.below, S.kz, S.av, S.row.congr fun j hj => (h j hj).symm, S.bds.ext h, lst_ext S.lst h, by have := S.nbs; omega, S.old, S.ne, S.ve, S.vo⟩
theorem SvI.off (S : SvI w W sk hb ab n m nb cb cv vb pb l bl y s k) (h : ¬ (l k).st = (s : Int)) : SvI w W sk hb ab n m nb cb cv vb pb l bl y s (k + 1) :=
  S.cong (fun j _ => acP_off h j) (by omega)
theorem SvI.pass (S : SvI w W sk hb ab n m nb cb cv vb pb l bl y s m) (hm : m ≤ 200) : SvI w W sk hb ab n m nb cb cv vb pb l bl y (s + 1) 0 :=
  S.cong (fun j hj => acP_pass hj) (by omega)
/-- What accept leaves. -/
theorem SvI.acc (S : SvI w W sk hb ab n m nb cb cv vb pb l bl y s k) (hk : k < m) (hc : okC n (l k)) (hst : (l k).st = (s : Int)) {e : Ending} (P : AcPost ab n m nb cb cv vb pb l bl (acP n m l s k) k y W e w') :
    (Below w.heap.size w w' ∧ Blk w' sk 26 [.int .i64 0, .slice none 0 0, .slice none 0 0, .slice none 0 0] ∧ BRow w' hb m (acP n m l s k)) ∧ ((e = .returned (.bool true) ∧ SvX w (w'.setCell ⟨hb, k, none⟩ (.bool true)) sk hb ab n m l s (k + 1)) ∨ (e = .returned (.bool false) ∧ ¬ s = 0 ∧ SvX w (w'.setCell ⟨hb, k, none⟩ (.bool false)) sk hb ab n m l s (k + 1)) ∨ (e = .returned (.bool false) ∧ s = 0 ∧ ¬ Feas n m l (ac0 l))) := by
  obtain ⟨hK, hor⟩ := P
  obtain ⟨o1, o2, o3⟩ := S.old
  obtain ⟨n1, n2, n3⟩ := S.ne
  obtain ⟨v1, v2, v3⟩ := S.ve
  have hB : Below w.heap.size w w' := S.below.trans (hK.below o3 S.below.size)
  have hZ : Blk w' sk 26 [.int .i64 0, .slice none 0 0, .slice none 0 0, .slice none 0 0] := S.kz.kept hK n2
  have hR : BRow w' hb m (acP n m l s k) := (hK.block hb S.row.lt n3).trans S.row
  have hlh := S.row.lt
  have hls := S.kz.lt
  refine ⟨⟨hB, hZ, hR⟩, ?_⟩
  rcases hor with ⟨hF, rfl, cb', cv', vb', pb', y', hA, hL, hv', hp'⟩ | ⟨hF, rfl, hA⟩
  · refine Or.inl ⟨rfl, _, cb', cv', vb', pb', _, y', hB.setCell o2 _, hZ.other n1 _, avm_other hA _ (fun e => n3 e.symm) (by omega) (fun q e => by have := hp' q e; omega), (hR.set_ k true).congr fun j _ => ?_, (S.bds.add hk hc).ext fun j _ => acP_yes hst hF j, lst_ext hL fun j _ => acP_yes hst hF j, ?_, ⟨o1, o2, o3⟩, ⟨n1, n2, n3⟩, ⟨by omega, by omega, fun q e => by have := hp' q e; omega⟩, by have := S.below.size; omega⟩
    · rw [acP_yes hst hF j]; rfl
    · have := S.nbs
      have := boN_le (l k)
      omega
  · by_cases h0 : s = 0
    · subst h0
      exact Or.inr (Or.inr ⟨rfl, rfl, acP_conf hk (by rw [hst]; rfl) hF⟩)
    · obtain ⟨s', rfl⟩ : ∃ s', s = s' + 1 := ⟨s - 1, by omega⟩
      refine Or.inr (Or.inl ⟨rfl, h0, nb, cb, cv, vb, pb, bl, y, hB.setCell o2 _, hZ.other n1 _, avm_other hA _ (fun e => n3 e.symm) v1 v3, (hR.set_ k false).congr fun j _ => ?_, S.bds.ext fun j _ => acP_no hst hF j, lst_ext S.lst fun j _ => acP_no hst hF j, by have := S.nbs; omega, ⟨o1, o2, o3⟩, ⟨n1, n2, n3⟩, ⟨v1, v2, v3⟩, S.vo⟩)
      by_cases q : j = k
      · rw [if_pos q, q, acP_no hst hF, acP_before hst]
      · rw [if_neg q, acP_no hst hF]
end
end Go.Proofs.Ytdoncogkepopiaa
