/- What the program's table of classes returns for every rune; no condition but that the argument is a rune's number. -/
import Derived.Test.YtfiaongnogiegaaChOf
import Derived.Test.YtfiaongnogiegaaChRef
namespace Go.Proofs.Ytfiaongnogiegaa
open Go.RowKit Go.Sort Go.Great
set_option linter.unusedSimpArgs false
set_option linter.unusedVariables false

def blockIn : Code → Code
  | .block _ c => c
  | c => c
/-- The row of a syllable. -/
def sylR (r : Int) : Rw := ⟨44032, 55203, if (r - 44032) % 28 = 0 then 12 else 13, 3, 18, 0, 0⟩
theorem syl_result {b : Nat} {t : Array Value} {W : World} {c : Rw} (ht : t[2]? = some (.pointer (some ⟨b, 0, none⟩))) (hW : Blk W b 77 c.vs) : (results Try.f62 t).run Try.prog W = .ok c.v W := by
  have c0 := hW.cell 0 rfl
  have c1 := hW.cell 1 rfl
  have c2 := hW.cell 2 rfl
  have c3 := hW.cell 3 rfl
  have c4 := hW.cell 4 rfl
  have c5 := hW.cell 5 rfl
  have c6 := hW.cell 6 rfl
  simp [results, Try.results62, go_sem, ht, c0, c1, c2, c3, c4, c5, c6]
set_option maxHeartbeats 400000 in
theorem syllable_any (r : Int) (w : World) (hs : isSyl r = true) : Calls Try.prog 62 #[.int .i32 r] w fun e w' => e = .returned (sylR r).v ∧ Grew w w' := by
  obtain ⟨g1, g2⟩ : 44032 ≤ r ∧ r ≤ 55203 := by simpa [isSyl] using hs
  clear hs
  have hw : IntKind.i32.wrap (r - 44032) = r - 44032 := by rw [IntKind.wrap_i32]; omega
  by_cases h : (r - 44032) % 28 = 0
  · have H : Hid (sylR r = ⟨44032, 55203, 12, 3, 18, 0, 0⟩) := by show sylR r = _; unfold sylR; rw [if_pos h]
    go_enter Try.func62, Try.ntmps62
    go_wp2
    refine bodyPost_ret (R := fun e w' => e = .returned (sylR r).v ∧ Grew w w') (syl_result (c := sylR r) (b := w.heap.size) ?_ ?_) ?_ ⟨rfl, ?_⟩
    · rfl
    · rw [H.out]; exact Blk.alloc (vs := (Rw.mk 44032 55203 12 3 18 0 0).vs) (Blk.new rfl) _
    · rfl
    · exact ((Grew.refl w).alloc _).alloc _
  · have H : Hid (sylR r = ⟨44032, 55203, 13, 3, 18, 0, 0⟩) := by show sylR r = _; unfold sylR; rw [if_neg h]
    go_enter Try.func62, Try.ntmps62
    go_wp2
    refine bodyPost_ret (R := fun e w' => e = .returned (sylR r).v ∧ Grew w w') (syl_result (c := sylR r) (b := w.heap.size) ?_ ?_) ?_ ⟨rfl, ?_⟩
    · rfl
    · rw [H.out]; exact Blk.alloc (vs := (Rw.mk 44032 55203 13 3 18 0 0).vs) (Blk.new rfl) _
    · rfl
    · exact ((Grew.refl w).alloc _).alloc _

noncomputable def ofBody : Code := Try.f59.body.getD .skip
noncomputable def ofR0 : Code := seqL ofBody
def elseOf : Code → Code
  | .cond _ _ b => b
  | c => c
noncomputable def ofCases : Code := elseOf (seqR (blockIn (seqL (seqR ofBody))))
noncomputable def ofLast : Code := seqR (seqR ofBody)
noncomputable def ofR1 : Code := seqL (blockIn (seqL (seqR ofBody)))
noncomputable def ofSyl : Code := seqL (thenOf (seqR (blockIn (seqL (seqR ofBody)))))
theorem ofBody_is : Try.f59.body = some (.seq ofR0 (.seq (.block 0 (.seq ofR1 (.cond (.tmp 10) (.seq ofSyl .ret) (mkP (posL ofCases) ofParts 3 19 3)))) (partCode 94 70 9 61 21 ((posL ofLast).headD "") ((posL ofLast).tail.headD "")))) := by kernel_rfl
theorem ofR0_wp {Q : Exit → Act → World → Prop} {r : Int} {a : Act} {w : World} (hf : Fr0 65 r a)
    (h : ∀ a', Fr 65 r w.heap.size a' → Q .normal a' (w.alloc (.cells Rw.zero.vs.toArray 77))) : ofR0.wp Try.prog Q a w := by
  obtain ⟨n1, n2, n3⟩ := hf
  have N3 := hide n3
  clear n3
  conv => arg 2; whnf
  apply wp_region_lit
  refine wpList_plain rfl (fun K hK => ?_)
  go_simp
  refine hK _ _ ?_
  simp only [wpList]
  refine h _ ⟨by simpa using n1, by simp [n2], by simp [n1], N3.out⟩
theorem ofR1_wp {Q : Exit → Act → World → Prop} {r : Int} {b : Nat} {a : Act} {w : World} (hf : Fr 65 r b a) (hr : -2147483648 ≤ r ∧ r ≤ 2147483647)
    (h : ∀ a', Fr 65 r b a' → a'.eval (.tmp 10) = .bool (isSyl r) → Q .normal a' w) : ofR1.wp Try.prog Q a w := by
  have n1 := hf.1
  have n2 := hf.2.1
  have n3 : a.tmps[0]'(by omega) = .int .i32 r := by rw [Array.getElem?_eq_getElem (by omega)] at n2; exact Option.some.inj n2
  by_cases h1 : 44032 ≤ r
  · have d1 : decide (44032 ≤ r) = true := by simpa using h1
    conv => arg 2; whnf
    apply wp_region_lit
    refine wpList_plain rfl (fun K hK => ?_)
    go_simp
    refine hK _ _ ?_
    clear hK K
    refine wpList_plain rfl (fun K hK => ?_)
    go_simp
    refine hK _ _ ?_
    clear hK K
    refine wpList_plain rfl (fun K hK => ?_)
    go_simp
    refine hK _ _ ?_
    clear hK K
    refine wpList_step (fun K hK => ?_)
    go_simp
    refine hK _ _ ?_
    clear hK K
    refine wpList_step (fun K hK => ?_)
    go_simp
    refine hK _ _ ?_
    clear hK K
    refine wpList_plain rfl (fun K hK => ?_)
    go_simp
    refine hK _ _ ?_
    clear hK K
    refine wpList_plain rfl (fun K hK => ?_)
    go_simp
    refine hK _ _ ?_
    clear hK K
    simp only [wpList]
    refine h _ ?_ ?_
    · repeat' (first | (with_reducible exact hf) | (with_reducible refine Fr.put' ?_ _ (by omega) _))
    · simp [Act.eval, n1, isSyl, d1]
  · have d1 : decide (44032 ≤ r) = false := by simpa using h1
    conv => arg 2; whnf
    apply wp_region_lit
    refine wpList_plain rfl (fun K hK => ?_)
    go_simp
    refine hK _ _ ?_
    clear hK K
    refine wpList_plain rfl (fun K hK => ?_)
    go_simp
    refine hK _ _ ?_
    clear hK K
    refine wpList_plain rfl (fun K hK => ?_)
    go_simp
    refine hK _ _ ?_
    clear hK K
    refine wpList_step (fun K hK => ?_)
    go_simp
    refine hK _ _ ?_
    clear hK K
    refine wpList_step (fun K hK => ?_)
    go_simp
    refine hK _ _ ?_
    clear hK K
    refine wpList_plain rfl (fun K hK => ?_)
    go_simp
    refine hK _ _ ?_
    clear hK K
    refine wpList_plain rfl (fun K hK => ?_)
    go_simp
    refine hK _ _ ?_
    clear hK K
    simp only [wpList]
    refine h _ ?_ ?_
    · repeat' (first | (with_reducible exact hf) | (with_reducible refine Fr.put' ?_ _ (by omega) _))
    · simp [Act.eval, n1, isSyl, d1]
theorem ofSyl_wp {Q : Exit → Act → World → Prop} {r : Int} {b : Nat} {a : Act} {w W : World} (hf : Fr 65 r b a) (hs : isSyl r = true)
    (hW : Blk W b 77 Rw.zero.vs) (hg : Grew w W) (hb : w.heap.size ≤ b)
    (h : ∀ a' W', Fr 65 r b a' → Blk W' b 77 (sylR r).vs → Grew w W' → Q .normal a' W') : ofSyl.wp Try.prog Q a W := by
  have n1 := hf.1
  have n2 := hf.2.1
  have n3 : a.tmps[0]'(by omega) = .int .i32 r := by rw [Array.getElem?_eq_getElem (by omega)] at n2; exact Option.some.inj n2
  have C := hide (syllable_any r W hs)
  clear hs
  conv => arg 2; whnf
  apply wp_region_list
  show wpList _ _ _ [_, _, _] _ _
  refine wpList_plain rfl (fun K hK => ?_)
  go_simp
  refine hK _ _ ?_
  clear hK K
  refine wpList_plain rfl (fun K hK => ?_)
  go_simp
  refine C.out.mono ?_
  rintro e W1 ⟨rfl, G1⟩
  refine hK _ _ ?_
  clear hK K C
  have hf1 := (hf.put 17 (by omega) (.int .i32 r)).put 18 (by omega) (sylR r).v
  dsimp only at hf1
  have v1 : ((a.tmps.setIfInBounds 17 (.int .i32 r)).setIfInBounds 18 (sylR r).v)[18]? = some (sylR r).v := by
    rw [Array.getElem?_setIfInBounds, if_pos rfl, if_pos (by simp; omega)]
  show wpList _ _ _ _ ⟨(a.tmps.setIfInBounds 17 (.int .i32 r)).setIfInBounds 18 (sylR r).v, a.defers⟩ _
  generalize (a.tmps.setIfInBounds 17 (.int .i32 r)).setIfInBounds 18 (sylR r).v = t1 at *
  refine wpList_store_row rfl 77 (.tmp 2) (.tmp 18) rfl b (sylR r).vs.toArray ?_ ?_ 77 Rw.zero.vs.toArray (hW.grew G1) (by kernel_rfl) rfl (by simp [Value.oneCell']) ?_
  · simp only [Act.eval, Array.getD_eq_getD_getElem?, hf1.2.2.1]; rfl
  · simp only [Act.eval, Array.getD_eq_getD_getElem?, v1]; rfl
  exact h _ _ hf1 ((hW.grew G1).setRow _) ((hg.trans G1).setRow hb _)

/-- The row of a rune. -/
def rowOf (r : Int) : Rw := if isSyl r then sylR r else (lkP ofParts r).getD (findR supplementaryRows r)
theorem of_result {b : Nat} {t : Array Value} {W : World} {c : Rw} (ht : t[2]? = some (.pointer (some ⟨b, 0, none⟩))) (hW : Blk W b 77 c.vs) : (results Try.f59 t).run Try.prog W = .ok c.v W := by
  have c0 := hW.cell 0 rfl
  have c1 := hW.cell 1 rfl
  have c2 := hW.cell 2 rfl
  have c3 := hW.cell 3 rfl
  have c4 := hW.cell 4 rfl
  have c5 := hW.cell 5 rfl
  have c6 := hW.cell 6 rfl
  simp [results, Try.results59, go_sem, ht, c0, c1, c2, c3, c4, c5, c6]
theorem classesOf_any (r : Int) (w : World) (hr : -2147483648 ≤ r ∧ r ≤ 2147483647) :
    Calls Try.prog 59 #[.int .i32 r] w fun e w' => e = .returned (rowOf r).v ∧ Grew w w' := by
  refine calls_of_wp Try.func59 ofBody_is ?_
  rw [Try.ntmps59]
  have hF : Fr0 65 r ⟨#[.int .i32 r] ++ Array.replicate (65 - (#[Value.int .i32 r] : Array Value).size) undef, []⟩ := ⟨by rw [Array.size_append, Array.size_replicate]; rfl, by rw [Array.getElem?_append_left (Nat.zero_lt_one)]; rfl, rfl⟩
  generalize (⟨#[.int .i32 r] ++ Array.replicate (65 - (#[Value.int .i32 r] : Array Value).size) undef, []⟩ : Act) = a at hF ⊢
  have fin : ∀ (a' : Act) (W' : World), Fr 65 r w.heap.size a' → Blk W' w.heap.size 77 (rowOf r).vs → Grew w W' → bodyPost Try.prog Try.f59 (fun e w' => e = .returned (rowOf r).v ∧ Grew w w') .ret a' W' :=
    fun a' W' h1 h2 h3 => bodyPost_ret (of_result h1.2.2.1 h2) h1.2.2.2 ⟨rfl, h3⟩
  refine wp_seq (ofR0_wp hF fun a hF => ?_)
  have B0 : Blk (w.alloc (.cells Rw.zero.vs.toArray 77)) w.heap.size 77 Rw.zero.vs := Blk.new rfl
  have G0 : Grew w (w.alloc (.cells Rw.zero.vs.toArray 77)) := (Grew.refl w).alloc _
  generalize w.alloc (.cells Rw.zero.vs.toArray 77) = W at *
  show (Code.seq _ _).wp _ _ _ _
  refine wp_seq (wp_block (wp_seq (ofR1_wp hF hr fun a hF he => ?_)))
  refine wp_cond_split he (fun hs => ?_) (fun hs => ?_)
  · have hc : rowOf r = sylR r := by unfold rowOf; rw [hs]; rfl
    refine wp_seq (ofSyl_wp hF hs B0 G0 (Nat.le_refl _) fun a' W' h1 h2 h3 => wp_ret ?_)
    exact fin a' W' h1 (by rw [hc]; exact h2) h3
  · refine mkP_wp hr B0 G0 (Nat.le_refl _) (posL ofCases) ofParts 3 19 3 a parts_all (by omega) (by omega) (by decide) hF ?_ ?_
    · intro a' W' c h1 h2 h3 h4
      have hc : rowOf r = c := by unfold rowOf; rw [hs, h1]; rfl
      exact fin a' W' h2 (by rw [hc]; exact h3) h4
    · intro a' h1 h2
      have hc : rowOf r = findR supplementaryRows r := by unfold rowOf; rw [hs, h1]; rfl
      refine partCode_wp supplementary_part 9 61 21 _ _ a' w W hr (by omega) (by omega) (by omega) h2 B0 G0 (Nat.le_refl _) fun a' W' h3 h4 h5 => ?_
      exact fin a' W' h3 (by rw [hc]; exact h4) h5
end Go.Proofs.Ytfiaongnogiegaa
