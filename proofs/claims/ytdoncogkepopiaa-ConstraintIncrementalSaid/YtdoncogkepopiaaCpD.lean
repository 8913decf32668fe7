/- What newAccepted, accept and solution of package constraint return and leave; no condition but on sizes. -/
import Derived.Test.YtdoncogkepopiaaCpC
import Derived.Test.YtdoncogkepopiaaMixJ
namespace Go.Proofs.Ytdoncogkepopiaa
open Go.RowKit Go.Sort Go.Shelf
set_option linter.unusedVariables false
set_option linter.unusedSimpArgs false

/-- How what has been accepted lies in memory. -/
structure AvM (W : World) (ab n nb cb cv vb : Nat) (pb : Option Addr) (bl : Nat → Cn) (y : Nat → Int) : Prop where
  blk : Blk W ab 64 [.slice pb nb cb, .slice (some ⟨vb, 0, none⟩) (n + 1) cv]
  row : SRow W pb nb 3 (bdC bl)
  val : CRw W vb (n + 1) (shF y)
  pl : Plain pb
  cap : n + 1 ≤ cv
theorem AvM.below {W W' : World} {ab n nb cb cv vb : Nat} {pb : Option Addr} {bl : Nat → Cn} {y : Nat → Int} (h : AvM W ab n nb cb cv vb pb bl y) (hB : Below W.heap.size W W') : AvM W' ab n nb cb cv vb pb bl y :=
  ⟨(hB.block ab h.blk.lt).trans h.blk, h.row.below hB, h.val.below hB, h.pl, h.cap⟩
theorem avm_other {W : World} {ab n nb cb cv vb g i : Nat} {pb : Option Addr} {bl : Nat → Cn} {y : Nat → Int} (h : AvM W ab n nb cb cv vb pb bl y) (v : Value) (h1 : ab ≠ g) (h2 : vb ≠ g) (h3 : ∀ q, pb = some q → q.block ≠ g) : AvM (W.setCell ⟨g, i, none⟩ v) ab n nb cb cv vb pb bl y :=
  ⟨h.blk.other h1 v, h.row.other h3 v, h.val.far h2 v, h.pl, h.cap⟩
def acSt (w1 : World) (x : Cn) (pb : Option Addr) (nb cb : Nat) (bl : Nat → Cn) : List Value → World → Prop
  | [], W => Below w1.heap.size w1 W
  | [u], W => ∃ b, u = .slice (some ⟨b, 0, none⟩) (boN x) (boN x) ∧ SRow W (some ⟨b, 0, none⟩) (boN x) 3 (bdC (boF x)) ∧ Below w1.heap.size w1 W
  | [u, v], W => ∃ b g, u = .slice (some ⟨b, 0, none⟩) (boN x) (boN x) ∧ v = .slice (some ⟨g, 0, none⟩) 2 2 ∧ SRow W (some ⟨b, 0, none⟩) (boN x) 3 (bdC (boF x)) ∧ Blk W g 62 [.slice pb nb cb, .slice (some ⟨b, 0, none⟩) (boN x) (boN x)] ∧ Below w1.heap.size w1 W
  | _ :: _ :: v :: r, W => (∃ q c, v = .slice q (nb + boN x) c ∧ SRow W q (nb + boN x) 3 (bdC (catN nb bl (boF x))) ∧ (∀ ad, q = some ad → w1.heap.size ≤ ad.block) ∧ Below w1.heap.size w1 W) ∧ ∀ u, r = [u] → u = v
theorem acSt_J {J : World → Prop} {w1 : World} {x : Cn} {pb : Option Addr} {nb cb : Nat} {bl : Nat → Cn} (h : ∀ W, Below w1.heap.size w1 W → J W) : ∀ vals W, acSt w1 x pb nb cb bl vals W → J W
  | [], W, q => h W q
  | [_], W, ⟨_, _, _, q⟩ => h W q
  | [_, _], W, ⟨_, _, _, _, _, _, q⟩ => h W q
  | _ :: _ :: _ :: _, W, ⟨⟨_, _, _, _, _, q⟩, _⟩ => h W q
theorem bo_pos (c : Cn) : 0 < boN c := by
  unfold boN
  split
  · omega
  · split <;> omega
/-- What a call of accept has returned and left. -/
def AcPost (ab n m nb cb cv vb : Nat) (pb : Option Addr) (l bl : Nat → Cn) (acc : Nat → Bool) (k : Nat) (y : Nat → Int) (w : World) (e : Ending) (w' : World) : Prop :=
  Kept ab w w' ∧ ((Feas n m l (updB acc k true) ∧ e = .returned (.bool true) ∧ ∃ cb' cv' vb' pb' y', AvM w' ab n (nb + boN (l k)) cb' cv' vb' pb' (catN nb bl (boF (l k))) y' ∧ Lst n m l (updB acc k true) y' ∧ w.heap.size ≤ vb' ∧ ∀ q, pb' = some q → w.heap.size ≤ q.block) ∨ (¬ Feas n m l (updB acc k true) ∧ e = .returned (.bool false) ∧ AvM w' ab n nb cb cv vb pb bl y))
theorem ac_fail {ab n m nb cb cv vb k : Nat} {pb : Option Addr} {l bl : Nat → Cn} {acc : Nat → Bool} {y : Nat → Int} {w w' : World} (hB : Below w.heap.size w w') (h : ¬ Feas n m l (updB acc k true)) (hA : AvM w ab n nb cb cv vb pb bl y) : AcPost ab n m nb cb cv vb pb l bl acc k y w (.returned (.bool false)) w' :=
  ⟨Kept.of hB, Or.inr ⟨h, rfl, hA.below hB⟩⟩
theorem ac_done {ab n m nb cb cv vb k rb kc c : Nat} {pb q : Option Addr} {l bl : Nat → Cn} {acc : Nat → Bool} {y y' : Nat → Int} {w W : World} (hB : Below w.heap.size w W) (h : Feas n m l (updB acc k true)) (hA : AvM w ab n nb cb cv vb pb bl y)
    (hrow : SRow W q (nb + boN (l k)) 3 (bdC (catN nb bl (boF (l k))))) (hq : ∀ ad, q = some ad → w.heap.size ≤ ad.block) (hrb : w.heap.size ≤ rb) (hv : CRw W rb (n + 1) (shF y')) (hl : Lst n m l (updB acc k true) y') (hkc : n + 1 ≤ kc) :
    AcPost ab n m nb cb cv vb pb l bl acc k y w (.returned (.bool true)) ((W.setCell ⟨ab, 0, none⟩ (.slice q (nb + boN (l k)) c)).setCell ⟨ab, 1, none⟩ (.slice (some ⟨rb, 0, none⟩) (n + 1) kc)) := by
  have hlt := hA.blk.lt
  have hne : ∀ ad, q = some ad → ad.block ≠ ab := fun ad e => by have := hq ad e; omega
  have hb := bo_pos (l k)
  refine ⟨((Kept.of hB).set 0 _).set 1 _, Or.inl ⟨h, rfl, c, kc, rb, q, y', ⟨?_, ?_, ?_, ?_, hkc⟩, hl, hrb, hq⟩⟩
  · exact Blk.set_as (Blk.set ((hB.block ab hlt).trans hA.blk) 0 _) 1 _ rfl
  · exact (hrow.other (p := ⟨ab, 0, none⟩) hne _).other (p := ⟨ab, 1, none⟩) hne _
  · exact (hv.far (p := ⟨ab, 0, none⟩) (by show rb ≠ ab; omega) _).far (p := ⟨ab, 1, none⟩) (by show rb ≠ ab; omega) _
  · intro ad e
    obtain ⟨b, off, e2, _⟩ := hrow (by omega)
    rw [e2] at e
    injection e with e
    rw [← e]
set_option maxHeartbeats 16000000 in
set_option maxRecDepth 100000 in
theorem paccept_any (ab n m nb cb cv vb k : Nat) (pb : Option Addr) (l bl : Nat → Cn) (acc : Nat → Bool) (y : Nat → Int) (w : World) (hA : AvM w ab n nb cb cv vb pb bl y) (hb : Bds n m l acc nb bl) (hy : Lst n m l acc y) (hk : k < m) (hc : okC n (l k)) (hn : n ≤ 64) (hnb : nb ≤ 9000) :
    Calls Try.prog 25 #[.pointer (some ⟨ab, 0, none⟩), cnU (l k)] w (AcPost ab n m nb cb cv vb pb l bl acc k y w) := by
  have HA := hide hA
  have hlab := hA.blk.lt
  have ADD := hide (hb.add hk hc)
  have LOW := hide (Low.add hb hy hk hc)
  have BN := boN_le (l k)
  have FE : Hid (Feas n (nb + boN (l k)) (catN nb bl (boF (l k))) trueF ↔ Feas n m l (updB acc k true)) := (hb.add hk hc).feas
  have KB := fun W => hide (bounds_any (l k) W ⟨⟨⟨hc.1.1.1, by have := hc.1.1.2; omega⟩, hc.1.2.1, by have := hc.1.2.2; omega⟩, hc.2⟩)
  have DONE : Hid (∀ W, AvM w ab n nb cb cv vb pb bl y → Below w.heap.size w W → ∀ rb kc c q y', Lst n (nb + boN (l k)) (catN nb bl (boF (l k))) trueF y' → SRow W q (nb + boN (l k)) 3 (bdC (catN nb bl (boF (l k)))) → (∀ ad, q = some ad → w.heap.size ≤ ad.block) → w.heap.size ≤ rb → CRw W rb (n + 1) (shF y') → n + 1 ≤ kc → AcPost ab n m nb cb cv vb pb l bl acc k y w (.returned (.bool true)) ((W.setCell ⟨ab, 0, none⟩ (.slice q (nb + boN (l k)) c)).setCell ⟨ab, 1, none⟩ (.slice (some ⟨rb, 0, none⟩) (n + 1) kc))) :=
    fun W h1 h2 rb kc c q y' h3 h4 h5 h6 h7 h8 => ac_done h2 ((hb.add hk hc).feas.1 ⟨_, h3.1⟩) h1 h4 h5 h6 h7 ((hb.add hk hc).lst h3) h8
  have FAIL : Hid (∀ W, Below w.heap.size w W → ¬ Feas n m l (updB acc k true) → AcPost ab n m nb cb cv vb pb l bl acc k y w (.returned (.bool false)) W) := fun W h1 h2 => ac_fail h1 h2 hA
  generalize hP : AcPost ab n m nb cb cv vb pb l bl acc k y w = PP at *
  clear hP hb hy hc
  have ST : Hid (∀ w1 vals W, acSt w1 (l k) pb nb cb bl vals W = acSt w1 (l k) pb nb cb bl vals W) := fun _ _ _ => rfl
  obtain ⟨x, hx⟩ : ∃ x : Cn, x = l k := ⟨_, rfl⟩
  rw [← hx] at BN FE KB DONE ADD LOW ⊢
  have HX := hide hx
  clear hx ST
  have C1 : Hid (∀ o, Blk (w.alloc o) ab 64 [.slice pb nb cb, .slice (some ⟨vb, 0, none⟩) (n + 1) cv]) := fun o => hA.blk.alloc o
  have B1 : Hid (Below w.heap.size w (w.alloc (.cells #[.int .i64 x.a, .int .i64 x.b, .int .i64 x.rel, .int .i64 x.cc, .int .i64 x.st] 40))) := (Below.refl _ _).alloc (Nat.le_refl _) _
  have T1 : Hid (Blk (w.alloc (.cells #[.int .i64 x.a, .int .i64 x.b, .int .i64 x.rel, .int .i64 x.cc, .int .i64 x.st] 40)) w.heap.size 40 [.int .i64 x.a, .int .i64 x.b, .int .i64 x.rel, .int .i64 x.cc, .int .i64 x.st]) := Blk.new rfl
  have A1 := hide (hA.below B1.out)
  have S1 : w.heap.size < (w.alloc (.cells #[.int .i64 x.a, .int .i64 x.b, .int .i64 x.rel, .int .i64 x.cc, .int .i64 x.st] 40)).heap.size := by simp
  clear C1 hA
  go_enter Try.func25, Try.ntmps25
  go_wp2_with fail
  generalize w.alloc (.cells #[.int .i64 x.a, .int .i64 x.b, .int .i64 x.rel, .int .i64 x.cc, .int .i64 x.st] 40) = w1 at *
  have JQ : Hid (∀ W, Below w1.heap.size w1 W → (W.cell? ⟨ab, 0, none⟩ = some (.slice pb nb cb) ∧ W.cell? ⟨w.heap.size, 0, none⟩ = some (.int .i64 x.a) ∧ W.cell? ⟨w.heap.size, 1, none⟩ = some (.int .i64 x.b) ∧ W.cell? ⟨w.heap.size, 2, none⟩ = some (.int .i64 x.rel) ∧ W.cell? ⟨w.heap.size, 3, none⟩ = some (.int .i64 x.cc) ∧ W.cell? ⟨w.heap.size, 4, none⟩ = some (.int .i64 x.st))) := fun W hW => by
    have T : Blk W w.heap.size 40 [.int .i64 x.a, .int .i64 x.b, .int .i64 x.rel, .int .i64 x.cc, .int .i64 x.st] := (hW.block _ S1).trans T1.out
    exact ⟨(A1.out.below hW).blk.cell 0 rfl, T.cell 0 rfl, T.cell 1 rfl, T.cell 2 rfl, T.cell 3 rfl, T.cell 4 rfl⟩
  refine MJ.wp_region_chain (fun W' => W'.cell? ⟨ab, 0, none⟩ = some (.slice pb nb cb) ∧ W'.cell? ⟨w.heap.size, 0, none⟩ = some (.int .i64 x.a) ∧ W'.cell? ⟨w.heap.size, 1, none⟩ = some (.int .i64 x.b) ∧ W'.cell? ⟨w.heap.size, 2, none⟩ = some (.int .i64 x.rel) ∧ W'.cell? ⟨w.heap.size, 3, none⟩ = some (.int .i64 x.cc) ∧ W'.cell? ⟨w.heap.size, 4, none⟩ = some (.int .i64 x.st)) [5, 6, 7, 8] [(13, 5), (14, 6), (15, 7), (5, 8)] (acSt w1 x pb nb cb bl) (by kernel_rfl) (by kernel_rfl) (by simp) ?h0 ?hJ ?_
  case h0 => exact ⟨rfl, rfl, rfl, Nat.le_refl _, fun k hk => rfl⟩
  case hJ =>
    rintro vals W' _ hS'
    exact acSt_J JQ.out vals W' hS'
  repeat (refine MJ.lex_calm rfl (by rfl) (fun K hK => ?_); apply Exists.intro; refine ⟨fun W' hW => ?_, ?_⟩; (dsimp only at hW; go_simp; exact rfl); go_simp; refine hK _ ?_; clear hK K)
  refine MJ.lex_chain 0 rfl (by kernel_rfl) rfl ?_ ?_
  · rintro vs W' hS'
    have hB : Hid (Below w1.heap.size w1 W') := hS'
    have K := hide (KB W')
    clear hS'
    simp [go_sem, evS, List.lookup]
    refine K.out.out.mono ?_
    rintro e w' ⟨b, rfl, _, h2, h3⟩
    exact ⟨_, rfl, b, rfl, h2, hB.out.trans (h3.1.mono hB.out.size)⟩
  repeat (refine MJ.lex_calm rfl (by rfl) (fun K hK => ?_); apply Exists.intro; refine ⟨fun W' hW => ?_, ?_⟩; (dsimp only at hW; go_simp; exact rfl); go_simp; refine hK _ ?_; clear hK K)
  refine MJ.lex_chain 1 rfl (by kernel_rfl) rfl ?_ ?_
  · rintro vs W ⟨b, e, h2, hB⟩
    replace e : vs 5 = .slice (some ⟨b, 0, none⟩) (boN x) (boN x) := e
    have FIN : Hid (acSt w1 x pb nb cb bl (MJ.valsOf [5, 6, 7, 8] vs 1 ++ [.slice (some ⟨W.heap.size, 0, none⟩) 2 2]) (W.alloc (.cells [.slice pb nb cb, .slice (some ⟨b, 0, none⟩) (boN x) (boN x)].toArray 62))) := ⟨b, W.heap.size, e, rfl, h2.below ((Below.refl _ _).alloc (Nat.le_refl _) _), Blk.new rfl, hB.alloc hB.size _⟩
    clear h2 hB
    simp [go_sem, evS, List.lookup, e]
    exact FIN.out
  refine MJ.lex_chain 2 rfl (by kernel_rfl) rfl ?_ ?_
  · rintro vs W ⟨b, g, e, e2, h2, hb, hB⟩
    replace e : vs 5 = .slice (some ⟨b, 0, none⟩) (boN x) (boN x) := e
    replace e2 : vs 6 = .slice (some ⟨g, 0, none⟩) 2 2 := e2
    have hB := hide hB
    have AA := A1.out.below hB.out
    have K := hide (bConcat_two g pb (some ⟨b, 0, none⟩) nb (boN x) cb (boN x) bl (boF x) W hb (by omega) (by omega) AA.pl (fun q e => by injection e with e; rw [← e]) AA.row h2)
    clear h2 hb AA
    simp [go_sem, evS, List.lookup, e2]
    refine K.out.mono ?_
    rintro e w' ⟨v, rfl, hO, h3⟩
    obtain ⟨q, cq, rfl, hcq, hS⟩ := own_srow hO
    have hlt := own_lt hO
    have hsz := hB.out.size
    exact ⟨_, rfl, ⟨q, cq, rfl, hS, fun ad e => Nat.le_trans hsz (hlt _ (by subst e; rfl)), hB.out.trans (h3.mono hB.out.size)⟩, fun u h => by cases h⟩
  repeat (refine MJ.lex_calm rfl (by rfl) (fun K hK => ?_); apply Exists.intro; refine ⟨fun W' hW => ?_, ?_⟩; (dsimp only at hW; go_simp; exact rfl); go_simp; refine hK _ ?_; clear hK K)
  refine MJ.lex_chain 3 rfl (by kernel_rfl) rfl ?_ ?_
  · rintro vs W hA
    have y := hide hA.1
    clear hA
    simp [go_sem, evS, List.lookup]
    exact ⟨y.out, fun u h => by injection h with h1 h2; exact h1.symm⟩
  refine MJ.lex_nil ?_
  rintro vs w5 ⟨⟨q, cq, e7, hS, hq, hB⟩, e8⟩
  have e8 := e8 _ rfl
  replace e7 : vs 7 = .slice q (nb + boN x) cq := e7
  replace e8 : vs 8 = vs 7 := e8
  rw [e7] at e8
  have HS := hide hS
  have HQ := hide hq
  have AA := hide (A1.out.below hB)
  have B5 : Hid (Below w.heap.size w w5) := B1.out.trans (hB.mono B1.out.size)
  have hs5 := hB.size
  clear hS hq hB JQ
  simp only [fillS, List.foldl_cons, List.foldl_nil, e7, e8]
  clear e7 e8
  have c1 := AA.out.blk.cell 1 rfl
  have KR := hide (praise_any n (nb + boN x) cv cq vb q y (catN nb bl (boF x)) w5 AA.out.val HS.out LOW.out ADD.out.ok hn (by omega))
  have f0 := AA.out.blk.free 0
  go_wp2_with fail
  refine KR.out.mono ?_
  rintro e w6 ⟨hB6, hor⟩
  have HQW : Hid (∀ ad, q = some ad → w.heap.size ≤ ad.block) := fun ad e => by have := HQ.out ad e; omega
  have B6 : Hid (Below w.heap.size w w6) := B5.out.trans (hB6.mono B5.out.size)
  have HS6 := hide (HS.out.below hB6)
  have K6 : Hid (Blk w6 ab 64 [.slice pb nb cb, .slice (some ⟨vb, 0, none⟩) (n + 1) cv]) := (AA.out.below hB6).blk
  rcases hor with ⟨hF, rb, kc, y', rfl, hkc, hrb, hcr, hl⟩ | ⟨hF, rfl⟩
  · have FIN := hide (DONE.out w6 HA.out B6.out rb kc cq q y' hl HS6.out HQW.out (by have := B5.out.size; omega) hcr hkc)
    have g0 := K6.out.free 0
    have g1 := K6.out.free 1
    have h0 := K6.out.cell 0 rfl
    have h1 := K6.out.cell 1 rfl
    have gs := (K6.out.set 0 (.slice q (nb + boN x) cq)).free 1
    have hs := (K6.out.set 0 (.slice q (nb + boN x) cq)).cell 1 rfl
    clear hcr hl hrb hkc hF KR HS HQ AA A1 B1 T1 FE DONE FAIL KB ADD LOW HS6 HQW B6 B5 c1 f0 HA K6
    go_wp2_with fail
    exact FIN.out
  · have FIN := hide (FAIL.out w6 B6.out fun h => hF (FE.out.2 h))
    clear hF KR HS HQ AA A1 B1 T1 FE DONE FAIL KB ADD LOW HS6 HQW B6 B5 c1 f0 HA K6
    go_wp2_with fail
    exact FIN.out
end Go.Proofs.Ytdoncogkepopiaa
