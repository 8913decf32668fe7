/- Add of package constraint answers as Solve of the longer list, in new memory; no condition but on sizes. -/
import Derived.Test.YtdoncogkepopiaaCpH
namespace Go.Proofs.Ytdoncogkepopiaa
open Go.RowKit Go.Sort Go.Shelf
set_option linter.unusedVariables false
set_option linter.unusedSimpArgs false

theorem off_of {p q : Bool} (h : p = true → q = true) (hq : q = false) : p = false := by
  cases hp : p with
  | false => rfl
  | true => rw [h hp] at hq; exact Bool.noConfusion hq
set_option maxHeartbeats 16000000 in
set_option maxRecDepth 100000 in
theorem gAddF (vars : Int) (q1 q2 q3 : Option Addr) (m c1 n2 c2 n3 c3 : Nat) (l : Nat → Cn) (x : Cn) (w : World) (hp : SRow w q1 m 5 (cnC l)) (hmc : m ≤ c1) (hm : m ≤ 90000) :
    Calls Try.prog 22 #[sysV vars q1 m c1 q2 n2 c2 q3 n3 c3, cnU x] w (SoF vars (m + 1) (upd l m x) w) := by
  obtain ⟨it, i1, i2, i3, i4⟩ := info_partsU info_cnB
  have SA : Hid (Blk (((w.alloc (.cells ([.int .i64 vars, .slice q1 m c1, .slice q2 n2 c2, .slice q3 n3 c3] : List Value).toArray 26)).alloc (.cells ([.int .i64 x.a, .int .i64 x.b, .int .i64 x.rel, .int .i64 x.cc, .int .i64 x.st] : List Value).toArray 40)).alloc (.cells #[.int .i64 0, .slice none 0 0, .slice none 0 0, .slice none 0 0] 26)) w.heap.size 26 [.int .i64 vars, .slice q1 m c1, .slice q2 n2 c2, .slice q3 n3 c3]) := Blk.alloc (Blk.alloc (Blk.new rfl) _) _
  have SC : Hid (Blk (((w.alloc (.cells ([.int .i64 vars, .slice q1 m c1, .slice q2 n2 c2, .slice q3 n3 c3] : List Value).toArray 26)).alloc (.cells ([.int .i64 x.a, .int .i64 x.b, .int .i64 x.rel, .int .i64 x.cc, .int .i64 x.st] : List Value).toArray 40)).alloc (.cells #[.int .i64 0, .slice none 0 0, .slice none 0 0, .slice none 0 0] 26)) (w.heap.size + 1) 40 [.int .i64 x.a, .int .i64 x.b, .int .i64 x.rel, .int .i64 x.cc, .int .i64 x.st]) := Blk.alloc (Blk.new (by simp)) _
  have SZ : Hid (Blk (((w.alloc (.cells ([.int .i64 vars, .slice q1 m c1, .slice q2 n2 c2, .slice q3 n3 c3] : List Value).toArray 26)).alloc (.cells ([.int .i64 x.a, .int .i64 x.b, .int .i64 x.rel, .int .i64 x.cc, .int .i64 x.st] : List Value).toArray 40)).alloc (.cells #[.int .i64 0, .slice none 0 0, .slice none 0 0, .slice none 0 0] 26)) (w.heap.size + 1 + 1) 26 [.int .i64 0, .slice none 0 0, .slice none 0 0, .slice none 0 0]) := Blk.new (by simp)
  have HB1 : Hid (Below w.heap.size w (((w.alloc (.cells ([.int .i64 vars, .slice q1 m c1, .slice q2 n2 c2, .slice q3 n3 c3] : List Value).toArray 26)).alloc (.cells ([.int .i64 x.a, .int .i64 x.b, .int .i64 x.rel, .int .i64 x.cc, .int .i64 x.st] : List Value).toArray 40)).alloc (.cells #[.int .i64 0, .slice none 0 0, .slice none 0 0, .slice none 0 0] 26))) := (((Below.refl _ _).alloc (Nat.le_refl _) _).alloc (by simp) _).alloc (by simp; omega) _
  have HSK : Hid (w.heap.size ≤ w.heap.size + 1 + 1) := by show _ ≤ _; omega
  have RET : Hid (∀ (tm : Array Value) (W : World) (sk : Nat) (er : Int) (cs : List Value), tm.getD 4 undef = .pointer (some ⟨sk, 0, none⟩) → tm.getD 5 undef = .int .i64 er → Blk W sk 26 cs → cs.length = 4 → (results Try.f22 tm).run Try.prog W = .ok (.tuple #[.agg cs.toArray, .int .i64 er]) W) := fun tm W sk er cs h1 h2 h3 h4 => by
    have := results_row_tmp (P := Try.prog) (fn := Try.f22) (p := 4) (u := 5) (ty := 26) rfl tm W sk 26 cs.toArray (0, 0) _ h1 h3 Try.underlying26 rfl (by rw [List.size_toArray, h4]; kernel_rfl)
    rw [this, h2]
  have HP := hide (hp.below HB1.out)
  clear hp
  go_enter Try.func22, Try.ntmps22
  go_wp2_with fail
  generalize ((w.alloc (.cells ([.int .i64 vars, .slice q1 m c1, .slice q2 n2 c2, .slice q3 n3 c3] : List Value).toArray 26)).alloc (.cells ([.int .i64 x.a, .int .i64 x.b, .int .i64 x.rel, .int .i64 x.cc, .int .i64 x.st] : List Value).toArray 40)).alloc (.cells #[.int .i64 0, .slice none 0 0, .slice none 0 0, .slice none 0 0] 26) = w1 at *
  have NE : w.heap.size ≠ w.heap.size + 1 + 1 ∧ w.heap.size + 1 ≠ w.heap.size + 1 + 1 := by omega
  generalize w.heap.size + 1 + 1 = sk at *
  generalize w.heap.size + 1 = cb at *
  obtain ⟨sb, hsb⟩ : ∃ sb, sb = w.heap.size := ⟨_, rfl⟩
  rw [← hsb] at SA NE ⊢
  clear hsb
  have HSK1 : Hid (sk < w1.heap.size) := SZ.out.lt
  have JQ : Hid (∀ W', Kept sk w1 W' → W'.cell? ⟨sb, 0, none⟩ = some (.int .i64 vars) ∧ W'.cell? ⟨sb, 1, none⟩ = some (.slice q1 m c1) ∧ W'.cell? ⟨cb, 0, none⟩ = some (.int .i64 x.a) ∧ W'.cell? ⟨cb, 1, none⟩ = some (.int .i64 x.b) ∧ W'.cell? ⟨cb, 2, none⟩ = some (.int .i64 x.rel) ∧ W'.cell? ⟨cb, 3, none⟩ = some (.int .i64 x.cc) ∧ W'.cell? ⟨cb, 4, none⟩ = some (.int .i64 x.st)) := fun W' h => by
    have k1 : Blk W' sb 26 [.int .i64 vars, .slice q1 m c1, .slice q2 n2 c2, .slice q3 n3 c3] := SA.out.kept h NE.1
    have k2 : Blk W' cb 40 [.int .i64 x.a, .int .i64 x.b, .int .i64 x.rel, .int .i64 x.cc, .int .i64 x.st] := SC.out.kept h NE.2
    exact ⟨k1.cell 0 rfl, k1.cell 1 rfl, k2.cell 0 rfl, k2.cell 1 rfl, k2.cell 2 rfl, k2.cell 3 rfl, k2.cell 4 rfl⟩
  refine MJ.wp_region_mixed (fun W' => W'.cell? ⟨sb, 0, none⟩ = some (.int .i64 vars) ∧ W'.cell? ⟨sb, 1, none⟩ = some (.slice q1 m c1) ∧ W'.cell? ⟨cb, 0, none⟩ = some (.int .i64 x.a) ∧ W'.cell? ⟨cb, 1, none⟩ = some (.int .i64 x.b) ∧ W'.cell? ⟨cb, 2, none⟩ = some (.int .i64 x.rel) ∧ W'.cell? ⟨cb, 3, none⟩ = some (.int .i64 x.cc) ∧ W'.cell? ⟨cb, 4, none⟩ = some (.int .i64 x.st)) [4, 6, 7, 8, 9, 10, 11, 12] [(10, 4), (12, 6), (13, 7), (14, 8), (15, 9), (16, 10), (5, 12)] (AdM w w1 sk vars m l x) (by kernel_rfl) (by kernel_rfl) (by simp) ?h0 (fun D D' vs vs' W hD h => h.ext hD) (fun D vs W i hM _ _ _ _ => JQ.out W hM.kp) ?_
  case h0 => exact fun vs => ⟨⟨rfl, rfl, rfl, Nat.le_refl _, fun _ _ _ => rfl⟩, HdM.start ⟨rfl, rfl, rfl, Nat.le_refl _, fun _ _ => rfl⟩, TlM.idle rfl rfl rfl rfl rfl⟩
  repeat (refine MJ.lex_calm rfl (by rfl) (fun K hK => ?_); apply Exists.intro; refine ⟨fun W' hW => ?_, ?_⟩; (dsimp only at hW; go_simp; exact rfl); go_simp; refine hK _ ?_; clear hK K)
  refine MJ.lex_made (by rfl) rfl ?_ ?_
  · rintro D vs W hM hD hcl hdep
    have f7 := off_of (hcl 7 4 (by decide +kernel)) hD
    have f8 := off_of (hcl 8 7 (by decide +kernel)) f7
    have f9 := off_of (hcl 9 8 (by decide +kernel)) f8
    have f10 := off_of (hcl 10 8 (by decide +kernel)) f8
    have f11 := off_of (hcl 11 9 (by decide +kernel)) f9
    have f12 := off_of (hcl 12 10 (by decide +kernel)) f10
    have K := hide (pclone_any q1 m c1 l W (HP.out.below (hM.hd.h0 f8)) hmc (by omega))
    have MM := hide hM
    clear hM
    simp [go_sem, evS, List.lookup]
    refine K.out.mono ?_
    rintro e w' ⟨v, rfl, hO, hB⟩
    exact ⟨_, rfl, MM.out.kp.then hB, MM.out.hd.opA (by decide) (by decide) (by decide) f7 f8 hO hB, TlM.idle_upd (by decide) f8 f9 f10 f11 f12⟩
  repeat (refine MJ.lex_calm rfl (by rfl) (fun K hK => ?_); apply Exists.intro; refine ⟨fun W' hW => ?_, ?_⟩; (dsimp only at hW; go_simp; exact rfl); go_simp; refine hK _ ?_; clear hK K)
  refine MJ.lex_made (by rfl) rfl ?_ ?_
  · rintro D vs W hM hD hcl hdep
    have f7 := off_of (hcl 7 6 (by decide +kernel)) hD
    have f8 := off_of (hcl 8 7 (by decide +kernel)) f7
    have f9 := off_of (hcl 9 8 (by decide +kernel)) f8
    have f10 := off_of (hcl 10 8 (by decide +kernel)) f8
    have f11 := off_of (hcl 11 9 (by decide +kernel)) f9
    have f12 := off_of (hcl 12 10 (by decide +kernel)) f10
    have FIN : Hid (AdM w w1 sk vars m l x (upd D 6 true) (upd vs 6 (.slice (some ⟨W.heap.size, 0, none⟩) 1 1)) (W.alloc (.cells ([.int .i64 x.a, .int .i64 x.b, .int .i64 x.rel, .int .i64 x.cc, .int .i64 x.st] : List Value).toArray 40))) := ⟨hM.kp.then ((Below.refl _ _).alloc (Nat.le_refl _) _), hM.hd.opB (by decide) (by decide) (by decide) f7 f8, TlM.idle_upd (by decide) f8 f9 f10 f11 f12⟩
    clear hM
    simp [go_sem, evS, List.lookup]
    exact FIN.out
  repeat (refine MJ.lex_calm rfl (by rfl) (fun K hK => ?_); apply Exists.intro; refine ⟨fun W' hW => ?_, ?_⟩; (dsimp only at hW; go_simp; exact rfl); go_simp; refine hK _ ?_; clear hK K)
  refine MJ.lex_made (by rfl) rfl ?_ ?_
  · rintro D vs W hM hD hcl hdep
    have f4 := hdep 4 (by decide +kernel)
    have f6 := hdep 6 (by decide +kernel)
    have f8 := off_of (hcl 8 7 (by decide +kernel)) hD
    have f9 := off_of (hcl 9 8 (by decide +kernel)) f8
    have f10 := off_of (hcl 10 8 (by decide +kernel)) f8
    have f11 := off_of (hcl 11 9 (by decide +kernel)) f9
    have f12 := off_of (hcl 12 10 (by decide +kernel)) f10
    have hO := (hM.hd.ha f4 hD).1
    obtain ⟨g, e, hb⟩ := hM.hd.hb f6 hD
    have hW := hM.hd.h0 f8
    refine does_append W _ _ 22 rfl w1.heap.size 40 it _ 5 40 Try.underlying22 i1 i2 i3 i4 rfl (by decide) (vs 4) m _ rfl hO ⟨g, 0, none⟩ 1 1 [.int .i64 x.a, .int .i64 x.b, .int .i64 x.rel, .int .i64 x.cc, .int .i64 x.st] e (by decide) rfl ?c1 ?c2 ?c3 ?c4 ?c5 ?_
    case c1 =>
      intro j u hj
      rw [addr_add]
      exact hb.cell j hj
    case c2 => intro u hu; simp at hu; rcases hu with rfl | rfl | rfl | rfl | rfl <;> rfl
    case c3 => unfold maxLen; omega
    case c4 => omega
    case c5 => exact hW.size
    intro v' w' ho hgr hd
    have B2 : Below w1.heap.size w1 w' := Below.by hW hO hgr (Nat.le_refl _) (Nat.le_refl _)
    exact ⟨Kept.of B2, hM.hd.opC (by decide) (by decide) (by decide) f4 hD f8 ho hgr, TlM.idle_upd (by decide) f8 f9 f10 f11 f12⟩
  repeat (refine MJ.lex_calm rfl (by rfl) (fun K hK => ?_); apply Exists.intro; refine ⟨fun W' hW => ?_, ?_⟩; (dsimp only at hW; go_simp; exact rfl); go_simp; refine hK _ ?_; clear hK K)
  refine MJ.lex_made (by rfl) rfl ?_ ?_
  · rintro D vs W hM hD hcl hdep
    have f7 := hdep 7 (by decide +kernel)
    have f9 := off_of (hcl 9 8 (by decide +kernel)) hD
    have f10 := off_of (hcl 10 8 (by decide +kernel)) hD
    have f11 := off_of (hcl 11 9 (by decide +kernel)) f9
    have f12 := off_of (hcl 12 10 (by decide +kernel)) f10
    obtain ⟨q, cq, e, hcq, hS⟩ := own_srow (hM.hd.hc f7 hD)
    have hW := hM.hd.h0 hD
    have K := hide (gSoF vars q (m + 1) cq (upd l m x) W hS hcq (by omega))
    have FIN : Hid (∀ e' w', SoF vars (m + 1) (upd l m x) W e' w' → ∃ v, e' = .returned v ∧ AdM w w1 sk vars m l x (upd D 8 true) (upd vs 8 v) w') := fun e' w' h => by
      have h2 := h.base hW
      obtain ⟨v, rfl⟩ : ∃ v, e' = .returned v := by
        by_cases h0 : erS vars (m + 1) (upd l m x) = 0
        · obtain ⟨_, _, _, _, _, _, q, _⟩ := h.1 h0; exact ⟨_, q⟩
        · exact ⟨_, h.2.1 h0⟩
      exact ⟨v, rfl, Kept.of h2.2.2, HdM.done (by simp [upd]) (by rw [show upd D 8 true 7 = D 7 by simp [upd]]; exact f7), TlM.op0 (by decide) f9 f10 f11 f12 h2 ((h2.2.2.block sk SZ.out.lt).trans SZ.out)⟩
    clear hM hS hW
    simp [go_sem, evS, List.lookup, e]
    exact K.out.mono FIN.out
  repeat (refine MJ.lex_calm rfl (by rfl) (fun K hK => ?_); apply Exists.intro; refine ⟨fun W' hW => ?_, ?_⟩; (dsimp only at hW; go_simp; exact rfl); go_simp; refine hK _ ?_; clear hK K)
  refine MJ.lex_made (by rfl) rfl ?_ ?_
  · rintro D vs W hM hD hcl hdep
    have f0 := hdep 8 (by decide +kernel)
    have D8 := f0
    have f3 := off_of (hcl 11 9 (by decide +kernel)) hD
    have ⟨v0, q1, n1, c1, q2, n2, c2, q3, n3, c3, er, e⟩ := sof_shape (hM.tl.t0 f0 f3).1
    have FIN : Hid (AdM w w1 sk vars m l x (upd D 9 true) (upd vs 9 (sysV v0 q1 n1 c1 q2 n2 c2 q3 n3 c3)) W) := ⟨hM.kp, HdM.done (by rw [show upd D 9 true 8 = D 8 by simp [upd]]; exact D8) (by rw [show upd D 9 true 7 = D 7 by simp [upd]]; exact hcl 8 7 (by decide +kernel) D8), hM.tl.op1 (by decide) f0 e rfl⟩
    clear hM
    simp [go_sem, evS, List.lookup, e]
    exact FIN.out
  repeat (refine MJ.lex_calm rfl (by rfl) (fun K hK => ?_); apply Exists.intro; refine ⟨fun W' hW => ?_, ?_⟩; (dsimp only at hW; go_simp; exact rfl); go_simp; refine hK _ ?_; clear hK K)
  refine MJ.lex_made (by rfl) rfl ?_ ?_
  · rintro D vs W hM hD hcl hdep
    have f0 := hdep 8 (by decide +kernel)
    have D8 := f0
    have f4 := off_of (hcl 12 10 (by decide +kernel)) hD
    have ⟨a, er, e⟩ := hM.tl.int_at f0
    have FIN : Hid (AdM w w1 sk vars m l x (upd D 10 true) (upd vs 10 (.int .i64 er)) W) := ⟨hM.kp, HdM.done (by rw [show upd D 10 true 8 = D 8 by simp [upd]]; exact D8) (by rw [show upd D 10 true 7 = D 7 by simp [upd]]; exact hcl 8 7 (by decide +kernel) D8), hM.tl.op2 (by decide) f0 f4 e rfl⟩
    clear hM
    simp [go_sem, evS, List.lookup, e]
    exact FIN.out
  repeat (refine MJ.lex_calm rfl (by rfl) (fun K hK => ?_); apply Exists.intro; refine ⟨fun W' hW => ?_, ?_⟩; (dsimp only at hW; go_simp; exact rfl); go_simp; refine hK _ ?_; clear hK K)
  refine MJ.lex_made (by rfl) rfl ?_ ?_
  · rintro D vs W hM hD hcl hdep
    have f1 := hdep 9 (by decide +kernel)
    have ⟨v0, q1, n1, c1, q2, n2, c2, q3, n3, c3, e3, f0, s2, hF⟩ := hM.tl.store_at f1 hD HSK.out HSK1.out HB1.out
    have FIN := hide (fun u => (⟨(((hM.kp.set 0 _).set 1 _).set 2 _).set 3 _, HdM.done (by rw [show upd D 11 true 8 = D 8 by simp [upd]]; exact f0) (by rw [show upd D 11 true 7 = D 7 by simp [upd]]; exact hcl 8 7 (by decide +kernel) f0), hM.tl.op3 (v := u) (by decide) f0 hF⟩ : AdM w w1 sk vars m l x (upd D 11 true) (upd vs 11 u) _))
    have y0 := s2.cell 0 rfl
    have y1 := s2.cell 1 rfl
    have y2 := s2.cell 2 rfl
    have y3 := s2.cell 3 rfl
    have z0 := s2.free 0
    have z1 := s2.free 1
    have z2 := s2.free 2
    have z3 := s2.free 3
    clear hM hF s2
    simp [go_sem, evS, List.lookup, e3, y0, y1, y2, y3, z0, z1, z2, z3]
    exact FIN.out _
  repeat (refine MJ.lex_calm rfl (by rfl) (fun K hK => ?_); apply Exists.intro; refine ⟨fun W' hW => ?_, ?_⟩; (dsimp only at hW; go_simp; exact rfl); go_simp; refine hK _ ?_; clear hK K)
  refine MJ.lex_made (by rfl) rfl ?_ ?_
  · rintro D vs W hM hD hcl hdep
    have f2 := hdep 10 (by decide +kernel)
    have D8 := (hM.tl.t2 f2).1
    have FIN : Hid (AdM w w1 sk vars m l x (upd D 12 true) (upd vs 12 (vs 10)) W) := ⟨hM.kp, HdM.done (by rw [show upd D 12 true 8 = D 8 by simp [upd]]; exact D8) (by rw [show upd D 12 true 7 = D 7 by simp [upd]]; exact hcl 8 7 (by decide +kernel) D8), hM.tl.op4 (by decide) f2 rfl⟩
    clear hM
    simp [go_sem, evS, List.lookup]
    exact FIN.out
  refine MJ.lex_nil ?_
  rintro vs w5 hM
  have ⟨v0, q1', n1, c1', q2', n2', c2', q3', n3', c3', er, e5, hK, hS⟩ := hM.tl.at_end
  have HF := hide hS
  have KF := hide hK
  clear hM hK hS JQ SA SC SZ HP
  simp only [fillS, List.foldl_cons, List.foldl_nil, e5]
  go_wp2_with fail
  go_simp
  refine bodyPost_ret (RET.out _ _ _ _ _ rfl rfl KF.out rfl) rfl ?_
  exact HF.out
end Go.Proofs.Ytdoncogkepopiaa
