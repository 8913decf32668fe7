/- The one sequence of a paragraph of simple classes that is not empty. -/
import Derived.Test.YtdkmjhbkjhikfaaBdX3
import Derived.Test.YtdkmjhbkjhikfaaBdNx
import Derived.Test.YtdkmjhbkjhikfaaBdU
import Derived.Test.YtdkmjhbkjhikfaaBdNp
namespace Go.Proofs.Ytdkmjhbkjhikfaa
open Go.RowKit Go.Sort
set_option linter.unusedVariables false
set_option linter.unusedSimpArgs false

def lastR (s : Nat) (R : Value → World → Prop) (w0 : World) (D : Nat → Bool) (vs : Nat → Value) (w : World) : Prop := (D s = false → Grew w0 w) ∧ (D s = true → R (vs s) w)
/-- A drawn region whose last operation comes behind all others. -/
theorem wp_region_lastR {id : Nat} {Q : Exit → Act → World → Prop} {a0 : Act} {w0 : World} {l : List Oper} (s t : Nat) (R : Value → World → Prop) (hm : Try.prog.follows .mixedOrders = true) (hB : mixB l.toArray [s] [(t, s)] = true) (hl : l.length = s + 1)
    (hs : Region.sinkB .any l.toArray s = true) (hfits : t < a0.tmps.size)
    (h : wpLex Try.prog l.toArray [s] [(t, s)] (lastR s R w0) w0 (fun af => ∀ vs w, lastR s R w0 (fun _ => true) vs w → Q .normal (fillS [(t, s)] vs af) w) 0 l a0) : (Code.region id l.toArray true).wp Try.prog Q a0 w0 := by
  refine wp_region_mixed [s] [(t, s)] (lastR s R w0) hm hB (fun p hp => by simp at hp; subst hp; exact hfits) (fun vs => ⟨fun _ => (Grew.refl _).drew, fun h => by simp at h⟩) ?_ ?_ h
  · intro D D' vs vs' w hD hM
    have e := (hD s (by simp)).1
    exact ⟨fun h => hM.1 (e.trans h), fun h => by rw [← (hD s (by simp)).2 (e.trans h)]; exact hM.2 (e.trans h)⟩
  · intro D vs w i hM hi hb hd hc
    have hsi : D s = false := by
      cases hq : D s with
      | false => rfl
      | true =>
        have hne : i ≠ s := fun e => by subst e; rw [hd] at hq; cases hq
        have := sink_done hs hc hq _ i rfl (by omega)
        rw [hd] at this; cases this
    exact ⟨hM.1 hsi, fun w' g => ⟨fun _ => (hM.1 hsi).trans g, fun h => by rw [hsi] at h; cases h⟩⟩

theorem info_ptr : (Try.prog.info? 44).map (fun i => (i.zero, i.size, i.bytes)) = some (some (.pointer none), 1, 8) := by kernel_rfl
theorem info_bool : (Try.prog.info? 4).map (fun i => (i.zero, i.size, i.bytes)) = some (some (.bool false), 1, 1) := by kernel_rfl
theorem make_bool (w : World) : (Instr.makeSlice 29 (.int .i64 1) (.int .i64 1)).run Try.prog w = .ok (.slice (some ⟨w.heap.size, 0, none⟩) 1 1) (w.alloc (.cells #[.bool false] 4)) := by
  obtain ⟨i, hi, hz0, hz1, hz2⟩ := info_parts info_bool
  have hr := run_make (P := Try.prog) w 29 4 i _ Try.underlying29 hi hz0 .i64 .i64 1 1 (by omega) (by omega) (by rw [hz2]; omega) (by omega)
  rw [hr, hz1]
  have e : madeCells (Value.bool false).cells 1 = #[.bool false] := by kernel_rfl
  show Result.ok _ (w.alloc (.cells (madeCells (Value.bool false).cells 1) 4)) = _
  rw [e]
  rfl
/-- What a filled sequence's slices are. -/
theorem Ext.parts {w0 wr : World} {sb n : Nat} {V : Nat → Value} {lev st en : Int} {tx g : Nat → Int} (H : Ext w0 wr sb n 0 V lev st en tx g) (hp : 0 < n) :
    ∃ rb cr tb ct gb cg cb cc, V 0 = .slice (some ⟨rb, 0, none⟩) n cr ∧ V 1 = .slice (some ⟨tb, 0, none⟩) n ct ∧ V 2 = .slice (some ⟨gb, 0, none⟩) n cg ∧ V 3 = .slice (some ⟨cb, 0, none⟩) n cc ∧
      CRow wr rb cr n idF ∧ TRow wr tb n tx ∧ CRow wr gb cg n g ∧ CRow wr cb cc n g ∧ (w0.heap.size ≤ rb ∧ w0.heap.size ≤ tb ∧ w0.heap.size ≤ gb ∧ w0.heap.size ≤ cb) ∧ rb ≠ cb ∧ tb ≠ cb ∧ gb ≠ cb := by
  have e : ∀ i, NN n 0 i = n := fun i => if_neg (by omega)
  have o0 := H.own 0 (by omega)
  have o1 := H.own 1 (by omega)
  have o2 := H.own 2 (by omega)
  have o3 := H.own 3 (by omega)
  rw [e] at o0 o1 o2 o3
  obtain ⟨rb, cr, e0, b0, r0⟩ := own_crow (f := idF) o0 hp
  obtain ⟨gb, cg, e2, b2, r2⟩ := own_crow (f := g) o2 hp
  obtain ⟨cb, cc, e3, b3, r3⟩ := own_crow (f := g) o3 hp
  have ⟨tb, ct, e1, b1, r1⟩ : ∃ tb ct, V 1 = .slice (some ⟨tb, 0, none⟩) n ct ∧ w0.heap.size ≤ tb ∧ TRow wr tb n tx := by
    rcases o1.2 with ⟨_, h0⟩ | ⟨b, cap, cur, hv, hb, hg, hc, hm, hs, ht⟩
    · omega
    · refine ⟨b, cap, hv, hb, cur, hg, fun k hk => ?_⟩
      have : (rvals n tx)[k]? = some (.int .i32 (tx k)) := by simp [rvals, hk]
      have ht' : cur.toList.take (n * 1) = rvals n tx := ht
      rw [← ht', List.getElem?_take, if_pos (by omega)] at this
      simpa using this
  have ap := fun i j hi hj hij => H.apart i j hi hj hij
  refine ⟨rb, cr, tb, ct, gb, cg, cb, cc, e0, e1, e2, e3, r0, r1, r2, r3, ⟨b0, b1, b2, b3⟩, fun h => ?_, fun h => ?_, fun h => ?_⟩
  · exact ap 0 3 (by omega) (by omega) (by omega) rb (by rw [e0]; rfl) (by rw [e3, h]; rfl)
  · exact ap 1 3 (by omega) (by omega) (by omega) tb (by rw [e1]; rfl) (by rw [e3, h]; rfl)
  · exact ap 2 3 (by omega) (by omega) (by omega) gb (by rw [e2]; rfl) (by rw [e3, h]; rfl)

theorem ParAt.away {w w' : World} {pb gb cb lb n x : Nat} {vt : Value} {base : Int} {g c l : Nat → Int} (h : ParAt w pb gb cb lb n vt base g c l) (k : But x w w') (e1 : pb ≠ x) (e2 : gb ≠ x) (e3 : cb ≠ x) (e4 : lb ≠ x) : ParAt w' pb gb cb lb n vt base g c l :=
  ⟨k.blk h.blk e1, k.irow h.giv e2, k.irow h.cls e3, k.irow h.lev e4, h.n1, h.n2, h.n3, h.n4, h.n5, h.n6⟩
section
variable {w0 wr w' : World} {sb k s : Nat} {V : Nat → Value} {lev st en : Int} {tx g : Nat → Int}
theorem Ext.grew (H : Ext w0 wr sb k s V lev st en tx g) (G : Grew wr w') : Ext w0 w' sb k s V lev st en tx g :=
  ⟨H.but.trans (But.of_grew G), H.blk.grew G, H.lt, fun i hi => own_grew (H.own i hi) G, H.apart⟩
theorem Ext.set5 (H : Ext w0 wr sb k s V lev st en tx g) (v : Int) : Ext w0 (wr.setCell ⟨sb, 5, none⟩ (.int .i64 v)) sb k s V lev v en tx g :=
  ⟨H.but.setCell rfl _, H.blk.set 5 _, H.lt, fun i hi => own_move (H.own i hi) fun b hb => heap_setCell_other wr _ b _ (by have := ((H.own i hi).lt b hb).1; have := H.lt; show b ≠ sb; omega), H.apart⟩
theorem Ext.set6 (H : Ext w0 wr sb k s V lev st en tx g) (v : Int) : Ext w0 (wr.setCell ⟨sb, 6, none⟩ (.int .i64 v)) sb k s V lev st v tx g :=
  ⟨H.but.setCell rfl _, H.blk.set 6 _, H.lt, fun i hi => own_move (H.own i hi) fun b hb => heap_setCell_other wr _ b _ (by have := ((H.own i hi).lt b hb).1; have := H.lt; show b ≠ sb; omega), H.apart⟩
end
theorem outside_grew (pb gb cb lb n : Nat) (vt : Value) (base lev : Int) (g c l : Nat → Int) (kp : Option Addr) (kc : Nat) (pl : Int) (w : World) (H : ParAt w pb gb cb lb n vt base g c l) (hb : base = 0 ∨ base = 1) (hl : lev = base) (hp : pl = -1 ∨ pl = n) :
    Calls Try.prog 46 #[.pointer (some ⟨pb, 0, none⟩), .int .i64 lev, .slice kp n kc, .int .i64 pl] w fun e w' => e = .returned (.int .i64 base) ∧ Grew w w' :=
  (outside_any pb gb cb lb n vt base lev g c l kp kc pl w H hb hl hp).mono fun _ _ ⟨h1, h2⟩ => ⟨h1, h2 ▸ Grew.refl _⟩
theorem initiates_grew (x : Int) (w : World) (h : Sm x ∨ x = 13) : Calls Try.prog 47 #[.int .i64 x] w fun e w' => e = .returned (.bool false) ∧ Grew w w' :=
  (initiates_no x w h).mono fun _ _ ⟨h1, h2⟩ => ⟨h1, h2 ▸ Grew.refl _⟩
theorem CRow.fits {w : World} {b c n : Nat} {f : Nat → Int} (h : CRow w b c n f) : n ≤ c := by obtain ⟨cur, _, _, h3, _⟩ := h; exact h3

set_option maxRecDepth 100000 in
set_option maxHeartbeats 8000000 in
theorem sequences_any (pb gb cb lb n tb off ct : Nat) (base : Int) (g tx : Nat → Int) (w : World) (H : ParAt w pb gb cb lb n (.slice (some ⟨tb, off, none⟩) n ct) base g g (fun _ => base)) (hb : base = 0 ∨ base = 1) (hs : ∀ k, k < n → Sm (g k))
    (ht : ∀ k, k < n → w.cell? ⟨tb, off + k, none⟩ = some (.int .i32 (tx k))) (htb : tb < w.heap.size) (hn : n ≤ 100000) (hp : 0 < n) :
    Calls Try.prog 22 #[.pointer (some ⟨pb, 0, none⟩)] w fun e w' => ∃ fb fc sb V, e = .returned (.slice (some ⟨fb, 0, none⟩) 1 fc) ∧ Grew w w' ∧ fb < fb + fc ∧ w'.cell? ⟨fb, 0, none⟩ = some (.pointer (some ⟨sb, 0, none⟩)) ∧
      ∃ w0, w.heap.size ≤ sb ∧ w.heap.size ≤ w0.heap.size ∧ Ext w0 w' sb n 0 V base base base tx g := by
  have K1 := hide (kept_any pb gb cb lb n _ base g g (fun _ => base) w H hs hn hp)
  have HH := hide H
  have HS := hide hs
  have HT := hide ht
  have HTB := hide htb
  have HB := hide hb
  clear H hs ht htb hb
  go_enter Try.func22, Try.ntmps22
  go_wp2_with fail
  refine K1.out.mono ?_
  rintro e w1 ⟨kb, kc, rfl, G1, hkb, R1⟩
  have K2 := hide (levelRuns_any pb gb cb lb n kb kc _ base g g w1 (HH.out.grew G1) R1 hn hp)
  have G1' := hide G1
  have R1' := hide R1
  clear G1 R1 K1
  go_wp2_with fail
  refine K2.out.mono ?_
  rintro e w2 ⟨rb, rc, rfl, G2, ⟨hrb, hrc⟩, R2⟩
  have G2' := hide (G1'.out.trans G2)
  have R1'' := hide (R1'.out.same (G2.1.block kb R1'.out.lt))
  have K3 := hide (nextRuns_any pb gb cb lb n kb kc rb rc _ base g g (fun _ => base) w2 (HH.out.grew G2'.out) R1''.out R2 HS.out hn hp)
  have R2' := hide R2
  have hrb' := hide hrb
  clear G2 R2 R1' K2 G1' hrb
  go_wp2_with fail
  refine K3.out.mono ?_
  rintro e w3 ⟨nb, rfl, G3, hnb, R3⟩
  have G3' := hide (G2'.out.trans G3)
  have KR := hide (R1''.out.same (G3.1.block kb R1''.out.lt))
  have RR := hide (R2'.out.grew G3)
  have hmb := make_bool w3
  obtain ⟨B, hB⟩ : ∃ B, B = w3.heap.size := ⟨_, rfl⟩
  have G4 : Hid (Grew w (w3.alloc (.cells #[.bool false] 4)) ∧ Grew w3 (w3.alloc (.cells #[.bool false] 4))) := ⟨G3'.out.alloc _, (Grew.refl w3).alloc _⟩
  have C4 : Hid (Blk (w3.alloc (.cells #[.bool false] 4)) B 4 [.bool false]) := Blk.new hB
  have R3' := hide R3
  clear G3 R3 K3 R1'' R2' G2'
  go_wp2
  rw [← hB]
  have hB3 := hide (Nat.le_of_eq hB.symm)
  clear hB hmb
  generalize w3.alloc (.cells #[.bool false] 4) = w4 at *
  have c4 := C4.out.cell 0 rfl
  refine wp_loop_rounds 2 ?_
  rw [rounds_succ]
  go_wp2
  have P4 := hide (HH.out.grew G4.out.1)
  have KR4 := hide (KR.out.same (G4.out.2.1.block kb KR.out.lt))
  have RR4 := hide (RR.out.grew G4.out.2)
  have R4 := hide (R3'.out.grew G4.out.2)
  have hkb3 := hide KR.out.lt
  have hrb3 := hide RR.out.lt
  have hnb3 := hide R3'.out.lt
  clear KR RR R3'
  go_cut [9, 27] from 27 to 127 (fun s9 s27 wc => s27 = .int .i64 0 ∧ ∃ sb, s9 = .pointer (some ⟨sb, 0, none⟩) ∧ Hid (Grew w4 wc ∧ w4.heap.size ≤ sb ∧ Blk wc sb 71 [.slice none 0 0, .slice none 0 0, .slice none 0 0, .slice none 0 0, .int .i64 base, .int .i64 0, .int .i64 0]))
  case first =>
    have p4 := P4.out.blk.cell 4 rfl
    have r0 := RR4.out.cell0
    have k0 : w4.cell? ⟨kb, 0, none⟩ = some (.int .i64 0) := KR4.out.cell hp
    have l0 := P4.out.lev.cell hp
    have hpz : (0 : Int) < (n : Int) := by omega
    go_region_law (fail)
    all_goals
      go_wp2
      go_meet
      case rel => exact ⟨rfl, _, rfl, (Grew.refl w4).drew.alloc _, Nat.le_refl _, Blk.new (vs := [.slice none 0 0, .slice none 0 0, .slice none 0 0, .slice none 0 0, .int .i64 base, .int .i64 0, .int .i64 0]) rfl⟩
  obtain ⟨rfl, sb, rfl, X⟩ := hcut
  clear c4
  have G5 := hide (G4.out.1.trans X.out.1)
  have C5 := hide (C4.out.grew X.out.1)
  have c5 := C5.out.cell 0 rfl
  have f5 := C5.out.free 0
  have n0 := (R4.out.grew X.out.1).cell (i := 0) (by omega)
  go_wp2_with fail
  refine wp_loop_rounds 2 ?_
  rw [rounds_succ]
  go_wp2
  refine name_world fun w6 h6 => ?_
  have B6 : Hid (But B wc w6) := by rw [h6]; exact (But.refl B wc).setCell (p := ⟨B, 0, none⟩) rfl _
  have hBw : Hid (w.heap.size ≤ B) := Nat.le_trans G3'.out.size hB3.out
  have hB4 := hide C4.out.lt
  have G6 := hide (B6.out.grew G5.out hBw.out)
  have hpb := hide HH.out.blk.lt
  have hgb := hide HH.out.giv.lt
  have hcb := hide HH.out.cls.lt
  have hlb := hide HH.out.lev.lt
  have hsb := hide X.out.2.1
  have hgrow45 := hide (X.out.1.size)
  have S6 : Hid (Blk w6 sb 71 [.slice none 0 0, .slice none 0 0, .slice none 0 0, .slice none 0 0, .int .i64 base, .int .i64 0, .int .i64 0]) := B6.out.blk X.out.2.2 (by have := hB4.out; have := hsb.out; omega)
  have P6 := hide ((P4.out.grew X.out.1).away B6.out (by have := hBw.out; have := hpb.out; omega) (by have := hBw.out; have := hgb.out; omega) (by have := hBw.out; have := hcb.out; omega) (by have := hBw.out; have := hlb.out; omega))
  have KR6 := hide (B6.out.crow (KR4.out.same (X.out.1.1.block kb KR4.out.lt)) (by have := hkb3.out; have := hB3.out; omega))
  have RR6 := hide ((RR4.out.grew X.out.1).same (B6.out.block rb (RR4.out.grew X.out.1).lt (by have := hrb3.out; have := hB3.out; omega)))
  have R6 := hide (B6.out.irow (R4.out.grew X.out.1) (by have := hnb3.out; have := hB3.out; omega))
  clear h6 X C5 c5 f5 n0 B6 P4 KR4 RR4 R4 G5
  have r60 := RR6.out.cell0
  have r61 := RR6.out.cell1
  have g60 := fun m os => (RR6.out.grew (grow_of w6 m os)).cell0
  have g61 := fun m os => (RR6.out.grew (grow_of w6 m os)).cell1
  have hkc : (n : Int) ≤ (kc : Int) := by have := KR6.out.fits; omega
  have hn0 : (0 : Int) ≤ (n : Int) := by omega
  refine wp_region_lastR 14 76 (fun v w' => v = .tuple #[] ∧ ∃ W, Grew w6 W ∧ ∃ V, Ext W w' sb n 0 V base 0 0 tx g) (by kernel_rfl) (by kernel_rfl) rfl (by kernel_rfl) (by simp) ?_
  repeat (first | (refine lex_skip rfl (by rfl) ?_) | (refine lex_calm rfl (by rfl) (fun K hK => ?_); go_simp; first | (refine hK _ ?_; clear hK K)))
  refine lex_made (by rfl) rfl ?_ ?_
  · intro D vs W hM hD hcl hwt
    have G := hM.1 hD
    have KE := hide (extend_any pb gb cb lb n kb kc tb off ct sb base base 0 0 g (fun _ => base) tx W (P6.out.grew G) (KR6.out.same (G.1.block kb KR6.out.lt)) (fun k hk => by
        rw [← HT.out k hk]
        exact ((G6.out.trans G).1.cell (p := ⟨tb, off + k, none⟩) HTB.out)) hn (S6.out.grew G)
      (by have := hpb.out; have := hsb.out; have := G4.out.1.size; omega) (by have := hgb.out; have := hsb.out; have := G4.out.1.size; omega) (by have := hcb.out; have := hsb.out; have := G4.out.1.size; omega)
      (by have := hkb3.out; have := hsb.out; have := G4.out.2.size; omega) (by have := HTB.out; have := hsb.out; have := G4.out.1.size; omega))
    simp [go_sem, evS, List.lookup]
    refine KE.out.mono ?_
    rintro e w' ⟨rfl, V, hE⟩
    exact ⟨_, rfl, fun h => by simp [upd] at h, fun _ => ⟨by simp [upd], W, G, V, hE⟩⟩
  refine lex_nil ?_
  intro vs w7 hM
  obtain ⟨hv, W, GW, V, hE⟩ := hM.2 rfl
  have E7 := hide hE
  have GW' := hide GW
  simp only [fillS, List.foldl_cons, List.foldl_nil, Act.put, hv]
  clear hM hv hE GW r60 r61 g60 g61 S6
  have W67 : Hid (∀ b, b < w6.heap.size → b ≠ sb → w7.heap[b]? = w6.heap[b]?) := fun b h1 h2 => (E7.out.but.block b (Nat.lt_of_lt_of_le h1 GW'.out.size) h2).trans (GW'.out.1.block b h1)
  have hW := hide (Nat.le_trans G6.out.size GW'.out.size)
  have hsbw : Hid (w.heap.size ≤ sb) := by show _ ≤ sb; have := hsb.out; have := G4.out.1.size; omega
  have G7 : Hid (Grew w w7) := E7.out.but.grew (G6.out.trans GW'.out) hsbw.out
  have n7 := (R6.out.same (W67.out nb R6.out.lt (by have := hnb3.out; have := hsb.out; have := G4.out.2.size; omega))).cell (i := 0) (by omega)
  have P7 := hide ((P6.out.grew GW'.out).away E7.out.but (by have := hpb.out; have := hsbw.out; omega) (by have := hgb.out; have := hsbw.out; omega) (by have := hcb.out; have := hsbw.out; omega) (by have := hlb.out; have := hsbw.out; omega))
  have RR7 := hide (RR6.out.same (W67.out rb RR6.out.lt (by have := hrb3.out; have := hsb.out; have := G4.out.2.size; omega)))
  have KR7 := hide (KR6.out.same (W67.out kb KR6.out.lt (by have := hkb3.out; have := hsb.out; have := G4.out.2.size; omega)))
  clear P6 RR6 KR6 R6 W67
  go_wp2
  rw [rounds_succ]
  go_wp2
  clear n7
  have wm1 : IntKind.i64.wrap (-1) = -1 := wr (by omega) (by omega)
  have s4 := fun m os => (upto_blk E7.out.blk m os).cell 4 rfl
  have r0 := fun m os => (RR7.out.grew (grow_of w7 m os)).cell0
  have KK := fun m os => hide (outside_grew pb gb cb lb n _ base base g g _ (some ⟨kb, 0, none⟩) kc (-1) (Go.Sort.grow (w7.drewN m) os) (P7.out.grew (grow_of w7 m os)) HB.out rfl (Or.inl rfl))
  refine wp_region_stores 16 [fun W => W.setCell ⟨sb, 5, none⟩ (.int .i64 base)] (by kernel_rfl) rfl (by kernel_rfl) (by kernel_rfl) (by kernel_rfl) ?_
  repeat (first | (refine lex_skip rfl (by rfl) ?_) | (refine lex_calm rfl (by rfl) (fun K hK => ?_); go_simp; first | (refine hK _ ?_; clear hK K) | (apply Exists.intro; refine ⟨fun _ _ => ?_, hK _ ?_⟩; (with_reducible exact (KK _ _).out); (clear hK K))))
  refine lex_nil ?_
  refine stores_cons rfl ?_ ?_
  · intro wz Gz
    have c1 := (E7.out.blk.grew Gz).cell 5 rfl
    have f1 := (E7.out.blk.grew Gz).free 5
    go_simp
  refine stores_nil ?_
  intro wz Gz
  simp only [Act.put]
  have E8 := hide ((E7.out.grew Gz).set5 base)
  have B8 : Hid (But sb w7 (wz.setCell ⟨sb, 5, none⟩ (.int .i64 base))) := (But.of_grew (b := sb) Gz).setCell rfl _
  clear s4 r0 KK Gz E7
  generalize wz.setCell ⟨sb, 5, none⟩ (.int .i64 base) = w8 at *
  have G8 := hide (B8.out.grew G7.out hsbw.out)
  have P8 := hide (P7.out.away B8.out (by have := hpb.out; have := hsbw.out; omega) (by have := hgb.out; have := hsbw.out; omega) (by have := hcb.out; have := hsbw.out; omega) (by have := hlb.out; have := hsbw.out; omega))
  have RR8 := hide (RR7.out.same (B8.out.block rb RR7.out.lt (by have := hrb3.out; have := hsb.out; have := G4.out.2.size; omega)))
  have KR8 := hide (KR7.out.same (B8.out.block kb KR7.out.lt (by have := hkb3.out; have := hsb.out; have := G4.out.2.size; omega)))
  clear P7 RR7 KR7 B8 G7
  have r81 := RR8.out.cell1
  go_wp2
  clear r81
  obtain ⟨m, hm⟩ : ∃ m, n = m + 1 := ⟨n - 1, by omega⟩
  have hml := hide (show m < n by omega)
  have e1 : (n : Int) - 1 = (m : Int) := by omega
  have hmn : (m : Int) < (n : Int) := by omega
  have hm0 : (0 : Int) ≤ (m : Int) := by omega
  have wm2 : IntKind.i64.wrap (m : Int) = (m : Int) := wr (by omega) (by omega)
  have sg := hide (HS.out m (by omega))
  clear hm
  have p2 := fun q os => (upto_blk P8.out.blk q os).cell 2 rfl
  have km : ∀ q os, (Go.Sort.grow (w8.drewN q) os).cell? ⟨kb, m, none⟩ = some (.int .i64 (m : Int)) := fun q os => (KR8.out.same ((grow_of w8 q os).1.block kb KR8.out.lt)).cell hml.out
  have gm := fun q os => (P8.out.giv.grew (grow_of w8 q os)).cell hml.out
  have KK := fun q os => hide (initiates_grew (g m) (Go.Sort.grow (w8.drewN q) os) (Or.inl sg.out))
  refine wp_region_calm (by kernel_rfl) (by kernel_rfl) ?_
  repeat (first | (refine lex_skip rfl (by rfl) ?_) | (refine lex_calm rfl (by rfl) (fun K hK => ?_); go_simp; first | (refine hK _ ?_; clear hK K) | (apply Exists.intro; refine ⟨fun _ _ => ?_, hK _ ?_⟩; (with_reducible exact (KK _ _).out); (clear hK K))))
  refine lex_nil ?_
  intro w9 G9
  have G9' := hide (G8.out.trans G9)
  have E9 := hide (E8.out.grew G9)
  have P9 := hide (P8.out.grew G9)
  clear p2 km gm KK G9 E8 P8 KR8 RR8 G8
  clear e1 hmn hm0 wm2
  have s4 := E9.out.blk.cell 4 rfl
  have s6 := E9.out.blk.cell 6 rfl
  have y6 := E9.out.blk.free 6
  have KO := hide (outside_any pb gb cb lb n _ base base g g _ (some ⟨kb, 0, none⟩) kc n w9 P9.out HB.out rfl (Or.inr rfl))
  have E10 := hide (E9.out.set6 base)
  have B10 : Hid (But sb w9 (w9.setCell ⟨sb, 6, none⟩ (.int .i64 base))) := (But.refl sb w9).setCell (p := ⟨sb, 6, none⟩) rfl _
  obtain ⟨ip, hi, hz0, hz1, hz2⟩ := info_parts info_ptr
  have own0 := World.ownsRow_nil (w9.setCell ⟨sb, 6, none⟩ (.int .i64 base)) w.heap.size 44 1
  have G10 := hide (B10.out.grew G9'.out hsbw.out)
  have hszz : Hid (w.heap.size ≤ w9.heap.size) := G9'.out.size
  clear E9 P9 B10 G9'
  go_wp2_with fail
  refine KO.out.mono ?_
  rintro e w' ⟨rfl, rfl⟩
  clear KO
  go_wp2_with (at_builtin; refine wpList_append_drawn2 _ rfl _ _ 42 rfl w.heap.size 44 ip (.pointer none) 1 8 Try.underlying42 hi hz0 hz1 hz2 rfl (by decide) _ _ _ rfl (own0.alloc _) ⟨w9.heap.size, 0, none⟩ 1 1 [.pointer (some ⟨sb, 0, none⟩)] rfl (by decide) rfl ?c1 ?c2 ?c3 ?c4 ?c5 ?_)
  case c1 =>
    intro j u hj
    match j, hj with
    | 0, hj =>
      simp at hj
      subst hj
      exact (Blk.new (W := w9.setCell ⟨sb, 6, none⟩ (.int .i64 base)) (b := w9.heap.size) (T := 44) (vs := [.pointer (some ⟨sb, 0, none⟩)]) (by simp)).cell 0 rfl
  case c2 => intro u hu; simp at hu; subst hu; rfl
  case c3 => unfold maxLen; omega
  case c4 => omega
  case c5 => have := hszz.out; simp; omega
  · intro v' w11 hown' hgrow hd halt
    obtain ⟨fb, fc, rfl⟩ := own_slice hown' (by omega)
    have Ga := hide ((G10.out.alloc (.cells #[.pointer (some ⟨sb, 0, none⟩)] 44)).appended hgrow hd (fun k h => by simp [Value.ownBlock] at h))
    have Gb : Hid (Grew (w9.setCell ⟨sb, 6, none⟩ (.int .i64 base)) w11) := ((Grew.refl _).alloc (.cells #[.pointer (some ⟨sb, 0, none⟩)] 44)).appended hgrow hd (fun k h => by simp [Value.ownBlock] at h)
    have fcell : Hid (w11.cell? ⟨fb, 0, none⟩ = some (.pointer (some ⟨sb, 0, none⟩)) ∧ fb < fb + fc) := by
      rcases hown'.2 with ⟨h, _⟩ | ⟨b, cap, cur, hv, hb, hg, hc, hm, hs, ht⟩
      · cases h
      · injection hv with h1 h2 h3
        injection h1 with h1
        injection h1 with h1
        subst h1
        subst h3
        refine ⟨?_, by omega⟩
        rw [cell_of_row w11 _ 0 cur _ (0, 0) hg]
        have : (cur.toList.take (1 * 1))[0]? = some (.pointer (some ⟨sb, 0, none⟩)) := by
          have ht' : cur.toList.take (1 * 1) = [.pointer (some ⟨sb, 0, none⟩)] := ht
          rw [ht']; rfl
        rw [List.getElem?_take, if_pos (by omega)] at this
        simpa using this
    have E11 := hide (E10.out.grew Gb.out)
    clear hown' hgrow hd halt own0
    go_wp2
    rw [rounds_succ]
    go_wp2
    go_ret
    exact ⟨fb, fc, sb, V, rfl, Ga.out, fcell.out.2, fcell.out.1, W, hsbw.out, hW.out, E11.out⟩
end Go.Proofs.Ytdkmjhbkjhikfaa
