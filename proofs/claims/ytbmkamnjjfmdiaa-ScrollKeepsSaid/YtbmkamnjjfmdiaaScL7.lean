/- What the law ScrollKeeps runs, where Clamp, Reveal, Visible and Keep answer as the chapter asks; no other condition. -/
import Derived.Test.YtbmkamnjjfmdiaaScK
import Derived.Test.YtbmkamnjjfmdiaaApM
import Derived.Laws.BytesArg
import Derived.Laws.CopyOwn
namespace Go.Proofs.Ytbmkamnjjfmdiaa
open Go.RowKit Go.Sort
set_option linter.unusedVariables false
set_option linter.unusedSimpArgs false

def nwS (s : ByteArray) : ByteArray := ⟨#[110, 101, 119]⟩ ++ s
theorem kn_str {k : Nat} (hk : k < 20) : nwS (strOfNums [IntKind.u8.wrap (97 + (k : Int))]) = ⟨#[110, 101, 119, UInt8.ofNat (97 + k)]⟩ := by
  have : ∀ k : Nat, k < 20 → nwS (strOfNums [IntKind.u8.wrap (97 + (k : Int))]) = ⟨#[110, 101, 119, UInt8.ofNat (97 + k)]⟩ := by decide +kernel
  exact this k hk
theorem ka_str {k : Nat} (hk : k < 40) : strOfNums [IntKind.u8.wrap (65 + (k : Int))] = ⟨#[UInt8.ofNat (65 + k)]⟩ := by
  have : ∀ k : Nat, k < 40 → strOfNums [IntKind.u8.wrap (65 + (k : Int))] = ⟨#[UInt8.ofNat (65 + k)]⟩ := by decide +kernel
  exact this k hk
theorem does_str1 {P : Program} (w : World) {o : Oper} {ev : Operand → Value} {R : Value → World → Prop} (x : Operand) (src dst e : TypeId) (ho : o.op = .convert src dst x)
    (hs : P.underlying src = some (.slice e)) (he : P.underlying e = some (.int .u8)) (hd : P.underlying dst = some .string) (g c : Nat) (bv : Int) (hx : ev x = .slice (some ⟨g, 0, none⟩) 1 c) (hb : Blk w g e [.int .u8 bv]) (h : R (.string (strOfNums [bv])) w) : does P o ev w R := by
  have C := run_convert_bytes_arg (P := P) w src e hs he g 0 1 c [bv] rfl (fun i hi => by
    obtain rfl : i = 0 := by omega
    exact hb.cell 0 rfl) dst hd
  unfold does execOp
  simp only [ho, Sem.run_bind, Sem.run_pure, Result.andThen_ok, hx, C, doesUpon]
  exact h
/-- What stands behind the first operations that make a row with a key of one byte, and append it. -/
def kSt (w0 : World) (base : Nat) (T TB : TypeId) (v : Value) (n : Nat) (xs : List Value) (by' : Value) (s1 s2 : ByteArray) (ht : Int) : List Value → World → Prop
  | [], W => Below w0.heap.size w0 W ∧ W.ownsRow base T 2 v n xs
  | [v1], W => (Below w0.heap.size w0 W ∧ W.ownsRow base T 2 v n xs) ∧ ∃ g, v1 = .slice (some ⟨g, 0, none⟩) 1 1 ∧ Blk W g TB [by']
  | [_, v2], W => (Below w0.heap.size w0 W ∧ W.ownsRow base T 2 v n xs) ∧ v2 = .string s1
  | [_, _, v3], W => (Below w0.heap.size w0 W ∧ W.ownsRow base T 2 v n xs) ∧ v3 = .string s2
  | [_, _, _, v4], W => (Below w0.heap.size w0 W ∧ W.ownsRow base T 2 v n xs) ∧ v4 = .agg #[.string s2, .int .i64 ht]
  | [_, _, _, _, v5], W => (Below w0.heap.size w0 W ∧ W.ownsRow base T 2 v n xs) ∧ ∃ g, v5 = .slice (some ⟨g, 0, none⟩) 1 1 ∧ Blk W g T [.string s2, .int .i64 ht]
  | [_, _, _, _, _, v6], W => Below w0.heap.size w0 W ∧ W.ownsRow base T 2 v6 (n + 1) (xs ++ [.string s2, .int .i64 ht])
  | [_, _, _, _, _, v6, v7], W => (Below w0.heap.size w0 W ∧ W.ownsRow base T 2 v6 (n + 1) (xs ++ [.string s2, .int .i64 ht])) ∧ v7 = v6
  | _, _ => False
theorem kSt_bl {w0 W : World} {base : Nat} {T TB : TypeId} {v : Value} {n : Nat} {xs : List Value} {by' : Value} {s1 s2 : ByteArray} {ht : Int} : ∀ {vals : List Value}, kSt w0 base T TB v n xs by' s1 s2 ht vals W → Below w0.heap.size w0 W
  | [], h => h.1
  | [_], h => h.1.1
  | [_, _], h => h.1.1
  | [_, _, _], h => h.1.1
  | [_, _, _, _], h => h.1.1
  | [_, _, _, _, _], h => h.1.1
  | [_, _, _, _, _, _], h => h.1
  | [_, _, _, _, _, _, _], h => h.1.1
  | _ :: _ :: _ :: _ :: _ :: _ :: _ :: _ :: _, h => False.elim h
theorem own_belowK {w w' : World} {B e size n : Nat} {v : Value} {xs : List Value} (h : w.ownsRow B e size v n xs) (hb : Below w.heap.size w w') : w'.ownsRow B e size v n xs := by
  rcases h.2 with ⟨rfl, rfl⟩ | ⟨g, cap, cur, rfl, hbg, hg, hr⟩
  · exact ⟨h.1, Or.inl ⟨rfl, rfl⟩⟩
  · have hlt : g < w.heap.size := (Array.getElem?_eq_some_iff.1 hg).1
    exact ⟨h.1, Or.inr ⟨g, cap, cur, rfl, hbg, (hb.block g hlt).trans hg, hr⟩⟩
theorem own_formK {w : World} {base : Nat} {e : TypeId} {size : Nat} {v : Value} {n : Nat} {xs : List Value} (h : w.ownsRow base e size v n xs) (hn : 0 < n) : ∃ g cap, v = .slice (some ⟨g, 0, none⟩) n cap ∧ base ≤ g ∧ g < w.heap.size := by
  rcases h.2 with ⟨_, h0⟩ | ⟨g, cap, cur, hv, hb, hg, _⟩
  · exact absurd h0 (by omega)
  · exact ⟨g, cap, hv, hb, (Array.getElem?_eq_some_iff.1 hg).1⟩
theorem srow_keptK {w w' : World} {b n k : Nat} {f : Nat → Nat → Value} {row : Option Nat} (h : SRow w (some ⟨b, 0, none⟩) n k f) (hg : w.grownBy w' row) (hne : row ≠ some b) : SRow w' (some ⟨b, 0, none⟩) n k f := fun hn => by
  obtain ⟨b', off, e, hb, hc⟩ := h hn
  injection e with e
  injection e with e1 e2
  subst e1 e2
  obtain ⟨_, _, _, hs, hk⟩ := hg
  refine ⟨b, 0, rfl, Nat.lt_of_lt_of_le hb hs, fun i hi j hj => ?_⟩
  have := hc i hi j hj
  unfold World.cell? at this ⊢
  dsimp only at this ⊢
  rw [hk b hb (fun h => hne h.symm)]
  exact this
theorem does_store {P : Program} (w : World) {o : Oper} {ev : Operand → Value} {R : Value → World → Prop} (ty : TypeId) (x y : Operand) (ho : o.op = .store ty x y)
    (g : Nat) (cells : Array Value) (hx : ev x = .pointer (some ⟨g, 0, none⟩)) (hy : ev y = .agg cells) (t : TypeId) (old : Array Value) (hg : w.heap[g]? = some (.cells old t (0, 0))) (hi : (P.info? ty).map (·.size) = some cells.size)
    (hold : old.size = cells.size) (h1 : cells.all (·.oneCell') = true) (h : R undef (w.setRow g cells)) : does P o ev w R := by
  unfold does execOp
  simp only [ho, hx, hy, Instr.storeAt, Instr.sureAddr, Sem.run_bind, Sem.run_pure, Result.andThen_ok, run_storeVar_row w g t ty old cells hg hi hold h1, doesUpon]
  exact h
/-- A row with a key of one byte in a box of its own: the bytes (3), the key (4), the row (11), the box (12), the store (13). -/
structure kM (wc : World) (T TB : TypeId) (bv ht : Int) (s1 : ByteArray) (D : Nat → Bool) (vs : Nat → Value) (W : World) : Prop where
  bl : Below wc.heap.size wc W
  h3 : D 3 = true → D 4 = false → ∃ g, vs 3 = .slice (some ⟨g, 0, none⟩) 1 1 ∧ Blk W g TB [.int .u8 bv]
  h4 : D 4 = true → vs 4 = .string s1
  hb : D 11 = true → vs 11 = .agg #[.string s1, .int .i64 ht]
  ha : D 12 = true → ∃ x, vs 12 = .pointer (some ⟨x, 0, none⟩) ∧ wc.heap.size ≤ x ∧ Blk W x T (if D 13 = true then [.string s1, .int .i64 ht] else [.string ⟨#[]⟩, .int .i64 0])
section
variable {wc W : World} {T TB : TypeId} {bv ht : Int} {s1 : ByteArray} {D D' : Nat → Bool} {vs vs' : Nat → Value}
theorem kM.start (h : Below wc.heap.size wc W) : kM wc T TB bv ht s1 (fun _ => false) vs W :=
  ⟨h, fun h => Bool.noConfusion h, fun h => Bool.noConfusion h, fun h => Bool.noConfusion h, fun h => Bool.noConfusion h⟩
theorem kM.ext (h : kM wc T TB bv ht s1 D vs W) (hD : ∀ b ∈ [3, 4, 11, 12, 13], D b = D' b ∧ (D b = true → vs b = vs' b)) : kM wc T TB bv ht s1 D' vs' W := by
  obtain ⟨a3, b3⟩ := hD 3 (by simp)
  obtain ⟨a4, b4⟩ := hD 4 (by simp)
  obtain ⟨a5, b5⟩ := hD 11 (by simp)
  obtain ⟨a6, b6⟩ := hD 12 (by simp)
  obtain ⟨a7, b7⟩ := hD 13 (by simp)
  refine ⟨h.bl, fun q r => ?_, fun q => ?_, fun q => ?_, fun q => ?_⟩
  · rw [← b3 (a3.trans q)]; exact h.h3 (a3.trans q) (a4.trans r)
  · rw [← b4 (a4.trans q)]; exact h.h4 (a4.trans q)
  · rw [← b5 (a5.trans q)]; exact h.hb (a5.trans q)
  · rw [← b6 (a6.trans q), ← a7]; exact h.ha (a6.trans q)
theorem upd_at' {α : Type} (f : Nat → α) (i : Nat) (x : α) : upd f i x i = x := by simp [upd]
theorem upd_ne' {α : Type} (f : Nat → α) {i j : Nat} (x : α) (h : j ≠ i) : upd f i x j = f j := by simp [upd, h]
theorem kM.op3 (h : kM wc T TB bv ht s1 D vs W) : kM wc T TB bv ht s1 (upd D 3 true) (upd vs 3 (.slice (some ⟨W.heap.size, 0, none⟩) 1 1)) (W.alloc (.cells #[.int .u8 bv] TB)) := by
  refine ⟨h.bl.alloc h.bl.size _, fun _ _ => ⟨W.heap.size, upd_at' _ _ _, Blk.new rfl⟩, fun q => ?_, fun q => ?_, fun q => ?_⟩
  · rw [upd_ne' _ _ (by decide)] at q ⊢; exact h.h4 q
  · rw [upd_ne' _ _ (by decide)] at q ⊢; exact h.hb q
  · rw [upd_ne' _ _ (by decide)] at q ⊢
    rw [upd_ne' _ _ (by decide)]
    obtain ⟨x, e, hx, hB⟩ := h.ha q
    exact ⟨x, e, hx, hB.alloc _⟩
theorem kM.op4 (h : kM wc T TB bv ht s1 D vs W) : kM wc T TB bv ht s1 (upd D 4 true) (upd vs 4 (.string s1)) W := by
  refine ⟨h.bl, fun _ q => ?_, fun _ => upd_at' _ _ _, fun q => ?_, fun q => ?_⟩
  · rw [upd_at'] at q; exact Bool.noConfusion q
  · rw [upd_ne' _ _ (by decide)] at q ⊢; exact h.hb q
  · rw [upd_ne' _ _ (by decide)] at q ⊢
    rw [upd_ne' _ _ (by decide)]
    exact h.ha q
theorem kM.op11 (h : kM wc T TB bv ht s1 D vs W) : kM wc T TB bv ht s1 (upd D 11 true) (upd vs 11 (.agg #[.string s1, .int .i64 ht])) W := by
  refine ⟨h.bl, fun q r => ?_, fun q => ?_, fun _ => upd_at' _ _ _, fun q => ?_⟩
  · rw [upd_ne' _ _ (by decide)] at q r ⊢; exact h.h3 q r
  · rw [upd_ne' _ _ (by decide)] at q ⊢; exact h.h4 q
  · rw [upd_ne' _ _ (by decide)] at q ⊢
    rw [upd_ne' _ _ (by decide)]
    exact h.ha q
theorem kM.op12 (h : kM wc T TB bv ht s1 D vs W) (hd : D 13 = false) : kM wc T TB bv ht s1 (upd D 12 true) (upd vs 12 (.pointer (some ⟨W.heap.size, 0, none⟩))) (W.alloc (.cells #[.string ⟨#[]⟩, .int .i64 0] T)) := by
  refine ⟨h.bl.alloc h.bl.size _, fun q r => ?_, fun q => ?_, fun q => ?_, fun _ => ⟨W.heap.size, upd_at' _ _ _, h.bl.size, ?_⟩⟩
  · rw [upd_ne' _ _ (by decide)] at q r ⊢
    obtain ⟨g, e, hB⟩ := h.h3 q r
    exact ⟨g, e, hB.alloc _⟩
  · rw [upd_ne' _ _ (by decide)] at q ⊢; exact h.h4 q
  · rw [upd_ne' _ _ (by decide)] at q ⊢; exact h.hb q
  · rw [upd_ne' _ _ (by decide), hd, if_neg (by decide)]
    exact Blk.new rfl
theorem kM.op13 (h : kM wc T TB bv ht s1 D vs W) (h4 : D 4 = true) (v : Value) {x : Nat} (e : vs 12 = .pointer (some ⟨x, 0, none⟩)) (hx : wc.heap.size ≤ x) (hB : Blk W x T [.string ⟨#[]⟩, .int .i64 0]) :
    kM wc T TB bv ht s1 (upd D 13 true) (upd vs 13 v) (W.setRow x #[.string s1, .int .i64 ht]) := by
  refine ⟨below_setRow h.bl hx _, fun _ q => ?_, fun q => ?_, fun q => ?_, fun q => ?_⟩
  · rw [upd_ne' _ _ (by decide), h4] at q; exact Bool.noConfusion q
  · rw [upd_ne' _ _ (by decide)] at q ⊢; exact h.h4 q
  · rw [upd_ne' _ _ (by decide)] at q ⊢; exact h.hb q
  · rw [upd_ne' _ _ (by decide)] at q ⊢
    rw [upd_at', if_pos rfl]
    exact ⟨x, e, hx, setRow_heap W x _ _ _ _ hB⟩
end
set_option maxHeartbeats 16000000 in
set_option maxRecDepth 100000 in
theorem skp_core (hC : KCl 14) (hR : KRv 16) (hV : KVi 10) (hK : KKe 18)
    (p q : Option Addr) (n m c d : Nat) (f g : Nat → Int) (cut offset : Int) (w : World) (hp : Reads w p n f) (hq : Reads w q m g) :
    Calls Try.prog 8 #[.slice p n c, .slice q m d, .int .i64 cut, .int .i64 offset] w fun e w' => e = .returned (.bool true) ∧ Below w.heap.size w w' := by
  by_cases b1 : n < 1
  · obtain rfl : n = 0 := by omega
    clear hC hR hV hK hp hq
    go_enter Try.func8, Try.ntmps8
    go_wp2_with fail
    go_ret
    exact ⟨rfl, Below.refl _ _⟩
  by_cases b2 : 40 < n
  · have z1 : ¬ (n : Int) < 1 := by omega
    have z2 : (40 : Int) < (n : Int) := by omega
    clear hC hR hV hK hp hq
    go_enter Try.func8, Try.ntmps8
    go_wp2_with fail
    go_ret
    exact ⟨rfl, Below.refl _ _⟩
  have z1 : ¬ (n : Int) < 1 := by omega
  have z2 : ¬ (40 : Int) < (n : Int) := by omega
  by_cases b3 : 20 < m
  · have z3 : (20 : Int) < (m : Int) := by omega
    clear hC hR hV hK hp hq
    go_enter Try.func8, Try.ntmps8
    go_wp2_with fail
    go_ret
    exact ⟨rfl, Below.refl _ _⟩
  have z3 : ¬ (20 : Int) < (m : Int) := by omega
  obtain ⟨it, i1, i2, i3, i4⟩ := info_partsZ info_stS
  have A := hide (fun W => sawake_any hC hR hV W)
  have KK := hide hK
  have HP := hide hp
  have HQ := hide hq
  have OO : Hid (w.ownsRow w.heap.size 38 2 (.slice none 0 0) 0 (flat 0 2 (stC (knR g)))) := World.ownsRow_nil _ _ _ _
  have BB : Hid (Below w.heap.size w w) := Below.refl _ _
  clear hC hR hV hK hp hq
  go_enter Try.func8, Try.ntmps8
  go_wp2_with fail
  clear z1 z2 z3
  go_loopg [10, 11] (m + 1) (fun g1 vv vk wr => ∃ (k : Nat) (v : Value), v = vv ∧ vk = .int .i64 (k : Int) ∧ k ≤ m ∧ m - k < g1 ∧ Hid (wr.ownsRow w.heap.size 38 2 v k (flat k 2 (stC (knR g)))) ∧ Hid (Below w.heap.size w wr))
  case atStart => exact ⟨0, _, rfl, by go_num, by omega, by omega, OO, BB⟩
  case round =>
    clear OO BB
    obtain ⟨wo, rfl⟩ : ∃ wo : World, wo = wr := ⟨_, rfl⟩
    obtain ⟨k, va, rfl, rfl, hk, hg, OO, BB⟩ := hrel
    by_cases hlt : k < m
    case pos =>
      have hltz : (k : Int) < (m : Int) := by omega
      have hk0 : (0 : Int) ≤ (k : Int) := by omega
      clear KK A HP
      obtain ⟨qb, qo, rfl, hqc⟩ := (HQ.out.below BB.out) (by omega)
      have y0 : wo.cell? ⟨qb, qo + k, none⟩ = some (.int .i64 (g k)) := hqc k hlt
      have JQ : Hid (∀ W', Below w.heap.size w W' → W'.cell? ⟨qb, qo + k, none⟩ = some (.int .i64 (g k))) := fun W' hB => by
        obtain ⟨b3, o3, e, hc3⟩ := (HQ.out.below hB) (by omega)
        injection e with e
        injection e with e4 e5
        subst e4 e5
        exact hc3 k hlt
      have wz : IntKind.i64.wrap (97 + (k : Int)) = 97 + (k : Int) := wr (by omega) (by omega)
      have EV : Hid (flat k 2 (stC (knR g)) ++ [.string (nwS (strOfNums [IntKind.u8.wrap (97 + (k : Int))])), .int .i64 (g k % 64)] = flat (k + 1) 2 (stC (knR g))) := by
        show _ = _
        rw [kn_str (by omega), flat_succ]; rfl
      clear hqc
      generalize g k = ht at *
      generalize hbv : IntKind.u8.wrap (97 + (k : Int)) = bv at *
      generalize hxs : flat k 2 (stC (knR g)) = xs at *
      go_wp2_with fail
      refine MJ.wp_region_chain (fun W' => W'.cell? ⟨qb, qo + k, none⟩ = some (.int .i64 ht)) [4, 5, 6, 12, 13, 14, 15] [(43, 4), (44, 5), (45, 6), (51, 12), (52, 13), (53, 14), (10, 15)] (kSt w w.heap.size 38 5 va k xs (.int .u8 bv) (strOfNums [bv]) (nwS (strOfNums [bv])) (ht % 64)) (by kernel_rfl) (by kernel_rfl) (by simp) ?h0 ?hJ ?_
      case h0 => exact ⟨BB.out.drew, OO.out⟩
      case hJ =>
        rintro vals W' _ hS'
        exact JQ.out W' (kSt_bl hS')
      repeat (refine MJ.lex_calm rfl (by rfl) (fun K hK => ?_); apply Exists.intro; refine ⟨fun W' hW => ?_, ?_⟩; (dsimp only at hW; go_simp; exact rfl); go_simp; refine hK _ ?_; clear hK K)
      refine MJ.lex_chain 0 rfl (by kernel_rfl) rfl ?_ ?_
      · rintro vs W ⟨h1, h2⟩
        have FIN := hide (show kSt w w.heap.size 38 5 va k xs (.int .u8 bv) (strOfNums [bv]) (nwS (strOfNums [bv])) (ht % 64) (MJ.valsOf [4, 5, 6, 12, 13, 14, 15] vs 0 ++ [.slice (some ⟨W.heap.size, 0, none⟩) 1 1]) (W.alloc (.cells #[.int .u8 bv] 5)) from ⟨⟨h1.alloc h1.size _, h2.alloc _⟩, _, rfl, Blk.new rfl⟩)
        clear h1 h2
        simp [go_sem, evS, List.lookup, wz, hbv]
        exact FIN.out
      repeat (refine MJ.lex_calm rfl (by rfl) (fun K hK => ?_); apply Exists.intro; refine ⟨fun W' hW => ?_, ?_⟩; (dsimp only at hW; go_simp; exact rfl); go_simp; refine hK _ ?_; clear hK K)
      refine MJ.lex_chain 1 rfl (by kernel_rfl) rfl ?_ ?_
      · rintro vs W ⟨h, g', e1, hb⟩
        exact does_str1 W _ 40 9 5 rfl (by kernel_rfl) (by kernel_rfl) (by kernel_rfl) g' 1 bv e1 hb ⟨h, rfl⟩
      repeat (refine MJ.lex_calm rfl (by rfl) (fun K hK => ?_); apply Exists.intro; refine ⟨fun W' hW => ?_, ?_⟩; (dsimp only at hW; go_simp; exact rfl); go_simp; refine hK _ ?_; clear hK K)
      refine MJ.lex_chain 2 rfl (by kernel_rfl) rfl ?_ ?_
      · rintro vs W ⟨h, e1⟩
        have FIN := hide (show kSt w w.heap.size 38 5 va k xs (.int .u8 bv) (strOfNums [bv]) (nwS (strOfNums [bv])) (ht % 64) (MJ.valsOf [4, 5, 6, 12, 13, 14, 15] vs 2 ++ [.string (nwS (strOfNums [bv]))]) W from ⟨h, rfl⟩)
        clear h
        simp [go_sem, evS, List.lookup, e1]
        exact FIN.out
      repeat (refine MJ.lex_calm rfl (by rfl) (fun K hK => ?_); apply Exists.intro; refine ⟨fun W' hW => ?_, ?_⟩; (dsimp only at hW; go_simp; exact rfl); go_simp; refine hK _ ?_; clear hK K)
      refine MJ.lex_chain 3 rfl (by kernel_rfl) rfl ?_ ?_
      · rintro vs W ⟨h, e1⟩
        have FIN := hide (show kSt w w.heap.size 38 5 va k xs (.int .u8 bv) (strOfNums [bv]) (nwS (strOfNums [bv])) (ht % 64) (MJ.valsOf [4, 5, 6, 12, 13, 14, 15] vs 3 ++ [.agg #[.string (nwS (strOfNums [bv])), .int .i64 (ht % 64)]]) W from ⟨h, rfl⟩)
        clear h
        simp [go_sem, evS, List.lookup, e1]
        exact FIN.out
      repeat (refine MJ.lex_calm rfl (by rfl) (fun K hK => ?_); apply Exists.intro; refine ⟨fun W' hW => ?_, ?_⟩; (dsimp only at hW; go_simp; exact rfl); go_simp; refine hK _ ?_; clear hK K)
      refine MJ.lex_chain 4 rfl (by kernel_rfl) rfl ?_ ?_
      · rintro vs W ⟨⟨h1, h2⟩, e1⟩
        have FIN := hide (show kSt w w.heap.size 38 5 va k xs (.int .u8 bv) (strOfNums [bv]) (nwS (strOfNums [bv])) (ht % 64) (MJ.valsOf [4, 5, 6, 12, 13, 14, 15] vs 4 ++ [.slice (some ⟨W.heap.size, 0, none⟩) 1 1]) (W.alloc (.cells #[.string (nwS (strOfNums [bv])), .int .i64 (ht % 64)] 38)) from ⟨⟨h1.alloc h1.size _, h2.alloc _⟩, _, rfl, Blk.new rfl⟩)
        clear h1 h2
        simp [go_sem, evS, List.lookup, e1]
        exact FIN.out
      repeat (refine MJ.lex_calm rfl (by rfl) (fun K hK => ?_); apply Exists.intro; refine ⟨fun W' hW => ?_, ?_⟩; (dsimp only at hW; go_simp; exact rfl); go_simp; refine hK _ ?_; clear hK K)
      refine MJ.lex_chain 5 rfl (by kernel_rfl) rfl ?_ ?_
      · rintro vs W ⟨⟨h1, h2⟩, g', e1, hb⟩
        refine does_append_any W _ _ 22 rfl w.heap.size 38 it _ 2 24 Try.underlying22 i1 i2 i3 i4 rfl (by decide) va k xs rfl h2 ⟨g', 0, none⟩ 1 1 [.string (nwS (strOfNums [bv])), .int .i64 (ht % 64)] e1 rfl ?_ ?_ ?_ ?_ h1.size ?_
        · intro j u hj
          rw [addr_add]
          exact hb.cell j hj
        · intro u hu; simp at hu; rcases hu with rfl | rfl <;> rfl
        · unfold maxLen; omega
        · omega
        intro v' w' ho hgr
        exact ⟨below_byA h1 h2 hgr (Nat.le_refl _) (Nat.le_refl _), ho⟩
      repeat (refine MJ.lex_calm rfl (by rfl) (fun K hK => ?_); apply Exists.intro; refine ⟨fun W' hW => ?_, ?_⟩; (dsimp only at hW; go_simp; exact rfl); go_simp; refine hK _ ?_; clear hK K)
      refine MJ.lex_chain 6 rfl (by kernel_rfl) rfl ?_ ?_
      · rintro vs W ⟨h1, h2⟩
        have FIN := hide (show kSt w w.heap.size 38 5 va k xs (.int .u8 bv) (strOfNums [bv]) (nwS (strOfNums [bv])) (ht % 64) (MJ.valsOf [4, 5, 6, 12, 13, 14, 15] vs 6 ++ [vs 14]) W from ⟨⟨h1, h2⟩, rfl⟩)
        clear h1 h2
        simp [go_sem, evS, List.lookup]
        exact FIN.out
      refine MJ.lex_nil ?_
      rintro vs w6 ⟨⟨h1, h2⟩, e1⟩
      have B6 := hide h1
      have O6 : Hid (w6.ownsRow w.heap.size 38 2 (vs 14) (k + 1) (flat (k + 1) 2 (stC (knR g)))) := by
        show World.ownsRow _ _ _ _ _ _ _
        rw [← EV.out]; exact h2
      clear h1 h2 JQ BB OO EV
      simp only [fillS, List.foldl_cons, List.foldl_nil, e1]
      generalize vs 14 = v6 at *
      clear e1
      go_simp
      go_wp2_with fail
      go_roundg (m - k)
      case measure => exact (by omega)
      case rel => exact ⟨k + 1, v6, rfl, by go_num, by omega, by omega, O6, B6⟩
    obtain rfl : m = k := by omega
    have hltz : ¬ (m : Int) < (m : Int) := by omega
    obtain ⟨wB, rfl⟩ : ∃ wB : World, wB = wo := ⟨_, rfl⟩
    have NO : Hid (wB.ownsRow wB.heap.size 38 2 (.slice none 0 0) 0 (flat 0 2 (stC (kaR f)))) := World.ownsRow_nil _ _ _ _
    have NB : Hid (Below wB.heap.size wB wB) := Below.refl _ _
    have TZ : topF (kaR f) 0 = 0 := rfl
    clear HQ
    go_wp2_with fail
    go_loopg [9, 12, 13] (n + 1) (fun g1 vv vt vk wr => ∃ (k : Nat) (v : Value), v = vv ∧ vt = .int .i64 (topF (kaR f) k) ∧ vk = .int .i64 (k : Int) ∧ k ≤ n ∧ n - k < g1 ∧ Hid (wr.ownsRow wB.heap.size 38 2 v k (flat k 2 (stC (kaR f)))) ∧ Hid (Below wB.heap.size wB wr))
    case atStart => exact ⟨0, _, rfl, by rw [TZ], by go_num, by omega, by omega, NO, NB⟩
    case round =>
      clear NO NB TZ
      obtain ⟨wc, rfl⟩ : ∃ wc : World, wc = wr := ⟨_, rfl⟩
      obtain ⟨k, vb, rfl, rfl, rfl, hk, hg, NO, NB⟩ := hrel
      by_cases hlt : k < n
      case pos =>
        have hltz : (k : Int) < (n : Int) := by omega
        have hk0 : (0 : Int) ≤ (k : Int) := by omega
        have B2 : Hid (Below w.heap.size w wc) := BB.out.trans (NB.out.mono BB.out.size)
        obtain ⟨qb, qo, rfl, hqc⟩ := (HP.out.below B2.out) (by omega)
        have y0 : wc.cell? ⟨qb, qo + k, none⟩ = some (.int .i64 (f k)) := hqc k hlt
        have JQ : Hid (∀ W', Below wB.heap.size wB W' → W'.cell? ⟨qb, qo + k, none⟩ = some (.int .i64 (f k))) := fun W' hB => by
          obtain ⟨b3, o3, e, hc3⟩ := (HP.out.below (BB.out.trans (hB.mono BB.out.size))) (by omega)
          injection e with e
          injection e with e4 e5
          subst e4 e5
          exact hc3 k hlt
        have wz : IntKind.i64.wrap (65 + (k : Int)) = 65 + (k : Int) := wr (by omega) (by omega)
        have wy : IntKind.i64.wrap (1 + f k % 64) = 1 + f k % 64 := wr (by omega) (by omega)
        have EV : Hid (flat k 2 (stC (kaR f)) ++ [.string (strOfNums [IntKind.u8.wrap (65 + (k : Int))]), .int .i64 (1 + f k % 64)] = flat (k + 1) 2 (stC (kaR f))) := by
          show _ = _
          rw [ka_str (by omega), flat_succ]; rfl
        have TS : Hid (topF (kaR f) (k + 1) = topF (kaR f) k + (1 + f k % 64)) := rfl
        clear hqc
        go_wp2_with fail
        have nf : wc.heap.size ≤ wc.heap.size := Nat.le_refl _
        refine MJ.wp_region_mixed (fun W' => W'.cell? ⟨qb, qo + k, none⟩ = some (.int .i64 (f k))) [3, 4, 11, 12, 13] [(63, 3), (64, 4), (71, 11), (14, 12)] (kM wc 38 5 (IntKind.u8.wrap (65 + (k : Int))) (1 + f k % 64) (strOfNums [IntKind.u8.wrap (65 + (k : Int))])) (by kernel_rfl) (by kernel_rfl) (by simp) ?g0 (fun D D' vs vs' W hD h => h.ext hD) ?ghold ?_
        case g0 => exact fun vs => kM.start ((Below.refl _ _).drew)
        case ghold =>
          intro D vs W i hM hi hB hD hcl
          exact JQ.out W (NB.out.trans (hM.bl.mono NB.out.size))
        repeat (refine MJ.lex_calm rfl (by rfl) (fun K hK => ?_); apply Exists.intro; refine ⟨fun W' hW => ?_, ?_⟩; (dsimp only at hW; go_simp; exact rfl); go_simp; refine hK _ ?_; clear hK K)
        refine MJ.lex_made (by rfl) rfl ?_ ?_
        · rintro D vs W hM hD hcl hdep
          have FIN := hide hM.op3
          clear hM
          simp [go_sem, evS, List.lookup, wz]
          exact FIN.out
        repeat (refine MJ.lex_calm rfl (by rfl) (fun K hK => ?_); apply Exists.intro; refine ⟨fun W' hW => ?_, ?_⟩; (dsimp only at hW; go_simp; exact rfl); go_simp; refine hK _ ?_; clear hK K)
        refine MJ.lex_made (by rfl) rfl ?_ ?_
        · rintro D vs W hM hD hcl hdep
          obtain ⟨g', e1, hb⟩ := hM.h3 (hdep 3 (by decide +kernel)) hD
          exact does_str1 W _ 40 9 5 rfl (by kernel_rfl) (by kernel_rfl) (by kernel_rfl) g' 1 _ e1 hb hM.op4
        repeat (refine MJ.lex_calm rfl (by rfl) (fun K hK => ?_); apply Exists.intro; refine ⟨fun W' hW => ?_, ?_⟩; (dsimp only at hW; go_simp; exact rfl); go_simp; refine hK _ ?_; clear hK K)
        refine MJ.lex_made (by rfl) rfl ?_ ?_
        · rintro D vs W hM hD hcl hdep
          have e1 := hM.h4 (hdep 4 (by decide +kernel))
          have FIN := hide hM.op11
          clear hM
          simp [go_sem, evS, List.lookup, e1, wy]
          exact FIN.out
        repeat (refine MJ.lex_calm rfl (by rfl) (fun K hK => ?_); apply Exists.intro; refine ⟨fun W' hW => ?_, ?_⟩; (dsimp only at hW; go_simp; exact rfl); go_simp; refine hK _ ?_; clear hK K)
        refine MJ.lex_made (by rfl) rfl ?_ ?_
        · rintro D vs W hM hD hcl hdep
          have FIN := hide (hM.op12 (off_of (hcl 13 12 (by decide +kernel)) hD))
          clear hM
          simp [go_sem, evS, List.lookup]
          exact FIN.out
        repeat (refine MJ.lex_calm rfl (by rfl) (fun K hK => ?_); apply Exists.intro; refine ⟨fun W' hW => ?_, ?_⟩; (dsimp only at hW; go_simp; exact rfl); go_simp; refine hK _ ?_; clear hK K)
        refine MJ.lex_made (by rfl) rfl ?_ ?_
        · rintro D vs W hM hD hcl hdep
          have d11 := hdep 11 (by decide +kernel)
          obtain ⟨x, e1, hx, hB⟩ := hM.ha (hdep 12 (by decide +kernel))
          rw [hD, if_neg (by decide)] at hB
          exact does_store W 38 _ _ rfl x #[.string (strOfNums [IntKind.u8.wrap (65 + (k : Int))]), .int .i64 (1 + f k % 64)] e1 (hM.hb d11) 38 _ hB (by kernel_rfl) rfl (by rw [Array.all_eq_true_iff_forall_mem]; intro x hx; simp at hx; rcases hx with rfl | rfl <;> rfl) (hM.op13 (hcl 11 4 (by decide +kernel) d11) _ e1 hx hB)
        refine MJ.lex_nil ?_
        rintro us w6 hM
        have M := hide hM
        have ⟨x, e1, hx, hB⟩ := hM.ha rfl
        rw [if_pos rfl] at hB
        have BX := hide hB
        have X0 := hide hx
        have C6 := hide hM.bl
        clear hM hB hx M JQ
        simp only [fillS, List.foldl_cons, List.foldl_nil, e1]
        clear e1
        go_simp
        have c0 := BX.out.cell 0 rfl
        have c1 := BX.out.cell 1 rfl
        have O6 := hide (own_belowK NO.out C6.out)
        have N6 := hide (NB.out.trans (C6.out.mono NB.out.size))
        have tl := top_lim (l := kaR f) (fun i => by have := ka_h f i; omega) k
        obtain ⟨tl1, tl2⟩ := tl
        have wt : IntKind.i64.wrap (topF (kaR f) k + (1 + f k % 64)) = topF (kaR f) k + (1 + f k % 64) := wr (by omega) (by omega)
        clear NO NB C6 y0 wz wy X0 tl1 tl2 nf
        generalize topF (kaR f) k = tk at *
        generalize 1 + f k % 64 = ht at *
        generalize strOfNums [IntKind.u8.wrap (65 + (k : Int))] = sv at *
        generalize hxs : flat k 2 (stC (kaR f)) = xs at *
        have NA := hide (O6.out.alloc (.cells #[.string sv, .int .i64 ht] 38))
        have NZ := hide (N6.out.alloc N6.out.size (.cells #[.string sv, .int .i64 ht] 38))
        go_wp2_with (at_builtin; refine wpList_append_own _ rfl _ _ 22 rfl wB.heap.size 38 it _ 2 24 Try.underlying22 i1 i2 i3 i4 rfl (by decide) vb k xs rfl NA.out ⟨_, 0, none⟩ 1 1 [.string sv, .int .i64 ht] rfl rfl ?_ ?_ ?_ ?_ ?_ ?_)
        · intro j u hj
          rw [addr_add]
          exact (Blk.new (vs := [.string sv, .int .i64 ht]) rfl).cell j hj
        · intro u hu; simp at hu; rcases hu with rfl | rfl <;> rfl
        · unfold maxLen; omega
        · omega
        · exact NZ.out.size
        intro v7 w7 hO7 hg7 _
        have B7 := hide (below_byA NZ.out NA.out hg7 (Nat.le_refl _) (Nat.le_refl _))
        have O7 : Hid (w7.ownsRow wB.heap.size 38 2 v7 (k + 1) (flat (k + 1) 2 (stC (kaR f)))) := by
          show World.ownsRow _ _ _ _ _ _ _
          rw [← EV.out]; exact hO7
        clear hO7 hg7 NA NZ O6 N6 c0 c1 BX EV
        go_wp2_with fail
        go_roundg (n - k)
        case measure => exact (by omega)
        case rel => exact ⟨k + 1, v7, rfl, by rw [TS.out], by go_num, by omega, by omega, O7, B7⟩
      obtain rfl : n = k := by omega
      have hltz : ¬ (n : Int) < (n : Int) := by omega
      obtain ⟨wC, rfl⟩ : ∃ wC : World, wC = wc := ⟨_, rfl⟩
      have OB := hide (own_belowK OO.out NB.out)
      have BC : Hid (Below w.heap.size w wC) := BB.out.trans (NB.out.mono BB.out.size)
      have LB : Hid (∀ j, va.ownBlock = some j → j < wB.heap.size) := fun j hj => (OO.out.lt j hj).2
      obtain ⟨ab, cv, rfl, hab, hab2⟩ := own_formK NO.out (by omega)
      obtain ⟨qa, cv', e, hcv, hqa⟩ := own_srow NO.out
      injection e with e1 e2 e3
      subst e1 e3
      have SA := hide hqa
      have NE : Hid (va.ownBlock ≠ some ab) := fun h => absurd (LB.out _ h) (by omega)
      clear e2 hqa NO NB OO BB LB HP hk hg hlt
      have T0 := ka_top (h := f) n (by omega)
      obtain ⟨ox, hox⟩ : ∃ ox, (offset % 65536).tmod (topF (kaR f) n) = ox := ⟨_, rfl⟩
      have ox0 : 0 ≤ ox := by rw [← hox]; exact Int.tmod_nonneg _ (by omega)
      have ox1 : ox < topF (kaR f) n := by rw [← hox]; exact Int.tmod_lt_of_pos _ T0
      have nz : ¬ topF (kaR f) n = 0 := by omega
      have TL := hide (top_lim (l := kaR f) (fun i => by have := ka_h f i; omega))
      have tln := TL.out n
      go_wp2_with fail
      have TZ : topF (kaR f) 0 = 0 := rfl
      go_loopg [15, 16] (n + 1) (fun g1 vf vt wr => ∃ j : Nat, vf = .int .i64 (j : Int) ∧ vt = .int .i64 (topF (kaR f) j) ∧ j < n ∧ n - j < g1 ∧ topF (kaR f) j ≤ ox ∧ wC = wr)
      case atStart => exact ⟨0, by go_num, by rw [TZ], by omega, by omega, by rw [TZ]; exact ox0, rfl⟩
      case round =>
        obtain ⟨fi, rfl, rfl, hfi, hg, hle, rfl⟩ := hrel
        obtain ⟨_, _, e, _, hca⟩ := SA.out (by omega)
        injection e with e
        injection e with e4 e5
        subst e4 e5
        have y1 : wC.cell? ⟨ab, fi * 2 + 1, none⟩ = some (.int .i64 (kaR f fi).h) := by
          have := hca fi (by omega) 1 (by decide)
          rwa [Nat.zero_add] at this
        have hfz : (fi : Int) < (n : Int) := by omega
        have hf0 : (0 : Int) ≤ (fi : Int) := by omega
        have ts := top_succ (kaR f) fi
        have tl := TL.out fi
        have kh := ka_h f fi
        have wt : IntKind.i64.wrap (topF (kaR f) fi + (kaR f fi).h) = topF (kaR f) fi + (kaR f fi).h := wr (by omega) (by omega)
        by_cases hgo : topF (kaR f) fi + (kaR f fi).h ≤ ox
        · have hlt1 : fi + 1 < n := by
            rcases Nat.lt_or_ge (fi + 1) n with h | h
            · exact h
            · obtain rfl : n = fi + 1 := by omega
              rw [ts] at ox1
              omega
          replace ts := hide ts
          clear hca tl kh T0 ox1 nz tln hox hle
          generalize (kaR f fi).h = ht at *
          go_wp2_with fail
          go_roundg (n - fi)
          case measure => exact (by omega)
          case rel => exact ⟨fi + 1, by go_num, by rw [ts.out], hlt1, by omega, by rw [ts.out]; exact hgo, rfl⟩
        · -- the first visible row
          have h2x : ox < topF (kaR f) (fi + 1) := by rw [ts]; omega
          obtain ⟨gz, hgz⟩ : ∃ gz, (cut % 256).tmod ((fi : Int) + 1) = gz := ⟨_, rfl⟩
          have gz0 : 0 ≤ gz := by rw [← hgz]; exact Int.tmod_nonneg _ (by omega)
          have gz1 : gz < (fi : Int) + 1 := by rw [← hgz]; exact Int.tmod_lt_of_pos _ (by omega)
          obtain ⟨go, rfl⟩ : ∃ go : Nat, gz = (go : Int) := ⟨gz.toNat, by omega⟩
          have hgo1 : go ≤ fi := by omega
          have hgz1 : ¬ (fi : Int) + 1 = 0 := by omega
          have hgn : (go : Int) ≤ (n : Int) := by omega
          have hgc : ¬ cv = go := by omega
          have wf1 : IntKind.i64.wrap ((fi : Int) + 1) = (fi : Int) + 1 := wr (by omega) (by omega)
          have KL := hide (kp_law (n := n) (k := m) (gone := go) (first := fi) (A := kaR f) (NB := knR g) (o := ox) (ka_key (by omega)) (kn_key (by omega) (by omega)) (by omega) hgo1
            (rows_lim (fun i => by have := ka_h f i; omega) (by omega)) (rows_lim (kb_h m go g f) (by omega)) (inR_iff.2 ⟨by omega, by omega⟩) hle h2x)
          have KE := hide (kp_key (n := n) (k := m) (gone := go) (first := fi) (A := kaR f) (NB := knR g) (ka_key (by omega)) (kn_key (by omega) (by omega)) (by omega) hgo1)
          have TB := hide (top_lim (kb_h m go g f))
          have SX : Hid (SRow wC (some ⟨ab, go * 2, none⟩) (n - go) 2 (fun j => stC (kaR f) (go + j))) := fun _ => ⟨ab, go * 2, rfl, hab2, fun i hi j hj => by
            have := hca (go + i) (by omega) j hj
            rw [show 0 + (go + i) * 2 + j = go * 2 + i * 2 + j by omega] at this
            exact this⟩
          have EV : Hid (flat m 2 (stC (knR g)) ++ flat (n - go) 2 (fun j => stC (kaR f) (go + j)) = flat (m + n - go) 2 (stC (kpB m go (knR g) (kaR f)))) := by
            show _ = _
            rw [flat_cat, show m + (n - go) = m + n - go by omega]
            refine flat_congr fun i hi j => ?_
            unfold catV kpB
            by_cases q : i < m
            · rw [if_pos q]; cases j <;> simp [stC, q]
            · rw [if_neg q]; cases j <;> simp [stC, q]
          have TF := hide tl
          have OXB : Hid (ox < 10000) := by show ox < 10000; omega
          have HCV := hide hcv
          clear ts tl kh TL tln T0 nz h2x ox1 gz0 gz1
          go_wp2_with (at_builtin; refine wpList_append_srow _ rfl _ _ 22 rfl w.heap.size 38 it _ 2 24 Try.underlying22 i1 i2 i3 i4 rfl (by decide) va m _ rfl OB.out (some ⟨ab, go * 2, none⟩) (n - go) (cv - go) (fun j => stC (kaR f) (go + j)) ?_ SX.out ?_ ?_ ?_ ?_ ?_ ?_)
          · intro i r
            cases r <;> rfl
          · unfold maxLen; omega
          · omega
          · exact BC.out.size
          intro v8 w8 hO8 hg8
          have O8 : Hid (w8.ownsRow w.heap.size 38 2 v8 (m + n - go) (flat (m + n - go) 2 (stC (kpB m go (knR g) (kaR f))))) := by
            show World.ownsRow _ _ _ _ _ _ _
            rw [← EV.out, show m + n - go = m + (n - go) by omega]; exact hO8
          have B8 := hide (below_byA BC.out OB.out hg8 (Nat.le_refl _) (Nat.le_refl _))
          have A8 := hide (srow_keptK SA.out hg8 NE.out)
          obtain ⟨qb, cb, rfl, hcb, hqb⟩ := own_srow O8.out
          have S8 := hide hqb
          have HCB := hide hcb
          clear hO8 hg8 EV SX OB BC SA NE hqb O8 hca hgc hgn y1 hgz hgz1 wf1 hcv hab hab2
          obtain ⟨X, hX⟩ : ∃ X, m + fi - go = X := ⟨_, rfl⟩
          have hXm : X < m + n - go := by omega
          rw [hX] at KL KE
          obtain ⟨KL1, KL2⟩ := KL.out
          obtain ⟨KE1, KE2⟩ := KE.out
          have KE1 := hide KE1
          have KE2 := hide KE2
          clear KL KE
          go_wp2_with fail
          go_loopg [18, 19] (X + 1) (fun g1 va vi wr => ∃ i : Nat, va = .int .i64 (topF (kpB m go (knR g) (kaR f)) i) ∧ vi = .int .i64 (i : Int) ∧ i ≤ X ∧ X - i < g1 ∧ Hid (Below w.heap.size w wr) ∧ Hid (SRow wr (some ⟨ab, 0, none⟩) n 2 (stC (kaR f))) ∧ Hid (SRow wr qb (m + n - go) 2 (stC (kpB m go (knR g) (kaR f)))))
          case atStart => exact ⟨0, rfl, by go_num, by omega, by omega, B8, A8, S8⟩
          case round =>
            clear B8 A8 S8
            obtain ⟨wd, rfl⟩ : ∃ wd : World, wd = wr := ⟨_, rfl⟩
            obtain ⟨i, rfl, rfl, hi, hg, B, SA, SB⟩ := hrel
            have hin : i < m + n - go := by omega
            have hinz : (i : Int) < ((m + n - go : Nat) : Int) := by omega
            have hi0 : (0 : Int) ≤ (i : Int) := by omega
            obtain ⟨_, _, e, _, hca⟩ := SA.out (by omega)
            injection e with e
            injection e with e4 e5
            subst e4 e5
            obtain ⟨bb, bo, rfl, _, hcb'⟩ := SB.out (by omega)
            have y2 : wd.cell? ⟨ab, fi * 2, none⟩ = some (.string (kaR f fi).k) := by
              have := hca fi (by omega) 0 (by decide)
              rwa [Nat.zero_add] at this
            have y3 : wd.cell? ⟨bb, bo + i * 2, none⟩ = some (.string (kpB m go (knR g) (kaR f) i).k) := hcb' i hin 0 (by decide)
            have y4 : wd.cell? ⟨bb, bo + i * 2 + 1, none⟩ = some (.int .i64 (kpB m go (knR g) (kaR f) i).h) := hcb' i hin 1 (by decide)
            have NB : Hid (∀ z, Below w.heap.size w (wd.drewN z)) := fun z => ⟨B.out.os, B.out.tape, B.out.output, B.out.size, B.out.block⟩
            have NA : Hid (∀ z, SRow (wd.drewN z) (some ⟨ab, 0, none⟩) n 2 (stC (kaR f))) := fun z => SA.out
            have NS : Hid (∀ z, SRow (wd.drewN z) (some ⟨bb, bo, none⟩) (m + n - go) 2 (stC (kpB m go (knR g) (kaR f)))) := fun z => SB.out
            clear hca hcb' B SA SB
            have kd : Hid (i = X ∨ i < X) := by show i = X ∨ i < X; omega
            rcases kd.out with h | h
            · subst h
              have KN : ((kpB m go (knR g) (kaR f) i).k.toList == (kaR f fi).k.toList) = true := KE2.out
              clear KE1 KE2 y4 kd hi hg
              generalize (kpB m go (knR g) (kaR f) i).k = kv at *
              generalize (kaR f fi).k = ku at *
              have tb := TB.out i
              have ta := TF.out
              have ob := OXB.out
              have wx1 : IntKind.i64.wrap (topF (kpB m go (knR g) (kaR f)) i + ox) = topF (kpB m go (knR g) (kaR f)) i + ox := wr (by omega) (by omega)
              have wx2 : IntKind.i64.wrap (topF (kpB m go (knR g) (kaR f)) i + ox - topF (kaR f) fi) = topF (kpB m go (knR g) (kaR f)) i + ox - topF (kaR f) fi := wr (by omega) (by omega)
              go_wp2_with fail
              go_quiet (fail)
              have B5 := hide (NB.out nq)
              have A5 := hide (NA.out nq)
              have S5 := hide (NS.out nq)
              clear y2 y3 NB NA NS tb ta TB TF KN ob OXB
              generalize wd.drewN nq = w5 at *
              have K1 := hide (KK.out _ _ n (m + n - go) cv cb (kaR f) (kpB m go (knR g) (kaR f)) ox w5 A5.out S5.out HCV.out HCB.out (by omega) (by omega) (fun i _ => ka_sz) (fun i _ => kb_sz))
              have K2 := hide (fun w' (hB : Below w5.heap.size w5 w') => KK.out _ _ n n cv cv (kaR f) (kaR f) ox w' (A5.out.below hB) (A5.out.below hB) HCV.out HCV.out (by omega) (by omega) (fun i _ => ka_sz) (fun i _ => ka_sz))
              rw [KL1] at K1
              rw [KL2] at K2
              clear A5 S5 KL1 KL2 KK HCV HCB
              generalize topF (kpB m go (knR g) (kaR f)) i = tb at *
              generalize topF (kaR f) fi = ta at *
              go_wp2_with fail
              refine K1.out.mono ?_
              rintro e w6 ⟨rfl, hB⟩
              have B6 := hide (B5.out.trans (hB.mono B5.out.size))
              replace K2 := hide (K2.out w6 hB)
              clear K1 hB B5
              go_wp2_with fail
              refine K2.out.mono ?_
              rintro e w7 ⟨rfl, hB⟩
              have B7 := hide (B6.out.trans (hB.mono B6.out.size))
              replace A := hide (A.out w7)
              clear K2 hB B6
              go_wp2_with fail
              refine A.out.mono ?_
              rintro e w9 ⟨rfl, hB⟩
              have B9 := hide (B7.out.trans (hB.mono B7.out.size))
              clear A hB B7
              go_wp2_with fail
              go_ret
              exact ⟨rfl, B9.out⟩
            · have KN : ((kpB m go (knR g) (kaR f) i).k.toList == (kaR f fi).k.toList) = false := KE1.out i h
              have ts := hide (top_succ (kpB m go (knR g) (kaR f)) i)
              have tl := TB.out i
              have kb := kb_h m go g f i
              have wt' : IntKind.i64.wrap (topF (kpB m go (knR g) (kaR f)) i + (kpB m go (knR g) (kaR f) i).h) = topF (kpB m go (knR g) (kaR f)) i + (kpB m go (knR g) (kaR f) i).h := wr (by omega) (by omega)
              clear KE1 KE2 kd tl kb
              generalize (kpB m go (knR g) (kaR f) i).h = ht at *
              generalize (kpB m go (knR g) (kaR f) i).k = kv at *
              generalize (kaR f fi).k = ku at *
              go_wp2_with fail
              go_quiet (fail)
              have y4 : (wd.drewN nq).cell? _ = _ := y4
              have B5 := hide (NB.out nq)
              have A5 := hide (NA.out nq)
              have S5 := hide (NS.out nq)
              clear y2 y3 NB NA NS KN
              generalize wd.drewN nq = w5 at *
              go_wp2_with fail
              go_roundg (X - i)
              case measure => exact (by omega)
              case rel => exact ⟨i + 1, by rw [ts.out], by go_num, by omega, by omega, B5, A5, S5⟩
end Go.Proofs.Ytbmkamnjjfmdiaa
