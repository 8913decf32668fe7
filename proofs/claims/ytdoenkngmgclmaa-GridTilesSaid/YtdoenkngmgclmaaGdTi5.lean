/- A drawn region of the law GridTiles; no condition. -/
import Derived.Test.YtdoenkngmgclmaaGdTi0
namespace Go.Proofs.Ytdoenkngmgclmaa
open Go.RowKit Go.Sort
set_option linter.unusedVariables false
set_option linter.unusedSimpArgs false

set_option maxRecDepth 100000 in
set_option maxHeartbeats 16000000 in
theorem ti12_next {Q : Exit → Act → World → Prop} {w : World} {co : Int} {b o n d : Nat} {m : Nat} {R0 C0 S0 S1 : Int} (hn : (m : Int) + 1 < (n : Int)) (hnb : n ≤ 100) (hr : 0 ≤ R0) (hr2 : R0 ≤ 100) (h0 : 0 ≤ C0) (h1 : 1 ≤ S0) (h2 : C0 + S0 ≤ 16) (h4 : 1 ≤ S1) (h5 : S1 ≤ 16) (h3 : co < C0 + S0 + S1) (x0 : w.cell? ⟨b, o + (m + 1) * 3, none⟩ = some (.int .i64 (R0 + 1))) (x1 : w.cell? ⟨b, o + (m + 1) * 3 + 1, none⟩ = some (.int .i64 0)) (x2 : w.cell? ⟨b, o + (m + 1) * 3 + 2, none⟩ = some (.int .i64 S1)) (y0 : w.cell? ⟨b, o + m * 3, none⟩ = some (.int .i64 R0)) (y1 : w.cell? ⟨b, o + m * 3 + 1, none⟩ = some (.int .i64 C0)) (y2 : w.cell? ⟨b, o + m * 3 + 2, none⟩ = some (.int .i64 S0)) {u1 u2 u3 u4 u7 u8 u9 u10 u11 u12 u13 u14 u15 u16 u17 u18 u19 u20 u21 u22 u23 u24 u25 u26 u27 u28 u29 u30 u31 u32 u33 u34 u35 u36 u37 u38 u39 u40 u41 u42 u43 u44 u45 u46 u47 u48 u49 u50 u51 u52 u53 u54 u55 u56 u57 u58 u59 u60 u61 u62 u63 u64 u65 u66 u67 u68 u69 u70 u71 u72 u73 u74 u75 u76 u77 u78 u79 u80 u81 u82 u83 u84 u85 u86 u87 u88 u89 u90 u91 u92 u93 u94 u95 u96 u97 u98 u99 u100 u101 u102 u103 u104 u105 u106 u107 u108 u109 u110 u111 u112 u113 u114 u115 u116 u117 u118 u119 u120 u121 u122 u123 u124 u125 u126 u127 u128 u129 u130 u131 u132 u133 u134 u135 u136 u137 u138 u139 u140 u141 u142 u143 u144 u145 u146 u147 u148 u149 u150 u151 u152 u153 u154 u155 u156 u157 u158 u159 u160 : Value}
    (h : ∀ (q : Nat) (v76 v77 v78 v79 v80 v81 v82 v83 v84 v85 v86 v87 v88 v89 v90 v91 v92 v93 v94 v95 v96 v97 v98 v99 v100 v101 v102 v103 v104 v105 v106 v107 v108 v109 v110 v111 v112 v113 v114 v115 v116 v117 v118 v119 v120 v121 v122 v123 v124 v125 v126 v127 v128 v129 v130 v131 v132 v133 v134 v135 v136 v137 v138 v139 v140 v141 v142 v143 v144 v145 v146 v147 v148 v149 v150 v151 v152 v153 v154 v155 v156 v157 v158 : Value), Q .normal ⟨(List.toArray ((.int .i64 co) :: (u1) :: (u2) :: (u3) :: (u4) :: (.slice (some ⟨b, o, none⟩) n d) :: (.int .i64 ((m : Int) + 1)) :: (u7) :: (u8) :: (u9) :: (u10) :: (u11) :: (u12) :: (u13) :: (u14) :: (u15) :: (u16) :: (u17) :: (u18) :: (u19) :: (u20) :: (u21) :: (u22) :: (u23) :: (u24) :: (u25) :: (u26) :: (u27) :: (u28) :: (u29) :: (u30) :: (u31) :: (u32) :: (u33) :: (u34) :: (u35) :: (u36) :: (u37) :: (u38) :: (u39) :: (u40) :: (u41) :: (u42) :: (u43) :: (u44) :: (u45) :: (u46) :: (u47) :: (u48) :: (u49) :: (u50) :: (u51) :: (u52) :: (u53) :: (u54) :: (u55) :: (u56) :: (u57) :: (u58) :: (u59) :: (u60) :: (u61) :: (u62) :: (u63) :: (u64) :: (u65) :: (u66) :: (u67) :: (u68) :: (u69) :: (u70) :: (u71) :: (u72) :: (u73) :: (u74) :: (u75) :: v76 :: v77 :: v78 :: v79 :: v80 :: v81 :: v82 :: v83 :: v84 :: v85 :: v86 :: v87 :: v88 :: v89 :: v90 :: v91 :: v92 :: v93 :: v94 :: v95 :: v96 :: v97 :: v98 :: v99 :: v100 :: v101 :: v102 :: v103 :: v104 :: v105 :: v106 :: v107 :: v108 :: v109 :: v110 :: v111 :: v112 :: v113 :: v114 :: v115 :: v116 :: v117 :: v118 :: v119 :: v120 :: v121 :: v122 :: v123 :: v124 :: v125 :: v126 :: v127 :: v128 :: v129 :: v130 :: v131 :: v132 :: v133 :: v134 :: v135 :: v136 :: v137 :: v138 :: v139 :: v140 :: v141 :: v142 :: v143 :: v144 :: v145 :: v146 :: v147 :: v148 :: v149 :: v150 :: v151 :: v152 :: v153 :: v154 :: v155 :: v156 :: v157 :: v158 :: (.bool false) :: (u160) :: [])), []⟩ (w.drewN q)) :
    (tiR 12).wp Try.prog Q ⟨(List.toArray ((.int .i64 co) :: u1 :: u2 :: u3 :: u4 :: (.slice (some ⟨b, o, none⟩) n d) :: (.int .i64 ((m : Int) + 1)) :: u7 :: u8 :: u9 :: u10 :: u11 :: u12 :: u13 :: u14 :: u15 :: u16 :: u17 :: u18 :: u19 :: u20 :: u21 :: u22 :: u23 :: u24 :: u25 :: u26 :: u27 :: u28 :: u29 :: u30 :: u31 :: u32 :: u33 :: u34 :: u35 :: u36 :: u37 :: u38 :: u39 :: u40 :: u41 :: u42 :: u43 :: u44 :: u45 :: u46 :: u47 :: u48 :: u49 :: u50 :: u51 :: u52 :: u53 :: u54 :: u55 :: u56 :: u57 :: u58 :: u59 :: u60 :: u61 :: u62 :: u63 :: u64 :: u65 :: u66 :: u67 :: u68 :: u69 :: u70 :: u71 :: u72 :: u73 :: u74 :: u75 :: u76 :: u77 :: u78 :: u79 :: u80 :: u81 :: u82 :: u83 :: u84 :: u85 :: u86 :: u87 :: u88 :: u89 :: u90 :: u91 :: u92 :: u93 :: u94 :: u95 :: u96 :: u97 :: u98 :: u99 :: u100 :: u101 :: u102 :: u103 :: u104 :: u105 :: u106 :: u107 :: u108 :: u109 :: u110 :: u111 :: u112 :: u113 :: u114 :: u115 :: u116 :: u117 :: u118 :: u119 :: u120 :: u121 :: u122 :: u123 :: u124 :: u125 :: u126 :: u127 :: u128 :: u129 :: u130 :: u131 :: u132 :: u133 :: u134 :: u135 :: u136 :: u137 :: u138 :: u139 :: u140 :: u141 :: u142 :: u143 :: u144 :: u145 :: u146 :: u147 :: u148 :: u149 :: u150 :: u151 :: u152 :: u153 :: u154 :: u155 :: u156 :: u157 :: u158 :: u159 :: u160 :: [])), []⟩ w := by
  have h := hide h
  have hm0 : (0 : Int) ≤ (m : Int) := by omega
  have hm1 : (0 : Int) ≤ (m : Int) + 1 := by omega
  have hmn : (m : Int) < (n : Int) := by omega
  have hmp : (0 : Int) < (m : Int) + 1 := by omega
  have dmp : decide ((0 : Int) < (m : Int) + 1) = true := decide_eq_true hmp
  have wm : IntKind.i64.wrap (m : Int) = (m : Int) := wr (by omega) (by omega)
  have v1 : IntKind.i64.wrap (C0 + S0) = C0 + S0 := wr (by omega) (by omega)
  have v2 : IntKind.i64.wrap (C0 + S0 + S1) = C0 + S0 + S1 := wr (by omega) (by omega)
  have v3 : IntKind.i64.wrap (R0 + 1) = R0 + 1 := wr (by omega) (by omega)
  have u1_ : (R0 + 1 == R0) = false := by rw [beq_eq_false_iff_ne]; omega
  have u2_ : ¬ R0 + 1 = R0 := by omega
  have u3_ : decide (co < C0 + S0 + S1) = true := decide_eq_true h3
  conv => arg 2; whnf
  go_wp2_with fail
  (try simp only [List.append])
  go_big_quiet (fail)
  exact h.out nq _ _ _ _ _ _ _ _ _ _ _ _ _ _ _ _ _ _ _ _ _ _ _ _ _ _ _ _ _ _ _ _ _ _ _ _ _ _ _ _ _ _ _ _ _ _ _ _ _ _ _ _ _ _ _ _ _ _ _ _ _ _ _ _ _ _ _ _ _ _ _ _ _ _ _ _ _ _ _ _ _ _ _
end Go.Proofs.Ytdoenkngmgclmaa
