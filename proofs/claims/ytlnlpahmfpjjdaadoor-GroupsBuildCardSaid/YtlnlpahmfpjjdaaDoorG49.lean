/-
  Texts of the proof, put together: GdPo, GdPA.
-/
import Derived.Test.YtlnlpahmfpjjdaaDoorG48
import Derived.Test.YtlnlpahmfpjjdaaDoorG34
import Derived.Test.YtlnlpahmfpjjdaaDoorG07
import Derived.Deep.LoopGhost
import Derived.IntWalk

/-
  The document's Build, walked.
-/
namespace Go.Proofs.YtlnlpahmfpjjdaaDoor
open Go.RowKit

set_option maxRecDepth 100000 in
set_option maxHeartbeats 102400000 in
def rbuild_at : PSigma (fun A : Prop => PSigma (fun B : Prop => PSigma (fun C : Prop => PSigma (fun D : Prop => PSigma (fun E : Prop => PSigma (fun Z : Prop =>
    Hid A → Hid B → Hid C → Hid D → Hid E → Hid Z → ∀ (lines : List Ln) (lv : Value) (w : World), LinesAt fB lines lv w → lines.length ≤ 20000 →
    Calls Tryd.prog 25 #[lv] w (BuiltP w (buildL (ksOf lines)).1 (tells lines)))))))) := by
  apply PSigma.mk
  apply PSigma.mk
  apply PSigma.mk
  apply PSigma.mk
  apply PSigma.mk
  apply PSigma.mk
  · intro hGA hGB hGC hGD hGE hGZ lines lv w hl hn
    have HLA := Lib.hid hl
    obtain ⟨la0, lc0, rfl, hlc1, hlc2, hcell⟩ := hl
    obtain ⟨n, hln⟩ : ∃ n, lines.length = n := ⟨_, rfl⟩
    rw [hln] at hlc1 hn HLA ⊢
    have HL := Lib.hid hcell
    have HLN := Lib.hid hln
    have HRK : Hid ((ksOf lines).length = n) := Lib.hid (by unfold ksOf; rw [List.length_map]; exact hln)
    obtain ⟨K, hK⟩ : ∃ K, ksOf lines = K := ⟨_, rfl⟩
    have HK := Lib.hid hK
    rw [hK] at HRK ⊢
    unfold maxLen at hlc2
    clear hcell hln hK
    have HS0 : Hid (RBldS w 0 bs0 (.slice (some ⟨w.heap.size, 0, none⟩) 1 1) (.slice none 0 0) (.slice none 0 0) (.slice none 0 0) (w.alloc (.cells #[.slice none 0 0] 47))) := Lib.hid (by
      refine ⟨fun _ => 0, [(baseFr [], ⟨0, [], [], none, 0, 0, 0, 0⟩)], w.heap.size, 1, none, 0, 0, none, 0, none, 0, 0, rfl, rfl, rfl, rfl, ⟨(Below.refl _ _).alloc (Nat.le_refl _) _, ⟨⟨rfl, .inr ⟨w.heap.size, 1, _, rfl, Nat.le_refl _, heap_alloc_new w _, Nat.le_refl _, by unfold maxLen; omega, rfl, rfl⟩⟩, fun _ _ => rfl⟩, rfl, ⟨⟨rfl, .inl ⟨rfl, rfl⟩⟩, fun g hg => by cases hg⟩, Nat.le_refl _, ?_⟩, rfl, ⟨⟨rfl, .inl ⟨rfl, rfl⟩⟩, fun g hg => by cases hg⟩, ⟨⟨rfl, .inl ⟨rfl, rfl⟩⟩, fun g hg => by cases hg⟩, Nat.le_refl _⟩
      intro j f x hj
      match j, hj with
      | 0, hj =>
        simp only [List.getElem?_cons_zero, Option.some.injEq, Prod.mk.injEq] at hj
        obtain ⟨rfl, rfl⟩ := hj
        exact ⟨rfl, rfl, Nat.le_refl _, Nat.le_refl _, lev_nil _ _ _ _ _ _, fun h => absurd rfl h⟩)
    go_enter Tryd.func25, Tryd.ntmps25
    go_wp2
    go_loopw [4, 5, 6, 7, 8] (fun lv cv ev bv i wr => ∃ k : Nat, i = .int .i64 (k : Int) ∧ k ≤ n ∧ RBldS w (2 * k) (runB bs0 0 (K.take k)) lv cv ev bv wr) (fun _ _ _ _ i _ => n - (intOf i).toNat)
    case atStart => exact ⟨0, rfl, Nat.zero_le _, HS0.out⟩
    case round =>
      obtain ⟨k, rfl, hk, hB⟩ := hrel
      have HB := Lib.hid hB
      clear hB
      by_cases hlt : k < n
      · obtain ⟨ln, hlk⟩ : ∃ ln, lines[k]? = some ln := ⟨_, List.getElem?_eq_getElem (by rw [HLN.out]; exact hlt)⟩
        obtain ⟨g, tv, rfl, hg, l0, -, -, -, ht⟩ := HL.out k ln hlk
        have hx := ToksAt.x ht
        obtain ⟨ta, tn, tc, rfl⟩ := hx.form
        have htn := hx.len.1
        obtain ⟨s, hs⟩ : ∃ s, runB bs0 0 (K.take k) = s := ⟨_, rfl⟩
        have hKk : K[k]? = some (lnK ln) := by rw [← HK.out]; unfold ksOf; rw [List.getElem?_map, hlk]; rfl
        obtain ⟨T, hT⟩ : ∃ T, ln.toks.map (xtOf fB) = T := ⟨_, rfl⟩
        obtain ⟨kd, hkd⟩ : ∃ kd, kindL T = kd := ⟨_, rfl⟩
        have HSN : Hid (runB bs0 0 (K.take (k + 1)) = stepB s k kd (decide (T ≠ []))) := Lib.hid (by
          rw [take_one hKk, run_snoc, List.length_take, Nat.min_eq_left (by rw [HRK.out]; omega), Nat.zero_add, hs, ← hkd, ← hT]
          rfl)
        have HFI : Hid (Fine s k) := Lib.hid (by
          have := fine_run (K.take k) bs0 0 fine_zero
          rw [List.length_take, Nat.min_eq_left (by rw [HRK.out]; omega), Nat.zero_add, hs] at this
          exact this)
        rw [hs] at HB
        rw [hT] at hx htn
        obtain ⟨c, F, la, lc, ca, cn, cc, ea, ec, ba, bn, bc, rfl, rfl, rfl, rfl, hC, hF, hE, hbd, hbn⟩ := HB.out
        have HC := Lib.hid hC
        have HF := Lib.hid hF
        have HE := Lib.hid hE
        have HBD := Lib.hid hbd
        have HBN := Lib.hid hbn
        have e0 := bcell hC.bel l0 hg
        have HKI : Hid (∀ X : World, Below wr.heap.size wr X → Calls Tryd.prog 13 #[.slice ta tn tc] X (IntNew (kd : Nat) X)) := Lib.hid (fun X b => hkd ▸ rKind_any (hx.over (below_up hC.bel b)))
        have hkI : (k : Int) < (n : Int) := by omega
        have hk0 : (0 : Int) ≤ (k : Int) := by omega
        have hFl : F.length = s.st.length + 1 := by rw [len_of_map hF, stack_len]
        obtain ⟨m, hm⟩ : ∃ m, s.st.length = m := ⟨_, rfl⟩
        have hcn : cn = m := by have := hC.cln; omega
        subst hcn
        have HM := Lib.hid hm
        have HFL : Hid (F.length = cn + 1) := Lib.hid (by omega)
        have hlcap := hC.lcap
        have hccap := hC.ccap
        rw [HFL.out] at hlcap
        have hdk : 2 * k ≤ 40000 := by omega
        have hfew : cn ≤ 40000 := by have := hC.few; omega
        obtain ⟨hll1, hll2⟩ := hlcap
        obtain ⟨hcc1, hcc2⟩ := hccap
        unfold maxLen at hll2 hcc2
        rw [HFL.out]
        have HTN := Lib.hid htn
        have HKD := Lib.hid hkd
        have HTT := Lib.hid hT
        clear hlk l0 ht hx hKk hs hC hF hE hbd hbn hFl hm htn hkd hT
        have hcs : (2 ≤ kd ∧ kd ≤ 4) ∨ (5 ≤ kd ∧ kd ≤ 7) ∨ kd = 0 ∨ kd = 1 ∨ 7 < kd := by omega
        rename_i K0 hK0
        rcases hcs with h24 | h57 | h0 | h1 | h8
        · revert lines w lc0 hlc2 n hn hlc1 HLN K HRK HK HS0 K0 hK0 wr u9 u10 u11 u19 u20 u21 u22 u23 u24 u25 u26 u27 u28 u29 u30 u31 u32 u33 u34 u35 u36 u37 u38 u39 u40 u41 u42 u43 u44 u45 u46 u47 u48 u49 u50 u51 u52 u53 u54 u55 u56 u57 u58 u59 u60 u61 u62 u63 u64 u65 u66 u67 u68 u69 u70 u71 u72 u73 u74 u75 u76 u77 u78 u79 u80 u81 u82 u83 u84 u85 u86 u87 u88 u89 u90 u91 u92 u93 u94 u95 u96 u97 u98 u99 u100 u101 u102 u103 u104 u105 u106 u107 u108 u109 u110 u111 u112 u113 u114 u115 u116 u117 u118 u119 u120 u121 u122 u123 u124 u125 u126 u127 u128 u129 u130 u131 u132 u133 u134 u135 u136 u137 u138 u139 u140 u141 u142 u143 u144 u145 u146 u147 u148 u149 u150 u151 u152 u153 u154 u155 u156 u157 u158 u159 u160 u161 u162 u163 u164 u165 u166 u167 u168 u169 u170 u171 u172 u173 u174 u175 u176 u177 u178 u179 u180 k hk hlt ln g HLA HL hg ta tn tc s T kd HSN HFI c F la lc ca cn cc ea ec ba bn bc HB HC HF HE HBD HBN e0 HKI hkI hk0 HM HFL hdk hfew hll1 hll2 hcc1 hcc2 HTN HKD HTT h24
          exact hGA.out
        · revert lines w lc0 hlc2 n hn hlc1 HLN K HRK HK HS0 K0 hK0 wr u9 u10 u11 u19 u20 u21 u22 u23 u24 u25 u26 u27 u28 u29 u30 u31 u32 u33 u34 u35 u36 u37 u38 u39 u40 u41 u42 u43 u44 u45 u46 u47 u48 u49 u50 u51 u52 u53 u54 u55 u56 u57 u58 u59 u60 u61 u62 u63 u64 u65 u66 u67 u68 u69 u70 u71 u72 u73 u74 u75 u76 u77 u78 u79 u80 u81 u82 u83 u84 u85 u86 u87 u88 u89 u90 u91 u92 u93 u94 u95 u96 u97 u98 u99 u100 u101 u102 u103 u104 u105 u106 u107 u108 u109 u110 u111 u112 u113 u114 u115 u116 u117 u118 u119 u120 u121 u122 u123 u124 u125 u126 u127 u128 u129 u130 u131 u132 u133 u134 u135 u136 u137 u138 u139 u140 u141 u142 u143 u144 u145 u146 u147 u148 u149 u150 u151 u152 u153 u154 u155 u156 u157 u158 u159 u160 u161 u162 u163 u164 u165 u166 u167 u168 u169 u170 u171 u172 u173 u174 u175 u176 u177 u178 u179 u180 k hk hlt ln g HLA HL hg ta tn tc s T kd HSN HFI c F la lc ca cn cc ea ec ba bn bc HB HC HF HE HBD HBN e0 HKI hkI hk0 HM HFL hdk hfew hll1 hll2 hcc1 hcc2 HTN HKD HTT h57
          exact hGB.out
        · revert lines w lc0 hlc2 n hn hlc1 HLN K HRK HK HS0 K0 hK0 wr u9 u10 u11 u19 u20 u21 u22 u23 u24 u25 u26 u27 u28 u29 u30 u31 u32 u33 u34 u35 u36 u37 u38 u39 u40 u41 u42 u43 u44 u45 u46 u47 u48 u49 u50 u51 u52 u53 u54 u55 u56 u57 u58 u59 u60 u61 u62 u63 u64 u65 u66 u67 u68 u69 u70 u71 u72 u73 u74 u75 u76 u77 u78 u79 u80 u81 u82 u83 u84 u85 u86 u87 u88 u89 u90 u91 u92 u93 u94 u95 u96 u97 u98 u99 u100 u101 u102 u103 u104 u105 u106 u107 u108 u109 u110 u111 u112 u113 u114 u115 u116 u117 u118 u119 u120 u121 u122 u123 u124 u125 u126 u127 u128 u129 u130 u131 u132 u133 u134 u135 u136 u137 u138 u139 u140 u141 u142 u143 u144 u145 u146 u147 u148 u149 u150 u151 u152 u153 u154 u155 u156 u157 u158 u159 u160 u161 u162 u163 u164 u165 u166 u167 u168 u169 u170 u171 u172 u173 u174 u175 u176 u177 u178 u179 u180 k hk hlt ln g HLA HL hg ta tn tc s T kd HSN HFI c F la lc ca cn cc ea ec ba bn bc HB HC HF HE HBD HBN e0 HKI hkI hk0 HM HFL hdk hfew hll1 hll2 hcc1 hcc2 HTN HKD HTT h0
          exact hGC.out
        · revert lines w lc0 hlc2 n hn hlc1 HLN K HRK HK HS0 K0 hK0 wr u9 u10 u11 u19 u20 u21 u22 u23 u24 u25 u26 u27 u28 u29 u30 u31 u32 u33 u34 u35 u36 u37 u38 u39 u40 u41 u42 u43 u44 u45 u46 u47 u48 u49 u50 u51 u52 u53 u54 u55 u56 u57 u58 u59 u60 u61 u62 u63 u64 u65 u66 u67 u68 u69 u70 u71 u72 u73 u74 u75 u76 u77 u78 u79 u80 u81 u82 u83 u84 u85 u86 u87 u88 u89 u90 u91 u92 u93 u94 u95 u96 u97 u98 u99 u100 u101 u102 u103 u104 u105 u106 u107 u108 u109 u110 u111 u112 u113 u114 u115 u116 u117 u118 u119 u120 u121 u122 u123 u124 u125 u126 u127 u128 u129 u130 u131 u132 u133 u134 u135 u136 u137 u138 u139 u140 u141 u142 u143 u144 u145 u146 u147 u148 u149 u150 u151 u152 u153 u154 u155 u156 u157 u158 u159 u160 u161 u162 u163 u164 u165 u166 u167 u168 u169 u170 u171 u172 u173 u174 u175 u176 u177 u178 u179 u180 k hk hlt ln g HLA HL hg ta tn tc s T kd HSN HFI c F la lc ca cn cc ea ec ba bn bc HB HC HF HE HBD HBN e0 HKI hkI hk0 HM HFL hdk hfew hll1 hll2 hcc1 hcc2 HTN HKD HTT h1
          exact hGD.out
        · revert lines w lc0 hlc2 n hn hlc1 HLN K HRK HK HS0 K0 hK0 wr u9 u10 u11 u19 u20 u21 u22 u23 u24 u25 u26 u27 u28 u29 u30 u31 u32 u33 u34 u35 u36 u37 u38 u39 u40 u41 u42 u43 u44 u45 u46 u47 u48 u49 u50 u51 u52 u53 u54 u55 u56 u57 u58 u59 u60 u61 u62 u63 u64 u65 u66 u67 u68 u69 u70 u71 u72 u73 u74 u75 u76 u77 u78 u79 u80 u81 u82 u83 u84 u85 u86 u87 u88 u89 u90 u91 u92 u93 u94 u95 u96 u97 u98 u99 u100 u101 u102 u103 u104 u105 u106 u107 u108 u109 u110 u111 u112 u113 u114 u115 u116 u117 u118 u119 u120 u121 u122 u123 u124 u125 u126 u127 u128 u129 u130 u131 u132 u133 u134 u135 u136 u137 u138 u139 u140 u141 u142 u143 u144 u145 u146 u147 u148 u149 u150 u151 u152 u153 u154 u155 u156 u157 u158 u159 u160 u161 u162 u163 u164 u165 u166 u167 u168 u169 u170 u171 u172 u173 u174 u175 u176 u177 u178 u179 u180 k hk hlt ln g HLA HL hg ta tn tc s T kd HSN HFI c F la lc ca cn cc ea ec ba bn bc HB HC HF HE HBD HBN e0 HKI hkI hk0 HM HFL hdk hfew hll1 hll2 hcc1 hcc2 HTN HKD HTT h8
          exact hGE.out
      · rename_i K0 hK0
        revert lines w la0 lc0 hlc2 n HLA hn hlc1 HL HLN K HRK HK HS0 K0 hK0 wr u4 u5 u6 u7 u9 u10 u11 u19 u20 u21 u22 u23 u24 u25 u26 u27 u28 u29 u30 u31 u32 u33 u34 u35 u36 u37 u38 u39 u40 u41 u42 u43 u44 u45 u46 u47 u48 u49 u50 u51 u52 u53 u54 u55 u56 u57 u58 u59 u60 u61 u62 u63 u64 u65 u66 u67 u68 u69 u70 u71 u72 u73 u74 u75 u76 u77 u78 u79 u80 u81 u82 u83 u84 u85 u86 u87 u88 u89 u90 u91 u92 u93 u94 u95 u96 u97 u98 u99 u100 u101 u102 u103 u104 u105 u106 u107 u108 u109 u110 u111 u112 u113 u114 u115 u116 u117 u118 u119 u120 u121 u122 u123 u124 u125 u126 u127 u128 u129 u130 u131 u132 u133 u134 u135 u136 u137 u138 u139 u140 u141 u142 u143 u144 u145 u146 u147 u148 u149 u150 u151 u152 u153 u154 u155 u156 u157 u158 u159 u160 u161 u162 u163 u164 u165 u166 u167 u168 u169 u170 u171 u172 u173 u174 u175 u176 u177 u178 u179 u180 k hk HB hlt
        exact hGZ.out

end Go.Proofs.YtlnlpahmfpjjdaaDoor

/-
  The document's Build, walked: case A.
-/
namespace Go.Proofs.YtlnlpahmfpjjdaaDoor
open Go.RowKit

set_option maxRecDepth 100000 in
set_option maxHeartbeats 102400000 in
theorem rbuild_A : rbuild_at.1 := by
  intro lines w lc0 hlc2 n hn hlc1 HLN K HRK HK HS0 K0 hK0 wr u9 u10 u11 u19 u20 u21 u22 u23 u24 u25 u26 u27 u28 u29 u30 u31 u32 u33 u34 u35 u36 u37 u38 u39 u40 u41 u42 u43 u44 u45 u46 u47 u48 u49 u50 u51 u52 u53 u54 u55 u56 u57 u58 u59 u60 u61 u62 u63 u64 u65 u66 u67 u68 u69 u70 u71 u72 u73 u74 u75 u76 u77 u78 u79 u80 u81 u82 u83 u84 u85 u86 u87 u88 u89 u90 u91 u92 u93 u94 u95 u96 u97 u98 u99 u100 u101 u102 u103 u104 u105 u106 u107 u108 u109 u110 u111 u112 u113 u114 u115 u116 u117 u118 u119 u120 u121 u122 u123 u124 u125 u126 u127 u128 u129 u130 u131 u132 u133 u134 u135 u136 u137 u138 u139 u140 u141 u142 u143 u144 u145 u146 u147 u148 u149 u150 u151 u152 u153 u154 u155 u156 u157 u158 u159 u160 u161 u162 u163 u164 u165 u166 u167 u168 u169 u170 u171 u172 u173 u174 u175 u176 u177 u178 u179 u180 k hk hlt ln g HLA HL hg ta tn tc s T kd HSN HFI c F la lc ca cn cc ea ec ba bn bc HB HC HF HE HBD HBN e0 HKI hkI hk0 HM HFL hdk hfew hll1 hll2 hcc1 hcc2 HTN HKD HTT h24
  -- a condition begins
  have ha1 : (2 : Int) ≤ (kd : Int) := by omega
  have ha2 : (kd : Int) ≤ 4 := by omega
  go_wp2_with (first
    | (go_at_call 13; (with_reducible refine (HKI.out _ (Below.refl _ _)).mono ?_); rintro e w1 ⟨rfl, hb1⟩; have HC1 := Lib.hid (HC.out.over hb1); have HE1 := Lib.hid (HE.out.chg (Chg.below 9 c hb1) (by omega)); have HBD1 := Lib.hid (HBD.out.chg (Chg.below 9 c hb1) (by omega)); have HX := Lib.hid (con_ready (ty := 47) HC1.out (by omega) k); clear hb1)
    | (at_builtin; refine wpList_append_ex rfl (.tmp 41) (.tmp 47) 47 rfl _ HX.out ?_; rintro v3 w3 ⟨b3, n3, c3, rfl, cl3, hn3, hh3, hk3⟩; (obtain rfl : n3 = cn + 1 := hn3.trans HFL.out); have HH3 := Lib.hid hh3; have HE3 := Lib.hid (HE1.out.keepc hk3 (by omega)); have HBD3 := Lib.hid (HBD1.out.keepc hk3 (by omega)); have HX3 := Lib.hid (end_ready (ty := 97) HH3.out (by omega) rfl HE3.out HBD3.out); clear hh3 hk3 hn3)
    | (at_builtin; refine wpList_append_ex rfl (.tmp 49) (.tmp 50) 97 rfl _ HX3.out ?_; rintro v4 w4 ⟨b4, n4, c4, rfl, cl4, hn4, hh4, he4, hb4⟩; (obtain rfl : n4 = cn + 1 := hn4); have HH4 := Lib.hid hh4; have HE4 := Lib.hid he4; have HBD4 := Lib.hid hb4; have HX4 := Lib.hid (lev_ready (ty := 96) HH4.out HFL.out (by omega)); clear hh4 he4 hb4)
    | (at_builtin; refine wpList_append_ex rfl (.tmp 52) (.tmp 53) 96 rfl _ HX4.out ?_; rintro v5 w5 ⟨b5, n5, c5, rfl, cl5, hn5, hh5, hk5⟩; (obtain rfl : n5 = cn + 1 + 1 := (by rw [hn5, HFL.out])); have HH5 := Lib.hid hh5; have HK5 := Lib.hid (KeepC.trans ((Chg.below 0 cl4 ((Below.refl w4.heap.size w4).alloc (Nat.le_refl _) (.cells #[.slice none 0 0] 47))).keepc (by omega) (by omega)) hk5); clear hh5 hk5 hn5))
  go_roundw
  case rel => exact ⟨k + 1, by go_num, hlt, by rw [HSN.out, show 2 * (k + 1) = 2 * k + 2 from by omega]; exact rb_begin h24 HF.out (by rw [HFL.out]) HH5.out (HE4.out.keepc HK5.out (by omega)) ⟨_, _, rfl⟩ (HBD4.out.keepc HK5.out (by omega)) ⟨_, _, rfl⟩ HBN.out⟩
  case measure => simp [intOf]; omega

end Go.Proofs.YtlnlpahmfpjjdaaDoor
