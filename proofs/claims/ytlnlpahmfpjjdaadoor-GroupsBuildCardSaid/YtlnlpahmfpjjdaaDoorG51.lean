/-
  Texts of the proof, put together: GdPC, GdPD, GdPE.
-/
import Derived.Test.YtlnlpahmfpjjdaaDoorG49
import Derived.Test.YtlnlpahmfpjjdaaDoorG48
import Derived.Test.YtlnlpahmfpjjdaaDoorG34
import Derived.Test.YtlnlpahmfpjjdaaDoorG07
import Derived.Deep.LoopGhost
import Derived.IntWalk

/-
  The document's Build, walked: case C.
-/
namespace Go.Proofs.YtlnlpahmfpjjdaaDoor
open Go.RowKit

set_option maxRecDepth 100000 in
set_option maxHeartbeats 102400000 in
theorem rbuild_C : rbuild_at.2.2.1 := by
  intro lines w lc0 hlc2 n hn hlc1 HLN K HRK HK HS0 K0 hK0 wr u9 u10 u11 u19 u20 u21 u22 u23 u24 u25 u26 u27 u28 u29 u30 u31 u32 u33 u34 u35 u36 u37 u38 u39 u40 u41 u42 u43 u44 u45 u46 u47 u48 u49 u50 u51 u52 u53 u54 u55 u56 u57 u58 u59 u60 u61 u62 u63 u64 u65 u66 u67 u68 u69 u70 u71 u72 u73 u74 u75 u76 u77 u78 u79 u80 u81 u82 u83 u84 u85 u86 u87 u88 u89 u90 u91 u92 u93 u94 u95 u96 u97 u98 u99 u100 u101 u102 u103 u104 u105 u106 u107 u108 u109 u110 u111 u112 u113 u114 u115 u116 u117 u118 u119 u120 u121 u122 u123 u124 u125 u126 u127 u128 u129 u130 u131 u132 u133 u134 u135 u136 u137 u138 u139 u140 u141 u142 u143 u144 u145 u146 u147 u148 u149 u150 u151 u152 u153 u154 u155 u156 u157 u158 u159 u160 u161 u162 u163 u164 u165 u166 u167 u168 u169 u170 u171 u172 u173 u174 u175 u176 u177 u178 u179 u180 k hk hlt ln g HLA HL hg ta tn tc s T kd HSN HFI c F la lc ca cn cc ea ec ba bn bc HB HC HF HE HBD HBN e0 HKI hkI hk0 HM HFL hdk hfew hll1 hll2 hcc1 hcc2 HTN HKD HTT h0
  subst h0
  by_cases hT0 : T = []
  · have htn0 : tn = 0 := by rw [HTN.out, hT0]; rfl
    subst htn0
    have HTZ := Lib.hid hT0
    clear hT0
    go_wp2_with (first
      | (go_at_call 13; (with_reducible refine (HKI.out _ (Below.refl _ _)).mono ?_); rintro e w1 ⟨rfl, hb1⟩; have HC1 := Lib.hid (HC.out.over hb1); have HE1 := Lib.hid (HE.out.chg (Chg.below 9 c hb1) (by omega)); have HBD1 := Lib.hid (HBD.out.chg (Chg.below 9 c hb1) (by omega)); have e1 := bcell hb1 e0 (block_lt_of_cell e0); clear hb1))
    go_roundw
    case rel => exact ⟨k + 1, by go_num, hlt, by
      rw [HSN.out, show 2 * (k + 1) = 2 * k + 2 from by omega, none_step (by simpa using HTZ.out)]
      exact ⟨c, F, la, lc, ca, cn, cc, ea, ec, ba, bn, bc, by rw [HFL.out], rfl, rfl, rfl, HC1.out.more.more, HF.out, HE1.out, HBD1.out, by have := HBN.out; omega⟩⟩
    case measure => simp [intOf]; omega
  · have hpos : (0 : Int) < (tn : Int) := by have h1 := HTN.out; have h2 := List.length_pos_iff.2 hT0; omega
    obtain ⟨X, f, x, hFX, Ls, hLs, hXL⟩ := top_one HF.out
    subst hFX
    have HLS := Lib.hid hLs
    have HXL := Lib.hid hXL
    have HXN : Hid (X.length = cn) := Lib.hid (by have h := HFL.out; simp at h; omega)
    clear hLs hXL
    go_wp2_with (first
      | (go_at_call 13; (with_reducible refine (HKI.out _ (Below.refl _ _)).mono ?_); rintro e w1 ⟨rfl, hb1⟩; have HC1 := Lib.hid (HC.out.over hb1); have HE1 := Lib.hid (HE.out.chg (Chg.below 9 c hb1) (by omega)); have HBD1 := Lib.hid (HBD.out.chg (Chg.below 9 c hb1) (by omega)); have HX := Lib.hid (item_ready (ty := 47) HC1.out (by omega) 0 k); have hr1 := HC1.out.lcell (j := cn) (p := (f, x)) (by rw [List.getElem?_append_right (by rw [HXN.out]; omega), HXN.out, Nat.sub_self]; rfl); (have r1 : w1.cell? ⟨la, cn, none⟩ = some (.slice x.ia x.im x.ic) := hr1); have e1 := bcell hb1 e0 (block_lt_of_cell e0); have HLT := Lib.hid HC1.out.llt; clear hb1 hr1)
      | (at_builtin; refine wpList_append_ex rfl (.tmp 174) (.tmp 178) 47 rfl _ HX.out ?_; rintro v3 w3 ⟨b3, n3, c3, rfl, hp3⟩; have HP3 := Lib.hid hp3; (obtain ⟨cl3, -, hs3, -⟩ := hp3); (have r3 : w3.cell? ⟨la, cn, none⟩ = some (.slice x.ia x.im x.ic) := (World.cell?_of_block (hs3.block la (by simp; have := HLT.out.1; omega) (by rw [HLT.out.2.2]; omega))).trans (by rw [World.cell?_alloc_past _ _ _ HLT.out.1]; exact r1)); (have z3 : w3.frozen? ⟨la, cn, none⟩ = false := own_freeX ((HC1.out.lev.chg (Chg.below 9 c ((Below.refl _ _).alloc (Nat.le_refl _) _)) (by omega)).chg hs3 (by omega)).1 _); clear hs3))
    go_roundw
    case rel => exact ⟨k + 1, by go_num, hlt, by rw [HSN.out, show 2 * (k + 1) = 2 * k + 2 from by omega, item_step (by omega) (.inr (by simpa using hT0))]; exact rb_item (HC1.out.over ((Below.refl _ _).alloc (Nat.le_refl _) _)) HP3.out HLS.out HXL.out HXN.out rfl (HE1.out.chg (Chg.below 9 c ((Below.refl _ _).alloc (Nat.le_refl _) _)) (by omega)) ⟨_, _, rfl⟩ (HBD1.out.chg (Chg.below 9 c ((Below.refl _ _).alloc (Nat.le_refl _) _)) (by omega)) ⟨_, _, rfl⟩ HBN.out⟩
    case measure => simp [intOf]; omega

end Go.Proofs.YtlnlpahmfpjjdaaDoor

/-
  The document's Build, walked: case D.
-/
namespace Go.Proofs.YtlnlpahmfpjjdaaDoor
open Go.RowKit

set_option maxRecDepth 100000 in
set_option maxHeartbeats 102400000 in
theorem rbuild_D : rbuild_at.2.2.2.1 := by
  intro lines w lc0 hlc2 n hn hlc1 HLN K HRK HK HS0 K0 hK0 wr u9 u10 u11 u19 u20 u21 u22 u23 u24 u25 u26 u27 u28 u29 u30 u31 u32 u33 u34 u35 u36 u37 u38 u39 u40 u41 u42 u43 u44 u45 u46 u47 u48 u49 u50 u51 u52 u53 u54 u55 u56 u57 u58 u59 u60 u61 u62 u63 u64 u65 u66 u67 u68 u69 u70 u71 u72 u73 u74 u75 u76 u77 u78 u79 u80 u81 u82 u83 u84 u85 u86 u87 u88 u89 u90 u91 u92 u93 u94 u95 u96 u97 u98 u99 u100 u101 u102 u103 u104 u105 u106 u107 u108 u109 u110 u111 u112 u113 u114 u115 u116 u117 u118 u119 u120 u121 u122 u123 u124 u125 u126 u127 u128 u129 u130 u131 u132 u133 u134 u135 u136 u137 u138 u139 u140 u141 u142 u143 u144 u145 u146 u147 u148 u149 u150 u151 u152 u153 u154 u155 u156 u157 u158 u159 u160 u161 u162 u163 u164 u165 u166 u167 u168 u169 u170 u171 u172 u173 u174 u175 u176 u177 u178 u179 u180 k hk hlt ln g HLA HL hg ta tn tc s T kd HSN HFI c F la lc ca cn cc ea ec ba bn bc HB HC HF HE HBD HBN e0 HKI hkI hk0 HM HFL hdk hfew hll1 hll2 hcc1 hcc2 HTN HKD HTT h1
  subst h1
  obtain ⟨X, f, x, hFX, Ls, hLs, hXL⟩ := top_one HF.out
  subst hFX
  have HLS := Lib.hid hLs
  have HXL := Lib.hid hXL
  have HXN : Hid (X.length = cn) := Lib.hid (by have h := HFL.out; simp at h; omega)
  clear hLs hXL
  go_wp2_with (first
    | (go_at_call 13; (with_reducible refine (HKI.out _ (Below.refl _ _)).mono ?_); rintro e w1 ⟨rfl, hb1⟩; have HC1 := Lib.hid (HC.out.over hb1); have HE1 := Lib.hid (HE.out.chg (Chg.below 9 c hb1) (by omega)); have HBD1 := Lib.hid (HBD.out.chg (Chg.below 9 c hb1) (by omega)); have HX := Lib.hid (item_ready (ty := 47) HC1.out (by omega) 1 k); have hr1 := HC1.out.lcell (j := cn) (p := (f, x)) (by rw [List.getElem?_append_right (by rw [HXN.out]; omega), HXN.out, Nat.sub_self]; rfl); (have r1 : w1.cell? ⟨la, cn, none⟩ = some (.slice x.ia x.im x.ic) := hr1); have e1 := bcell hb1 e0 (block_lt_of_cell e0); have HLT := Lib.hid HC1.out.llt; clear hb1 hr1)
    | (at_builtin; refine wpList_append_ex rfl (.tmp 174) (.tmp 178) 47 rfl _ HX.out ?_; rintro v3 w3 ⟨b3, n3, c3, rfl, hp3⟩; have HP3 := Lib.hid hp3; (obtain ⟨cl3, -, hs3, -⟩ := hp3); (have r3 : w3.cell? ⟨la, cn, none⟩ = some (.slice x.ia x.im x.ic) := (World.cell?_of_block (hs3.block la (by simp; have := HLT.out.1; omega) (by rw [HLT.out.2.2]; omega))).trans (by rw [World.cell?_alloc_past _ _ _ HLT.out.1]; exact r1)); (have z3 : w3.frozen? ⟨la, cn, none⟩ = false := own_freeX ((HC1.out.lev.chg (Chg.below 9 c ((Below.refl _ _).alloc (Nat.le_refl _) _)) (by omega)).chg hs3 (by omega)).1 _); clear hs3))
  go_roundw
  case rel => exact ⟨k + 1, by go_num, hlt, by rw [HSN.out, show 2 * (k + 1) = 2 * k + 2 from by omega, item_step (by omega) (.inl (by omega))]; exact rb_item (HC1.out.over ((Below.refl _ _).alloc (Nat.le_refl _) _)) HP3.out HLS.out HXL.out HXN.out rfl (HE1.out.chg (Chg.below 9 c ((Below.refl _ _).alloc (Nat.le_refl _) _)) (by omega)) ⟨_, _, rfl⟩ (HBD1.out.chg (Chg.below 9 c ((Below.refl _ _).alloc (Nat.le_refl _) _)) (by omega)) ⟨_, _, rfl⟩ HBN.out⟩
  case measure => simp [intOf]; omega

end Go.Proofs.YtlnlpahmfpjjdaaDoor

/-
  The document's Build, walked: case E.
-/
namespace Go.Proofs.YtlnlpahmfpjjdaaDoor
open Go.RowKit

set_option maxRecDepth 100000 in
set_option maxHeartbeats 102400000 in
theorem rbuild_E : rbuild_at.2.2.2.2.1 := by
  intro lines w lc0 hlc2 n hn hlc1 HLN K HRK HK HS0 K0 hK0 wr u9 u10 u11 u19 u20 u21 u22 u23 u24 u25 u26 u27 u28 u29 u30 u31 u32 u33 u34 u35 u36 u37 u38 u39 u40 u41 u42 u43 u44 u45 u46 u47 u48 u49 u50 u51 u52 u53 u54 u55 u56 u57 u58 u59 u60 u61 u62 u63 u64 u65 u66 u67 u68 u69 u70 u71 u72 u73 u74 u75 u76 u77 u78 u79 u80 u81 u82 u83 u84 u85 u86 u87 u88 u89 u90 u91 u92 u93 u94 u95 u96 u97 u98 u99 u100 u101 u102 u103 u104 u105 u106 u107 u108 u109 u110 u111 u112 u113 u114 u115 u116 u117 u118 u119 u120 u121 u122 u123 u124 u125 u126 u127 u128 u129 u130 u131 u132 u133 u134 u135 u136 u137 u138 u139 u140 u141 u142 u143 u144 u145 u146 u147 u148 u149 u150 u151 u152 u153 u154 u155 u156 u157 u158 u159 u160 u161 u162 u163 u164 u165 u166 u167 u168 u169 u170 u171 u172 u173 u174 u175 u176 u177 u178 u179 u180 k hk hlt ln g HLA HL hg ta tn tc s T kd HSN HFI c F la lc ca cn cc ea ec ba bn bc HB HC HF HE HBD HBN e0 HKI hkI hk0 HM HFL hdk hfew hll1 hll2 hcc1 hcc2 HTN HKD HTT h8
  have ha1 : (8 : Int) ≤ (kd : Int) := by omega
  have ha2 : ((kd : Int) != 0) = true := by simp; omega
  have ha4 : decide ((kd : Int) ≤ 4) = false := by simp; omega
  have ha7 : decide ((kd : Int) ≤ 7) = false := by simp; omega
  have hb5 : ((kd : Int) == 5) = false := by simp; omega
  have hb6 : ((kd : Int) == 6) = false := by simp; omega
  have hb7 : ((kd : Int) == 7) = false := by simp; omega
  obtain ⟨X, f, x, hFX, Ls, hLs, hXL⟩ := top_one HF.out
  subst hFX
  have HLS := Lib.hid hLs
  have HXL := Lib.hid hXL
  have HXN : Hid (X.length = cn) := Lib.hid (by have h := HFL.out; simp at h; omega)
  clear hLs hXL
  go_wp2_with (first
    | (go_at_call 13; (with_reducible refine (HKI.out _ (Below.refl _ _)).mono ?_); rintro e w1 ⟨rfl, hb1⟩; have HC1 := Lib.hid (HC.out.over hb1); have HE1 := Lib.hid (HE.out.chg (Chg.below 9 c hb1) (by omega)); have HBD1 := Lib.hid (HBD.out.chg (Chg.below 9 c hb1) (by omega)); have HX := Lib.hid (item_ready (ty := 47) HC1.out (by omega) kd k); have hr1 := HC1.out.lcell (j := cn) (p := (f, x)) (by rw [List.getElem?_append_right (by rw [HXN.out]; omega), HXN.out, Nat.sub_self]; rfl); (have r1 : w1.cell? ⟨la, cn, none⟩ = some (.slice x.ia x.im x.ic) := hr1); have e1 := bcell hb1 e0 (block_lt_of_cell e0); have HLT := Lib.hid HC1.out.llt; clear hb1 hr1)
    | (at_builtin; refine wpList_append_ex rfl (.tmp 174) (.tmp 178) 47 rfl _ HX.out ?_; rintro v3 w3 ⟨b3, n3, c3, rfl, hp3⟩; have HP3 := Lib.hid hp3; (obtain ⟨cl3, -, hs3, -⟩ := hp3); (have r3 : w3.cell? ⟨la, cn, none⟩ = some (.slice x.ia x.im x.ic) := (World.cell?_of_block (hs3.block la (by simp; have := HLT.out.1; omega) (by rw [HLT.out.2.2]; omega))).trans (by rw [World.cell?_alloc_past _ _ _ HLT.out.1]; exact r1)); (have z3 : w3.frozen? ⟨la, cn, none⟩ = false := own_freeX ((HC1.out.lev.chg (Chg.below 9 c ((Below.refl _ _).alloc (Nat.le_refl _) _)) (by omega)).chg hs3 (by omega)).1 _); clear hs3))
  go_roundw
  case rel => exact ⟨k + 1, by go_num, hlt, by rw [HSN.out, show 2 * (k + 1) = 2 * k + 2 from by omega, item_step (by omega) (.inl (by omega))]; exact rb_item (HC1.out.over ((Below.refl _ _).alloc (Nat.le_refl _) _)) HP3.out HLS.out HXL.out HXN.out rfl (HE1.out.chg (Chg.below 9 c ((Below.refl _ _).alloc (Nat.le_refl _) _)) (by omega)) ⟨_, _, rfl⟩ (HBD1.out.chg (Chg.below 9 c ((Below.refl _ _).alloc (Nat.le_refl _) _)) (by omega)) ⟨_, _, rfl⟩ HBN.out⟩
  case measure => simp [intOf]; omega

end Go.Proofs.YtlnlpahmfpjjdaaDoor
