/-
  Texts of the proof, put together: GdPB.
-/
import Derived.Test.YtlnlpahmfpjjdaaDoorG49
import Derived.Test.YtlnlpahmfpjjdaaDoorG48
import Derived.Test.YtlnlpahmfpjjdaaDoorG34
import Derived.Test.YtlnlpahmfpjjdaaDoorG07
import Derived.Deep.LoopGhost
import Derived.IntWalk

/-
  The document's Build, walked: case B.
-/
namespace Go.Proofs.YtlnlpahmfpjjdaaDoor
open Go.RowKit

set_option maxRecDepth 100000 in
set_option maxHeartbeats 102400000 in
theorem rbuild_B : rbuild_at.2.1 := by
  intro lines w lc0 hlc2 n hn hlc1 HLN K HRK HK HS0 K0 hK0 wr u9 u10 u11 u19 u20 u21 u22 u23 u24 u25 u26 u27 u28 u29 u30 u31 u32 u33 u34 u35 u36 u37 u38 u39 u40 u41 u42 u43 u44 u45 u46 u47 u48 u49 u50 u51 u52 u53 u54 u55 u56 u57 u58 u59 u60 u61 u62 u63 u64 u65 u66 u67 u68 u69 u70 u71 u72 u73 u74 u75 u76 u77 u78 u79 u80 u81 u82 u83 u84 u85 u86 u87 u88 u89 u90 u91 u92 u93 u94 u95 u96 u97 u98 u99 u100 u101 u102 u103 u104 u105 u106 u107 u108 u109 u110 u111 u112 u113 u114 u115 u116 u117 u118 u119 u120 u121 u122 u123 u124 u125 u126 u127 u128 u129 u130 u131 u132 u133 u134 u135 u136 u137 u138 u139 u140 u141 u142 u143 u144 u145 u146 u147 u148 u149 u150 u151 u152 u153 u154 u155 u156 u157 u158 u159 u160 u161 u162 u163 u164 u165 u166 u167 u168 u169 u170 u171 u172 u173 u174 u175 u176 u177 u178 u179 u180 k hk hlt ln g HLA HL hg ta tn tc s T kd HSN HFI c F la lc ca cn cc ea ec ba bn bc HB HC HF HE HBD HBN e0 HKI hkI hk0 HM HFL hdk hfew hll1 hll2 hcc1 hcc2 HTN HKD HTT h57
  by_cases hc0 : cn = 0
  · subst hc0
    have ha1 : (5 : Int) ≤ (kd : Int) := by omega
    have ha2 : (kd : Int) ≤ 7 := by omega
    have ha4 : decide ((kd : Int) ≤ 4) = false := by simp; omega
    have HNIL : Hid (s.st = []) := Lib.hid (List.eq_nil_of_length_eq_zero HM.out)
    go_wp2_with (first
      | (go_at_call 13; (with_reducible refine (HKI.out _ (Below.refl _ _)).mono ?_); rintro e w1 ⟨rfl, hb1⟩; have HC1 := Lib.hid (HC.out.over hb1); have HE1 := Lib.hid (HE.out.chg (Chg.below 9 c hb1) (by omega)); have HBD1 := Lib.hid (HBD.out.chg (Chg.below 9 c hb1) (by omega)); have HX := Lib.hid (bad_ready (ty := 54) HC1.out HFL.out (by omega) HF.out HE1.out rfl HBD1.out HBN.out k); clear hb1)
      | (at_builtin; refine wpList_append_ex rfl (.tmp 67) (.tmp 69) 54 rfl _ HX.out ?_; rintro v3 w3 ⟨b3, n3, c3, rfl, hp3⟩; have HP3 := Lib.hid hp3; clear hp3))
    go_roundw
    case rel => exact ⟨k + 1, by go_num, hlt, by rw [HSN.out, show 2 * (k + 1) = 2 * k + 2 from by omega, bad_step1 h57 HNIL.out]; exact HP3.out⟩
    case measure => simp [intOf]; omega
  · obtain ⟨q, rfl⟩ : ∃ q, cn = q + 1 := ⟨cn - 1, by omega⟩
    obtain ⟨f, r, hsf⟩ := (st_cases s).resolve_left (fun e => by have h := HM.out; rw [e] at h; simp at h)
    have HSF := Lib.hid hsf
    obtain ⟨eg, rfl, u1, u2, u3, u4, u5, u6, u7⟩ := end_cell HE.out hsf
    obtain ⟨F1, gf, y, x, hFe, hF1, hFX⟩ := tops HF.out hsf (by rw [HFL.out])
    subst hFe
    have HF1 := Lib.hid hF1
    have HFX := Lib.hid hFX
    have HU := Lib.hid (And.intro u6 u7)
    unfold maxLen at u4
    have hq0 : ((q : Int) + 1 == 0) = false := by simp; omega
    clear hc0 hsf hF1 hFX u6 u7
    have hk57 : kd = 5 ∨ kd = 6 ∨ kd = 7 := by omega
    rcases hk57 with rfl | rfl | rfl
    · by_cases hen : f.en = true
      · rw [hen] at u1
        have HEN := Lib.hid hen
        clear hen
        go_wp2_with (first
          | (go_at_call 13; (with_reducible refine (HKI.out _ (Below.refl _ _)).mono ?_); rintro e w1 ⟨rfl, hb1⟩; have HC1 := Lib.hid (HC.out.over hb1); have HE1 := Lib.hid (HE.out.chg (Chg.below 9 c hb1) (by omega)); have HBD1 := Lib.hid (HBD.out.chg (Chg.below 9 c hb1) (by omega)); have HX := Lib.hid (bad_ready (ty := 54) HC1.out HFL.out (by omega) HF.out HE1.out rfl HBD1.out HBN.out k); have v1 := bcell hb1 u1 u5; clear hb1)
          | (at_builtin; refine wpList_append_ex rfl (.tmp 86) (.tmp 88) 54 rfl _ HX.out ?_; rintro v3 w3 ⟨b3, n3, c3, rfl, hp3⟩; have HP3 := Lib.hid hp3; clear hp3))
        go_roundw
        case rel => exact ⟨k + 1, by go_num, hlt, by rw [HSN.out, show 2 * (k + 1) = 2 * k + 2 from by omega, bad_step2 (by omega) HSF.out HEN.out]; exact HP3.out⟩
        case measure => simp [intOf]; omega
      · have hen' : f.en = false := by simpa using hen
        rw [hen'] at u1
        have HEN := Lib.hid hen'
        clear hen hen'
        obtain ⟨cg, rfl, hcgl, -, -, -, k0, k1, k2⟩ := HC.out.ccell (X := F1 ++ [(gf, y)]) (by simp)
        have HX1 : Hid ((F1 ++ [(gf, y)]).length = q + 1) := Lib.hid (by rw [List.length_append, HF1.out]; rfl)
        have hfx := HC.out.fr (F0 := F1 ++ [(gf, y)]) (F1 := []) rfl
        rw [HX1.out] at hfx
        obtain ⟨ha1, ha2, hab⟩ := hfx.acap (by omega)
        have HFX2 := Lib.hid hfx
        rw [HX1.out, Nat.add_sub_cancel] at k0 k1 k2
        have l1 : wr.cell? ⟨la, q + 1, none⟩ = some (.slice x.ia x.im x.ic) := HC.out.lcell (p := (f, x)) (by rw [List.getElem?_append_right (by rw [HX1.out]; omega), HX1.out, Nat.sub_self]; rfl)
        obtain ⟨ka, hka⟩ : ∃ ka, x.A.length = ka := ⟨_, rfl⟩
        have HKA := Lib.hid hka
        rw [hka] at ha1 k2
        have HCELL : Hid (∀ X : World, Below wr.heap.size wr X → X.cell? ⟨cg, q * 3, none⟩ = some (.int .i64 2) ∧ X.cell? ⟨cg, q * 3 + 1, none⟩ = some (.int .i64 (f.ln : Int)) ∧ X.cell? ⟨cg, q * 3 + 2, none⟩ = some (.slice (some ⟨x.ab, 0, none⟩) (ka + 1) x.ac) ∧ X.cell? ⟨la, q + 1, none⟩ = some (.slice x.ia x.im x.ic) ∧ X.cell? ⟨eg, q, none⟩ = some (.bool false)) := Lib.hid (fun X b => ⟨bcell b k0 hcgl, bcell b k1 hcgl, bcell b k2 hcgl, bcell b l1 HC.out.llt.1, bcell b u1 u5⟩)
        unfold maxLen at ha2
        clear hfx hka k0 k1 k2 l1 u1 u2
        go_wp2_with (first
          | (go_at_call 13; (with_reducible refine (HKI.out _ (Below.refl _ _)).mono ?_); rintro e w1 ⟨rfl, hb1⟩; have HC1 := Lib.hid (HC.out.over hb1); have HE1 := Lib.hid (HE.out.chg (Chg.below 9 c hb1) (by omega)); have HBD1 := Lib.hid (HBD.out.chg (Chg.below 9 c hb1) (by omega)); have HB1 := Lib.hid hb1; (obtain ⟨k0, k1, k2, -, v1⟩ := HCELL.out _ hb1); (obtain ⟨bx, hbx⟩ : ∃ bx, w1.heap.size = bx := ⟨_, rfl⟩); have HBX := Lib.hid hbx; (have HBA : Hid (Below w1.heap.size w1 (w1.alloc (.cells #[.int .i64 2, .int .i64 (f.ln : Int), .slice (some ⟨x.ab, 0, none⟩) (ka + 1) x.ac] 102))) := Lib.hid ((Below.refl _ _).alloc (Nat.le_refl _) _)); (have HXB : Hid ((w1.alloc (.cells #[.int .i64 2, .int .i64 (f.ln : Int), .slice (some ⟨x.ab, 0, none⟩) (ka + 1) x.ac] 102)).heap[bx]? = some (.cells #[.int .i64 2, .int .i64 (f.ln : Int), .slice (some ⟨x.ab, 0, none⟩) (ka + 1) x.ac] 102 (0, 0))) := Lib.hid (hbx ▸ heap_alloc_new w1 _)); (have HXS : Hid ((w1.alloc (.cells #[.int .i64 2, .int .i64 (f.ln : Int), .slice (some ⟨x.ab, 0, none⟩) (ka + 1) x.ac] 102)).heap.size = bx + 1) := Lib.hid (by rw [World.size_alloc, hbx])); (have HCP : Hid (∃ v' w', (Builtin.append_ #[100, 100] 100 #[.slice (some ⟨bx + 1, 0, none⟩) 0 0, .slice (some ⟨x.ab, 0, none⟩) (ka + 1) x.ac]).run Tryd.prog ((w1.alloc (.cells #[.int .i64 2, .int .i64 (f.ln : Int), .slice (some ⟨x.ab, 0, none⟩) (ka + 1) x.ac] 102)).alloc (.cells #[] 99)) = .ok v' w' ∧ ∃ b n cap, v' = .slice (some ⟨b, 0, none⟩) n cap ∧ Copied w.heap.size x.A (f.la : Int) (.slice none 0 0) (w1.alloc (.cells #[.int .i64 2, .int .i64 (f.ln : Int), .slice (some ⟨x.ab, 0, none⟩) (ka + 1) x.ac] 102)) b n cap w') := Lib.hid (by
              have hf1 := HC1.out.fr (F0 := F1 ++ [(gf, y)]) (F1 := []) rfl
              have harm := hf1.arm (by rw [HX1.out]; omega)
              have h := as_value ((harm.chg (Chg.below 0 c HBA.out) (by omega) (by omega)).copy (ty := 100) (by have := hf1.fa; omega) rfl (arm_one harm) (by have h1 := HC1.out.bel.size; have h2 := HXS.out; omega))
              rw [HXS.out, HKA.out] at h
              exact h)); clear hb1)
          | (at_builtin; refine wpList_append_ex rfl (.tmp 103) (.tmp 105) 100 rfl _ HCP.out ?_; rintro v' w3 ⟨b, nn, cap, rfl, hn, hbl, hb3, hrow⟩; (obtain rfl : nn = ka + 1 := (by rw [hn, HKA.out])); have HBL := Lib.hid hbl; have HB3 := Lib.hid hb3; have HROW := Lib.hid hrow; (have hX3 := (hb3.block bx (by rw [HXS.out]; omega)).trans HXB.out); (have y2 : w3.cell? ⟨bx, 2, none⟩ = some (.slice (some ⟨x.ab, 0, none⟩) (ka + 1) x.ac) := (by rw [Lib.cell_of_heap hX3]; rfl)); (have z2 : w3.frozen? ⟨bx, 2, none⟩ = false := frozen_of_row w3 bx 2 _ _ hX3); have HX3 := Lib.hid hX3; clear hbl hb3 hrow hX3 hn))
        clear y2 z2 k0 k1 k2 v1
        have hbne : b ≠ bx := by have h1 := HBL.out; have h2 := HXS.out; omega
        have HBB : Hid (bx < b) := Lib.hid (by have h1 := HBL.out; have h2 := HXS.out; omega)
        obtain ⟨w4, hw4⟩ : ∃ w4, w3.setCell ⟨bx, 2, none⟩ (.slice (some ⟨b, 0, none⟩) (ka + 1) cap) = w4 := ⟨_, rfl⟩
        have hX4 : w4.heap[bx]? = some (.cells #[.int .i64 2, .int .i64 (f.ln : Int), .slice (some ⟨b, 0, none⟩) (ka + 1) cap] 102 (0, 0)) := hw4 ▸ heap_setCell_same w3 bx 2 _ _ _ HX3.out
        have hrow4 : w4.ownsRow w.heap.size 99 2 (.slice (some ⟨b, 0, none⟩) (ka + 1) cap) (ka + 1) (acells x.A ++ [.int .i64 (f.la : Int), .slice none 0 0]) := by
          rw [← hw4]
          exact own_of_block HROW.out fun g' hg' => by
            simp only [Value.ownBlock, Option.some.injEq] at hg'
            subst hg'
            exact heap_setCell_other _ _ _ _ hbne
        have hB4 : Below w1.heap.size w1 w4 := by
          rw [← hw4]
          exact (HBA.out.trans (HB3.out.mono HBA.out.size)).setCell (by show w1.heap.size ≤ bx; rw [HBX.out]; exact Nat.le_refl _) _
        rw [hw4]
        clear hw4
        obtain ⟨wd, hwd⟩ : ∃ wd, w4.drew = wd := ⟨_, rfl⟩
        have hXd : wd.heap[bx]? = some (.cells #[.int .i64 2, .int .i64 (f.ln : Int), .slice (some ⟨b, 0, none⟩) (ka + 1) cap] 102 (0, 0)) := hwd ▸ hX4
        have hrowd : wd.ownsRow w.heap.size 99 2 (.slice (some ⟨b, 0, none⟩) (ka + 1) cap) (ka + 1) (acells x.A ++ [.int .i64 (f.la : Int), .slice none 0 0]) := hwd ▸ World.ownsRow.drew hrow4
        have hBd : Below w1.heap.size w1 wd := hwd ▸ hB4.drew
        have HXD := Lib.hid hXd
        have HRD := Lib.hid hrowd
        have HBDD := Lib.hid hBd
        obtain ⟨ra, rcap, hrv, hr1, hr2, -⟩ := row_form hrowd
        simp only [Value.slice.injEq, true_and] at hrv
        obtain ⟨-, rfl⟩ := hrv
        unfold maxLen at hr2
        have s0 : wd.cell? ⟨b, ka * 2 + 1, none⟩ = some (.slice none 0 0) := by
          rw [hrowd.cellAt (ka * 2 + 1) (by omega), List.getElem?_append_right (by rw [acells_len, HKA.out]; omega), acells_len, HKA.out, show ka * 2 + 1 - ka * 2 = 1 from by omega]
          rfl
        have s1 : wd.frozen? ⟨b, ka * 2 + 1, none⟩ = false := own_freeX hrowd _
        have HSW : wd.cell? ⟨bx, 2, none⟩ = some (.slice (some ⟨b, 0, none⟩) (ka + 1) cap) ∧ wd.cell? ⟨la, q + 1, none⟩ = some (.slice x.ia x.im x.ic) := ⟨by rw [Lib.cell_of_heap hXd]; rfl, (HCELL.out _ (below_up HB1.out hBd)).2.2.2.1⟩
        have p0 : IntKind.i64.wrap (ka : Int) = (ka : Int) := IntWalk.i64_in _ (by omega)
        have p1 : (0 : Int) ≤ (ka : Int) := by omega
        have p2 : IntKind.i64.wrap ((q : Int) + 1) = (q : Int) + 1 := IntWalk.i64_in _ (by omega)
        have p3 : (0 : Int) ≤ (q : Int) + 1 := by omega
        have p4 : ((q : Int) + 1).toNat = q + 1 := by omega
        have p5 : (ka : Int) < (ka : Int) + 1 := by omega
        have p6 : (q : Int) + 1 < (q : Int) + 1 + 1 := by omega
        clear hX4 hrow4 hB4 hXd hrowd hBd
        refine region_anyT (S := fun w' => w'.cell? ⟨bx, 2, none⟩ = some (.slice (some ⟨b, 0, none⟩) (ka + 1) cap) ∧ w'.cell? ⟨la, q + 1, none⟩ = some (.slice x.ia x.im x.ic)) 12 (by kernel_rfl) ?_
        rw [hwd]
        refine anyT_take 0 [1, 10, 11, 12] (v := ?_) rfl (by kernel_rfl) (fun _ _ _ h => h) (Or.inl ⟨by kernel_rfl, ?_⟩) HSW ?_
        rotate_left
        · (intro w hSw; obtain ⟨hs0, hs1⟩ := hSw; go_simp; (try with_reducible rfl))
        (try simp only [Act.put]); (try simp only [List.setIfInBounds_toArray]); (try simp only [List.set_cons_succ]); (try simp only [List.set_cons_zero])
        refine anyT_take 1 [10, 11, 12] (v := ?_) rfl (by kernel_rfl) (fun _ _ _ h => h) (Or.inl ⟨by kernel_rfl, ?_⟩) HSW ?_
        rotate_left
        · (intro w hSw; obtain ⟨hs0, hs1⟩ := hSw; go_simp; (try with_reducible rfl))
        (try simp only [Act.put]); (try simp only [List.setIfInBounds_toArray]); (try simp only [List.set_cons_succ]); (try simp only [List.set_cons_zero])
        refine anyT_take 2 [3, 4, 5, 10, 11, 12] (v := ?_) rfl (by kernel_rfl) (fun _ _ _ h => h) (Or.inl ⟨by kernel_rfl, ?_⟩) HSW ?_
        rotate_left
        · (intro w hSw; obtain ⟨hs0, hs1⟩ := hSw; go_simp; (try with_reducible rfl))
        (try simp only [Act.put]); (try simp only [List.setIfInBounds_toArray]); (try simp only [List.set_cons_succ]); (try simp only [List.set_cons_zero])
        refine anyT_take 3 [4, 5, 10, 11, 12] (v := ?_) rfl (by kernel_rfl) (fun _ _ _ h => h) (Or.inl ⟨by kernel_rfl, ?_⟩) HSW ?_
        rotate_left
        · (intro w hSw; obtain ⟨hs0, hs1⟩ := hSw; go_simp; (try with_reducible rfl))
        (try simp only [Act.put]); (try simp only [List.setIfInBounds_toArray]); (try simp only [List.set_cons_succ]); (try simp only [List.set_cons_zero])
        refine anyT_take 4 [5, 10, 11, 12] (v := ?_) rfl (by kernel_rfl) (fun _ _ _ h => h) (Or.inl ⟨by kernel_rfl, ?_⟩) HSW ?_
        rotate_left
        · (intro w hSw; obtain ⟨hs0, hs1⟩ := hSw; go_simp; (try with_reducible rfl))
        (try simp only [Act.put]); (try simp only [List.setIfInBounds_toArray]); (try simp only [List.set_cons_succ]); (try simp only [List.set_cons_zero])
        refine anyT_take 5 [10, 11, 12] (v := ?_) rfl (by kernel_rfl) (fun _ _ _ h => h) (Or.inl ⟨by kernel_rfl, ?_⟩) HSW ?_
        rotate_left
        · (intro w hSw; obtain ⟨hs0, hs1⟩ := hSw; go_simp; (try with_reducible rfl))
        (try simp only [Act.put]); (try simp only [List.setIfInBounds_toArray]); (try simp only [List.set_cons_succ]); (try simp only [List.set_cons_zero])
        refine anyT_take 6 [8, 9, 10, 11, 12] (v := ?_) rfl (by kernel_rfl) (fun _ _ _ h => h) (Or.inl ⟨by kernel_rfl, ?_⟩) HSW ?_
        rotate_left
        · (intro w hSw; obtain ⟨hs0, hs1⟩ := hSw; go_simp; (try with_reducible rfl))
        (try simp only [Act.put]); (try simp only [List.setIfInBounds_toArray]); (try simp only [List.set_cons_succ]); (try simp only [List.set_cons_zero])
        refine anyT_take 7 [8, 9, 10, 11, 12] (v := ?_) rfl (by kernel_rfl) (fun _ _ _ h => h) (Or.inl ⟨by kernel_rfl, ?_⟩) HSW ?_
        rotate_left
        · (intro w hSw; obtain ⟨hs0, hs1⟩ := hSw; go_simp; (try with_reducible rfl))
        (try simp only [Act.put]); (try simp only [List.setIfInBounds_toArray]); (try simp only [List.set_cons_succ]); (try simp only [List.set_cons_zero])
        refine anyT_take 8 [9, 10, 11, 12] (v := ?_) rfl (by kernel_rfl) (fun _ _ _ h => h) (Or.inl ⟨by kernel_rfl, ?_⟩) HSW ?_
        rotate_left
        · (intro w hSw; obtain ⟨hs0, hs1⟩ := hSw; go_simp; (try with_reducible rfl))
        (try simp only [Act.put]); (try simp only [List.setIfInBounds_toArray]); (try simp only [List.set_cons_succ]); (try simp only [List.set_cons_zero])
        refine anyT_take 9 [10, 11, 12] (v := ?_) rfl (by kernel_rfl) (fun _ _ _ h => h) (Or.inl ⟨by kernel_rfl, ?_⟩) HSW ?_
        rotate_left
        · (intro w hSw; obtain ⟨hs0, hs1⟩ := hSw; go_simp; (try with_reducible rfl))
        (try simp only [Act.put]); (try simp only [List.setIfInBounds_toArray]); (try simp only [List.set_cons_succ]); (try simp only [List.set_cons_zero])
        refine anyT_take 10 [11, 12] (v := ?_) rfl (by kernel_rfl) (fun _ _ _ h => h) (Or.inl ⟨by kernel_rfl, ?_⟩) HSW ?_
        rotate_left
        · (intro w hSw; obtain ⟨hs0, hs1⟩ := hSw; go_simp; (try with_reducible rfl))
        (try simp only [Act.put]); (try simp only [List.setIfInBounds_toArray]); (try simp only [List.set_cons_succ]); (try simp only [List.set_cons_zero])
        refine anyT_take 11 [12] (v := ?_) rfl (by kernel_rfl) (fun _ _ _ h => h) (Or.inl ⟨by kernel_rfl, ?_⟩) HSW ?_
        rotate_left
        · (intro w hSw; obtain ⟨hs0, hs1⟩ := hSw; go_simp; (try with_reducible rfl))
        (try simp only [Act.put]); (try simp only [List.setIfInBounds_toArray]); (try simp only [List.set_cons_succ]); (try simp only [List.set_cons_zero])
        refine anyT_step 12 (by kernel_rfl) rfl (fun K hK => ?_)
        go_simp
        refine hK.out _ _ (fun h => absurd rfl h) ?_
        clear hK K
        (try simp only [Act.put]); (try simp only [List.setIfInBounds_toArray]); (try simp only [List.set_cons_succ]); (try simp only [List.set_cons_zero])
        refine anyT_done (by kernel_rfl) ?_ _
        clear HSW p0 p1 p2 p3 p5 p6 s0 s1 hwd
        obtain ⟨w5, hw5⟩ : ∃ w5, wd.setCell ⟨b, ka * 2 + 1, none⟩ (.slice x.ia x.im x.ic) = w5 := ⟨_, rfl⟩
        have HX5 : Hid (w5.heap[bx]? = some (.cells #[.int .i64 2, .int .i64 (f.ln : Int), .slice (some ⟨b, 0, none⟩) (ka + 1) cap] 102 (0, 0))) := Lib.hid (by rw [← hw5]; exact (heap_setCell_other _ _ _ _ (fun e => hbne e.symm)).trans HXD.out)
        have HB5 : Hid (Below w1.heap.size w1 w5) := Lib.hid (by
          rw [← hw5]
          exact HBDD.out.setCell (by show w1.heap.size ≤ b; have h1 := HBX.out; have h2 := HBB.out; omega) _)
        have HPU : Hid (∃ v' w', (Builtin.append_ #[100, 100] 100 #[.slice (some ⟨b, 0, none⟩) (ka + 1) cap, .slice (some ⟨w5.heap.size, 0, none⟩) 1 1]).run Tryd.prog (w5.alloc (.cells #[.int .i64 (k : Int), .slice none 0 0] 99)) = .ok v' w' ∧ ∃ b6 n cap6, v' = .slice (some ⟨b6, 0, none⟩) n cap6 ∧ PushR w c (2 * k) (F1 ++ [(gf, y)]) f x k bx w1 w5 b6 n cap6 w') := Lib.hid (by
          have h1 := own_setX HRD.out (ka * 2 + 1) (.slice x.ia x.im x.ic)
          rw [List.set_append_right _ _ (by rw [acells_len, HKA.out]; omega), acells_len, HKA.out, show ka * 2 + 1 - ka * 2 = 1 from by omega, hw5] at h1
          have h2 : w5.ownsRow w1.heap.size 99 2 (.slice (some ⟨b, 0, none⟩) (x.A.length + 1) cap) (x.A.length + 1) (acells x.A ++ [.int .i64 (f.la : Int), .slice x.ia x.im x.ic]) := by
            rw [HKA.out]
            obtain ⟨e1, ⟨e2, -⟩ | ⟨g', c', cur, e2, -, e4⟩⟩ := h1
            · cases e2
            · simp only [Value.slice.injEq, Option.some.injEq, Addr.mk.injEq, and_true, true_and] at e2
              exact ⟨e1, .inr ⟨g', c', cur, by simp [e2], by have h3 := HBX.out; have h4 := HBB.out; omega, e4⟩⟩
          have h := arm_push (ty := 100) HC1.out (by simp) (by omega) k HB5.out h2 (by rw [HBX.out]; exact Nat.le_refl _) (row_lt HX5.out) hbne
          rw [HKA.out] at h
          exact h)
        have y5 : w5.cell? ⟨bx, 2, none⟩ = some (.slice (some ⟨b, 0, none⟩) (ka + 1) cap) := by rw [Lib.cell_of_heap HX5.out]; rfl
        rw [hw5]
        clear hw5
        have hn1 : la ≠ cg := fun e => by have h1 := HC1.out.llt.2.2; (obtain ⟨cg', h2, -, -, h3, -⟩ := HC1.out.ccell (X := F1 ++ [(gf, y)]) (by simp)); simp only [Option.some.injEq, Addr.mk.injEq, and_true] at h2; rw [← h2, ← e, h1] at h3; cases h3
        have hn2 : eg ≠ cg := fun e => by have h1 := HE1.out.2 eg rfl; (obtain ⟨cg', h2, -, -, h3, -⟩ := HC1.out.ccell (X := F1 ++ [(gf, y)]) (by simp)); simp only [Option.some.injEq, Addr.mk.injEq, and_true] at h2; rw [← h2, ← e, h1] at h3; cases h3
        have hn3 : eg ≠ la := fun e => by have h1 := HE1.out.2 eg rfl; have h3 := HC1.out.llt.2.2; rw [← e, h1] at h3; cases h3
        have hm1 : cg ≠ la := fun e => hn1 e.symm
        have hm2 : cg ≠ eg := fun e => hn2 e.symm
        have hm3 : la ≠ eg := fun e => hn3 e.symm
        have q0 : (0 : Int) ≤ (q : Int) + 1 := by omega
        have q1 : (q : Int) + 1 < (q : Int) + 1 + 1 := by omega
        go_wp2_with (at_builtin; refine wpList_append_ex rfl (.tmp 121) (.tmp 124) 100 rfl _ HPU.out ?_; rintro v' w6 ⟨b6, n6, cap6, rfl, hn6, hbx6, hbel6, c6, harm6, hcol6, hcbx6⟩; (obtain rfl : n6 = ka + 1 + 1 := (by rw [hn6, HKA.out])); (have hX6 := hbx6.trans HX5.out); (have y6 : w6.cell? ⟨bx, 2, none⟩ = some (.slice (some ⟨b, 0, none⟩) (ka + 1) cap) := (by rw [Lib.cell_of_heap hX6]; rfl)); (have z6 : w6.frozen? ⟨bx, 2, none⟩ = false := frozen_of_row w6 bx 2 _ _ hX6); (obtain ⟨w7, hw7⟩ : ∃ w7, w6.setCell ⟨bx, 2, none⟩ (.slice (some ⟨b6, 0, none⟩) (ka + 1 + 1) cap6) = w7 := ⟨_, rfl⟩); (have hX7 : w7.heap[bx]? = some (.cells #[.int .i64 2, .int .i64 (f.ln : Int), .slice (some ⟨b6, 0, none⟩) (ka + 1 + 1) cap6] 102 (0, 0)) := hw7 ▸ heap_setCell_same w6 bx 2 _ _ _ hX6); (have d0 : w7.cell? ⟨bx, 0, none⟩ = some (.int .i64 2) := (by rw [Lib.cell_of_heap hX7]; rfl)); (have d1 : w7.cell? ⟨bx, 1, none⟩ = some (.int .i64 (f.ln : Int)) := (by rw [Lib.cell_of_heap hX7]; rfl)); (have d2 : w7.cell? ⟨bx, 2, none⟩ = some (.slice (some ⟨b6, 0, none⟩) (ka + 1 + 1) cap6) := (by rw [Lib.cell_of_heap hX7]; rfl)); (have HB7 : Hid (Below w1.heap.size w1 w7) := Lib.hid (by rw [← hw7]; exact hbel6.setCell (by show w1.heap.size ≤ bx; rw [HBX.out]; exact Nat.le_refl _) _)); (have HA7 : Hid (ArmAt c6 w.heap.size 99 (3 * (F1 ++ [(gf, y)]).length + 4) (2 * k) (x.A ++ [(((f.la : Int), f.cu), .slice x.ia x.im x.ic)]) (k : Int) (.slice none 0 0) b6 cap6 w7) := Lib.hid (by
            have s := Chg.set c6 w6 ⟨bx, 2, none⟩ (.slice (some ⟨b6, 0, none⟩) (ka + 1 + 1) cap6)
            rw [hcbx6, hw7] at s
            exact harm6.chg s (by omega) (by omega))); have HCOL := Lib.hid hcol6; (obtain ⟨k0, k1, k2, l7, v7⟩ := HCELL.out _ (below_up HB1.out HB7.out)); (have HC7 := Lib.hid (HC1.out.over HB7.out)); (have fz0 : w7.frozen? ⟨cg, q * 3, none⟩ = false := own_freeX HC7.out.con.1 _); (have fz1 : w7.frozen? ⟨cg, q * 3 + 1, none⟩ = false := own_freeX HC7.out.con.1 _); (have fz2 : w7.frozen? ⟨cg, q * 3 + 2, none⟩ = false := own_freeX HC7.out.con.1 _); (have fz3 : w7.frozen? ⟨la, q + 1, none⟩ = false := own_freeX HC7.out.lev.1 _); (have fz4 : w7.frozen? ⟨eg, q, none⟩ = false := own_freeX (HE1.out.chg (Chg.below 9 c HB7.out) (by omega)).1 _); clear harm6 hcol6 hX6 hX7 hbel6 hbx6 hcbx6 hn6)
        have HAR8 := Lib.hid (HC1.out.arm (by simp) false (below_up HC1.out.bel HB7.out) HA7.out HB7.out HCOL.out)
        go_roundw
        case rel => exact ⟨k + 1, by go_num, hlt, by
          rw [HSN.out, show 2 * (k + 1) = 2 * k + 2 from by omega, arm_step (by omega) HSF.out HEN.out]
          have h1 := HAR8.out
          rw [HX1.out, HKA.out, Nat.add_sub_cancel] at h1
          exact rb_arm HSF.out HFX.out HX1.out rfl h1.1 h1.2 HE1.out HBD1.out ⟨_, _, rfl⟩ HBN.out⟩
        case measure => simp [intOf]; omega
    · by_cases hen : f.en = true
      · rw [hen] at u1
        have HEN := Lib.hid hen
        clear hen
        go_wp2_with (first
          | (go_at_call 13; (with_reducible refine (HKI.out _ (Below.refl _ _)).mono ?_); rintro e w1 ⟨rfl, hb1⟩; have HC1 := Lib.hid (HC.out.over hb1); have HE1 := Lib.hid (HE.out.chg (Chg.below 9 c hb1) (by omega)); have HBD1 := Lib.hid (HBD.out.chg (Chg.below 9 c hb1) (by omega)); have HX := Lib.hid (bad_ready (ty := 54) HC1.out HFL.out (by omega) HF.out HE1.out rfl HBD1.out HBN.out k); have v1 := bcell hb1 u1 u5; clear hb1)
          | (at_builtin; refine wpList_append_ex rfl (.tmp 86) (.tmp 88) 54 rfl _ HX.out ?_; rintro v3 w3 ⟨b3, n3, c3, rfl, hp3⟩; have HP3 := Lib.hid hp3; clear hp3))
        go_roundw
        case rel => exact ⟨k + 1, by go_num, hlt, by rw [HSN.out, show 2 * (k + 1) = 2 * k + 2 from by omega, bad_step2 (by omega) HSF.out HEN.out]; exact HP3.out⟩
        case measure => simp [intOf]; omega
      · have hen' : f.en = false := by simpa using hen
        rw [hen'] at u1
        have HEN := Lib.hid hen'
        clear hen hen'
        obtain ⟨cg, rfl, hcgl, -, -, -, k0, k1, k2⟩ := HC.out.ccell (X := F1 ++ [(gf, y)]) (by simp)
        have HX1 : Hid ((F1 ++ [(gf, y)]).length = q + 1) := Lib.hid (by rw [List.length_append, HF1.out]; rfl)
        have hfx := HC.out.fr (F0 := F1 ++ [(gf, y)]) (F1 := []) rfl
        rw [HX1.out] at hfx
        obtain ⟨ha1, ha2, hab⟩ := hfx.acap (by omega)
        have HFX2 := Lib.hid hfx
        rw [HX1.out, Nat.add_sub_cancel] at k0 k1 k2
        have l1 : wr.cell? ⟨la, q + 1, none⟩ = some (.slice x.ia x.im x.ic) := HC.out.lcell (p := (f, x)) (by rw [List.getElem?_append_right (by rw [HX1.out]; omega), HX1.out, Nat.sub_self]; rfl)
        obtain ⟨ka, hka⟩ : ∃ ka, x.A.length = ka := ⟨_, rfl⟩
        have HKA := Lib.hid hka
        rw [hka] at ha1 k2
        have HCELL : Hid (∀ X : World, Below wr.heap.size wr X → X.cell? ⟨cg, q * 3, none⟩ = some (.int .i64 2) ∧ X.cell? ⟨cg, q * 3 + 1, none⟩ = some (.int .i64 (f.ln : Int)) ∧ X.cell? ⟨cg, q * 3 + 2, none⟩ = some (.slice (some ⟨x.ab, 0, none⟩) (ka + 1) x.ac) ∧ X.cell? ⟨la, q + 1, none⟩ = some (.slice x.ia x.im x.ic) ∧ X.cell? ⟨eg, q, none⟩ = some (.bool false)) := Lib.hid (fun X b => ⟨bcell b k0 hcgl, bcell b k1 hcgl, bcell b k2 hcgl, bcell b l1 HC.out.llt.1, bcell b u1 u5⟩)
        unfold maxLen at ha2
        clear hfx hka k0 k1 k2 l1 u1 u2
        go_wp2_with (first
          | (go_at_call 13; (with_reducible refine (HKI.out _ (Below.refl _ _)).mono ?_); rintro e w1 ⟨rfl, hb1⟩; have HC1 := Lib.hid (HC.out.over hb1); have HE1 := Lib.hid (HE.out.chg (Chg.below 9 c hb1) (by omega)); have HBD1 := Lib.hid (HBD.out.chg (Chg.below 9 c hb1) (by omega)); have HB1 := Lib.hid hb1; (obtain ⟨k0, k1, k2, -, v1⟩ := HCELL.out _ hb1); (obtain ⟨bx, hbx⟩ : ∃ bx, w1.heap.size = bx := ⟨_, rfl⟩); have HBX := Lib.hid hbx; (have HBA : Hid (Below w1.heap.size w1 (w1.alloc (.cells #[.int .i64 2, .int .i64 (f.ln : Int), .slice (some ⟨x.ab, 0, none⟩) (ka + 1) x.ac] 102))) := Lib.hid ((Below.refl _ _).alloc (Nat.le_refl _) _)); (have HXB : Hid ((w1.alloc (.cells #[.int .i64 2, .int .i64 (f.ln : Int), .slice (some ⟨x.ab, 0, none⟩) (ka + 1) x.ac] 102)).heap[bx]? = some (.cells #[.int .i64 2, .int .i64 (f.ln : Int), .slice (some ⟨x.ab, 0, none⟩) (ka + 1) x.ac] 102 (0, 0))) := Lib.hid (hbx ▸ heap_alloc_new w1 _)); (have HXS : Hid ((w1.alloc (.cells #[.int .i64 2, .int .i64 (f.ln : Int), .slice (some ⟨x.ab, 0, none⟩) (ka + 1) x.ac] 102)).heap.size = bx + 1) := Lib.hid (by rw [World.size_alloc, hbx])); (have HCP : Hid (∃ v' w', (Builtin.append_ #[100, 100] 100 #[.slice (some ⟨bx + 1, 0, none⟩) 0 0, .slice (some ⟨x.ab, 0, none⟩) (ka + 1) x.ac]).run Tryd.prog ((w1.alloc (.cells #[.int .i64 2, .int .i64 (f.ln : Int), .slice (some ⟨x.ab, 0, none⟩) (ka + 1) x.ac] 102)).alloc (.cells #[] 99)) = .ok v' w' ∧ ∃ b n cap, v' = .slice (some ⟨b, 0, none⟩) n cap ∧ Copied w.heap.size x.A (f.la : Int) (.slice none 0 0) (w1.alloc (.cells #[.int .i64 2, .int .i64 (f.ln : Int), .slice (some ⟨x.ab, 0, none⟩) (ka + 1) x.ac] 102)) b n cap w') := Lib.hid (by
              have hf1 := HC1.out.fr (F0 := F1 ++ [(gf, y)]) (F1 := []) rfl
              have harm := hf1.arm (by rw [HX1.out]; omega)
              have h := as_value ((harm.chg (Chg.below 0 c HBA.out) (by omega) (by omega)).copy (ty := 100) (by have := hf1.fa; omega) rfl (arm_one harm) (by have h1 := HC1.out.bel.size; have h2 := HXS.out; omega))
              rw [HXS.out, HKA.out] at h
              exact h)); clear hb1)
          | (at_builtin; refine wpList_append_ex rfl (.tmp 103) (.tmp 105) 100 rfl _ HCP.out ?_; rintro v' w3 ⟨b, nn, cap, rfl, hn, hbl, hb3, hrow⟩; (obtain rfl : nn = ka + 1 := (by rw [hn, HKA.out])); have HBL := Lib.hid hbl; have HB3 := Lib.hid hb3; have HROW := Lib.hid hrow; (have hX3 := (hb3.block bx (by rw [HXS.out]; omega)).trans HXB.out); (have y2 : w3.cell? ⟨bx, 2, none⟩ = some (.slice (some ⟨x.ab, 0, none⟩) (ka + 1) x.ac) := (by rw [Lib.cell_of_heap hX3]; rfl)); (have z2 : w3.frozen? ⟨bx, 2, none⟩ = false := frozen_of_row w3 bx 2 _ _ hX3); have HX3 := Lib.hid hX3; clear hbl hb3 hrow hX3 hn))
        clear y2 z2 k0 k1 k2 v1
        have hbne : b ≠ bx := by have h1 := HBL.out; have h2 := HXS.out; omega
        have HBB : Hid (bx < b) := Lib.hid (by have h1 := HBL.out; have h2 := HXS.out; omega)
        obtain ⟨w4, hw4⟩ : ∃ w4, w3.setCell ⟨bx, 2, none⟩ (.slice (some ⟨b, 0, none⟩) (ka + 1) cap) = w4 := ⟨_, rfl⟩
        have hX4 : w4.heap[bx]? = some (.cells #[.int .i64 2, .int .i64 (f.ln : Int), .slice (some ⟨b, 0, none⟩) (ka + 1) cap] 102 (0, 0)) := hw4 ▸ heap_setCell_same w3 bx 2 _ _ _ HX3.out
        have hrow4 : w4.ownsRow w.heap.size 99 2 (.slice (some ⟨b, 0, none⟩) (ka + 1) cap) (ka + 1) (acells x.A ++ [.int .i64 (f.la : Int), .slice none 0 0]) := by
          rw [← hw4]
          exact own_of_block HROW.out fun g' hg' => by
            simp only [Value.ownBlock, Option.some.injEq] at hg'
            subst hg'
            exact heap_setCell_other _ _ _ _ hbne
        have hB4 : Below w1.heap.size w1 w4 := by
          rw [← hw4]
          exact (HBA.out.trans (HB3.out.mono HBA.out.size)).setCell (by show w1.heap.size ≤ bx; rw [HBX.out]; exact Nat.le_refl _) _
        rw [hw4]
        clear hw4
        obtain ⟨wd, hwd⟩ : ∃ wd, w4.drew = wd := ⟨_, rfl⟩
        have hXd : wd.heap[bx]? = some (.cells #[.int .i64 2, .int .i64 (f.ln : Int), .slice (some ⟨b, 0, none⟩) (ka + 1) cap] 102 (0, 0)) := hwd ▸ hX4
        have hrowd : wd.ownsRow w.heap.size 99 2 (.slice (some ⟨b, 0, none⟩) (ka + 1) cap) (ka + 1) (acells x.A ++ [.int .i64 (f.la : Int), .slice none 0 0]) := hwd ▸ World.ownsRow.drew hrow4
        have hBd : Below w1.heap.size w1 wd := hwd ▸ hB4.drew
        have HXD := Lib.hid hXd
        have HRD := Lib.hid hrowd
        have HBDD := Lib.hid hBd
        obtain ⟨ra, rcap, hrv, hr1, hr2, -⟩ := row_form hrowd
        simp only [Value.slice.injEq, true_and] at hrv
        obtain ⟨-, rfl⟩ := hrv
        unfold maxLen at hr2
        have s0 : wd.cell? ⟨b, ka * 2 + 1, none⟩ = some (.slice none 0 0) := by
          rw [hrowd.cellAt (ka * 2 + 1) (by omega), List.getElem?_append_right (by rw [acells_len, HKA.out]; omega), acells_len, HKA.out, show ka * 2 + 1 - ka * 2 = 1 from by omega]
          rfl
        have s1 : wd.frozen? ⟨b, ka * 2 + 1, none⟩ = false := own_freeX hrowd _
        have HSW : wd.cell? ⟨bx, 2, none⟩ = some (.slice (some ⟨b, 0, none⟩) (ka + 1) cap) ∧ wd.cell? ⟨la, q + 1, none⟩ = some (.slice x.ia x.im x.ic) := ⟨by rw [Lib.cell_of_heap hXd]; rfl, (HCELL.out _ (below_up HB1.out hBd)).2.2.2.1⟩
        have p0 : IntKind.i64.wrap (ka : Int) = (ka : Int) := IntWalk.i64_in _ (by omega)
        have p1 : (0 : Int) ≤ (ka : Int) := by omega
        have p2 : IntKind.i64.wrap ((q : Int) + 1) = (q : Int) + 1 := IntWalk.i64_in _ (by omega)
        have p3 : (0 : Int) ≤ (q : Int) + 1 := by omega
        have p4 : ((q : Int) + 1).toNat = q + 1 := by omega
        have p5 : (ka : Int) < (ka : Int) + 1 := by omega
        have p6 : (q : Int) + 1 < (q : Int) + 1 + 1 := by omega
        clear hX4 hrow4 hB4 hXd hrowd hBd
        refine region_anyT (S := fun w' => w'.cell? ⟨bx, 2, none⟩ = some (.slice (some ⟨b, 0, none⟩) (ka + 1) cap) ∧ w'.cell? ⟨la, q + 1, none⟩ = some (.slice x.ia x.im x.ic)) 12 (by kernel_rfl) ?_
        rw [hwd]
        refine anyT_take 0 [1, 10, 11, 12] (v := ?_) rfl (by kernel_rfl) (fun _ _ _ h => h) (Or.inl ⟨by kernel_rfl, ?_⟩) HSW ?_
        rotate_left
        · (intro w hSw; obtain ⟨hs0, hs1⟩ := hSw; go_simp; (try with_reducible rfl))
        (try simp only [Act.put]); (try simp only [List.setIfInBounds_toArray]); (try simp only [List.set_cons_succ]); (try simp only [List.set_cons_zero])
        refine anyT_take 1 [10, 11, 12] (v := ?_) rfl (by kernel_rfl) (fun _ _ _ h => h) (Or.inl ⟨by kernel_rfl, ?_⟩) HSW ?_
        rotate_left
        · (intro w hSw; obtain ⟨hs0, hs1⟩ := hSw; go_simp; (try with_reducible rfl))
        (try simp only [Act.put]); (try simp only [List.setIfInBounds_toArray]); (try simp only [List.set_cons_succ]); (try simp only [List.set_cons_zero])
        refine anyT_take 2 [3, 4, 5, 10, 11, 12] (v := ?_) rfl (by kernel_rfl) (fun _ _ _ h => h) (Or.inl ⟨by kernel_rfl, ?_⟩) HSW ?_
        rotate_left
        · (intro w hSw; obtain ⟨hs0, hs1⟩ := hSw; go_simp; (try with_reducible rfl))
        (try simp only [Act.put]); (try simp only [List.setIfInBounds_toArray]); (try simp only [List.set_cons_succ]); (try simp only [List.set_cons_zero])
        refine anyT_take 3 [4, 5, 10, 11, 12] (v := ?_) rfl (by kernel_rfl) (fun _ _ _ h => h) (Or.inl ⟨by kernel_rfl, ?_⟩) HSW ?_
        rotate_left
        · (intro w hSw; obtain ⟨hs0, hs1⟩ := hSw; go_simp; (try with_reducible rfl))
        (try simp only [Act.put]); (try simp only [List.setIfInBounds_toArray]); (try simp only [List.set_cons_succ]); (try simp only [List.set_cons_zero])
        refine anyT_take 4 [5, 10, 11, 12] (v := ?_) rfl (by kernel_rfl) (fun _ _ _ h => h) (Or.inl ⟨by kernel_rfl, ?_⟩) HSW ?_
        rotate_left
        · (intro w hSw; obtain ⟨hs0, hs1⟩ := hSw; go_simp; (try with_reducible rfl))
        (try simp only [Act.put]); (try simp only [List.setIfInBounds_toArray]); (try simp only [List.set_cons_succ]); (try simp only [List.set_cons_zero])
        refine anyT_take 5 [10, 11, 12] (v := ?_) rfl (by kernel_rfl) (fun _ _ _ h => h) (Or.inl ⟨by kernel_rfl, ?_⟩) HSW ?_
        rotate_left
        · (intro w hSw; obtain ⟨hs0, hs1⟩ := hSw; go_simp; (try with_reducible rfl))
        (try simp only [Act.put]); (try simp only [List.setIfInBounds_toArray]); (try simp only [List.set_cons_succ]); (try simp only [List.set_cons_zero])
        refine anyT_take 6 [8, 9, 10, 11, 12] (v := ?_) rfl (by kernel_rfl) (fun _ _ _ h => h) (Or.inl ⟨by kernel_rfl, ?_⟩) HSW ?_
        rotate_left
        · (intro w hSw; obtain ⟨hs0, hs1⟩ := hSw; go_simp; (try with_reducible rfl))
        (try simp only [Act.put]); (try simp only [List.setIfInBounds_toArray]); (try simp only [List.set_cons_succ]); (try simp only [List.set_cons_zero])
        refine anyT_take 7 [8, 9, 10, 11, 12] (v := ?_) rfl (by kernel_rfl) (fun _ _ _ h => h) (Or.inl ⟨by kernel_rfl, ?_⟩) HSW ?_
        rotate_left
        · (intro w hSw; obtain ⟨hs0, hs1⟩ := hSw; go_simp; (try with_reducible rfl))
        (try simp only [Act.put]); (try simp only [List.setIfInBounds_toArray]); (try simp only [List.set_cons_succ]); (try simp only [List.set_cons_zero])
        refine anyT_take 8 [9, 10, 11, 12] (v := ?_) rfl (by kernel_rfl) (fun _ _ _ h => h) (Or.inl ⟨by kernel_rfl, ?_⟩) HSW ?_
        rotate_left
        · (intro w hSw; obtain ⟨hs0, hs1⟩ := hSw; go_simp; (try with_reducible rfl))
        (try simp only [Act.put]); (try simp only [List.setIfInBounds_toArray]); (try simp only [List.set_cons_succ]); (try simp only [List.set_cons_zero])
        refine anyT_take 9 [10, 11, 12] (v := ?_) rfl (by kernel_rfl) (fun _ _ _ h => h) (Or.inl ⟨by kernel_rfl, ?_⟩) HSW ?_
        rotate_left
        · (intro w hSw; obtain ⟨hs0, hs1⟩ := hSw; go_simp; (try with_reducible rfl))
        (try simp only [Act.put]); (try simp only [List.setIfInBounds_toArray]); (try simp only [List.set_cons_succ]); (try simp only [List.set_cons_zero])
        refine anyT_take 10 [11, 12] (v := ?_) rfl (by kernel_rfl) (fun _ _ _ h => h) (Or.inl ⟨by kernel_rfl, ?_⟩) HSW ?_
        rotate_left
        · (intro w hSw; obtain ⟨hs0, hs1⟩ := hSw; go_simp; (try with_reducible rfl))
        (try simp only [Act.put]); (try simp only [List.setIfInBounds_toArray]); (try simp only [List.set_cons_succ]); (try simp only [List.set_cons_zero])
        refine anyT_take 11 [12] (v := ?_) rfl (by kernel_rfl) (fun _ _ _ h => h) (Or.inl ⟨by kernel_rfl, ?_⟩) HSW ?_
        rotate_left
        · (intro w hSw; obtain ⟨hs0, hs1⟩ := hSw; go_simp; (try with_reducible rfl))
        (try simp only [Act.put]); (try simp only [List.setIfInBounds_toArray]); (try simp only [List.set_cons_succ]); (try simp only [List.set_cons_zero])
        refine anyT_step 12 (by kernel_rfl) rfl (fun K hK => ?_)
        go_simp
        refine hK.out _ _ (fun h => absurd rfl h) ?_
        clear hK K
        (try simp only [Act.put]); (try simp only [List.setIfInBounds_toArray]); (try simp only [List.set_cons_succ]); (try simp only [List.set_cons_zero])
        refine anyT_done (by kernel_rfl) ?_ _
        clear HSW p0 p1 p2 p3 p5 p6 s0 s1 hwd
        obtain ⟨w5, hw5⟩ : ∃ w5, wd.setCell ⟨b, ka * 2 + 1, none⟩ (.slice x.ia x.im x.ic) = w5 := ⟨_, rfl⟩
        have HX5 : Hid (w5.heap[bx]? = some (.cells #[.int .i64 2, .int .i64 (f.ln : Int), .slice (some ⟨b, 0, none⟩) (ka + 1) cap] 102 (0, 0))) := Lib.hid (by rw [← hw5]; exact (heap_setCell_other _ _ _ _ (fun e => hbne e.symm)).trans HXD.out)
        have HB5 : Hid (Below w1.heap.size w1 w5) := Lib.hid (by
          rw [← hw5]
          exact HBDD.out.setCell (by show w1.heap.size ≤ b; have h1 := HBX.out; have h2 := HBB.out; omega) _)
        have HPU : Hid (∃ v' w', (Builtin.append_ #[100, 100] 100 #[.slice (some ⟨b, 0, none⟩) (ka + 1) cap, .slice (some ⟨w5.heap.size, 0, none⟩) 1 1]).run Tryd.prog (w5.alloc (.cells #[.int .i64 (k : Int), .slice none 0 0] 99)) = .ok v' w' ∧ ∃ b6 n cap6, v' = .slice (some ⟨b6, 0, none⟩) n cap6 ∧ PushR w c (2 * k) (F1 ++ [(gf, y)]) f x k bx w1 w5 b6 n cap6 w') := Lib.hid (by
          have h1 := own_setX HRD.out (ka * 2 + 1) (.slice x.ia x.im x.ic)
          rw [List.set_append_right _ _ (by rw [acells_len, HKA.out]; omega), acells_len, HKA.out, show ka * 2 + 1 - ka * 2 = 1 from by omega, hw5] at h1
          have h2 : w5.ownsRow w1.heap.size 99 2 (.slice (some ⟨b, 0, none⟩) (x.A.length + 1) cap) (x.A.length + 1) (acells x.A ++ [.int .i64 (f.la : Int), .slice x.ia x.im x.ic]) := by
            rw [HKA.out]
            obtain ⟨e1, ⟨e2, -⟩ | ⟨g', c', cur, e2, -, e4⟩⟩ := h1
            · cases e2
            · simp only [Value.slice.injEq, Option.some.injEq, Addr.mk.injEq, and_true, true_and] at e2
              exact ⟨e1, .inr ⟨g', c', cur, by simp [e2], by have h3 := HBX.out; have h4 := HBB.out; omega, e4⟩⟩
          have h := arm_push (ty := 100) HC1.out (by simp) (by omega) k HB5.out h2 (by rw [HBX.out]; exact Nat.le_refl _) (row_lt HX5.out) hbne
          rw [HKA.out] at h
          exact h)
        have y5 : w5.cell? ⟨bx, 2, none⟩ = some (.slice (some ⟨b, 0, none⟩) (ka + 1) cap) := by rw [Lib.cell_of_heap HX5.out]; rfl
        rw [hw5]
        clear hw5
        have hn1 : la ≠ cg := fun e => by have h1 := HC1.out.llt.2.2; (obtain ⟨cg', h2, -, -, h3, -⟩ := HC1.out.ccell (X := F1 ++ [(gf, y)]) (by simp)); simp only [Option.some.injEq, Addr.mk.injEq, and_true] at h2; rw [← h2, ← e, h1] at h3; cases h3
        have hn2 : eg ≠ cg := fun e => by have h1 := HE1.out.2 eg rfl; (obtain ⟨cg', h2, -, -, h3, -⟩ := HC1.out.ccell (X := F1 ++ [(gf, y)]) (by simp)); simp only [Option.some.injEq, Addr.mk.injEq, and_true] at h2; rw [← h2, ← e, h1] at h3; cases h3
        have hn3 : eg ≠ la := fun e => by have h1 := HE1.out.2 eg rfl; have h3 := HC1.out.llt.2.2; rw [← e, h1] at h3; cases h3
        have hm1 : cg ≠ la := fun e => hn1 e.symm
        have hm2 : cg ≠ eg := fun e => hn2 e.symm
        have hm3 : la ≠ eg := fun e => hn3 e.symm
        have q0 : (0 : Int) ≤ (q : Int) + 1 := by omega
        have q1 : (q : Int) + 1 < (q : Int) + 1 + 1 := by omega
        go_wp2_with (at_builtin; refine wpList_append_ex rfl (.tmp 121) (.tmp 124) 100 rfl _ HPU.out ?_; rintro v' w6 ⟨b6, n6, cap6, rfl, hn6, hbx6, hbel6, c6, harm6, hcol6, hcbx6⟩; (obtain rfl : n6 = ka + 1 + 1 := (by rw [hn6, HKA.out])); (have hX6 := hbx6.trans HX5.out); (have y6 : w6.cell? ⟨bx, 2, none⟩ = some (.slice (some ⟨b, 0, none⟩) (ka + 1) cap) := (by rw [Lib.cell_of_heap hX6]; rfl)); (have z6 : w6.frozen? ⟨bx, 2, none⟩ = false := frozen_of_row w6 bx 2 _ _ hX6); (obtain ⟨w7, hw7⟩ : ∃ w7, w6.setCell ⟨bx, 2, none⟩ (.slice (some ⟨b6, 0, none⟩) (ka + 1 + 1) cap6) = w7 := ⟨_, rfl⟩); (have hX7 : w7.heap[bx]? = some (.cells #[.int .i64 2, .int .i64 (f.ln : Int), .slice (some ⟨b6, 0, none⟩) (ka + 1 + 1) cap6] 102 (0, 0)) := hw7 ▸ heap_setCell_same w6 bx 2 _ _ _ hX6); (have d0 : w7.cell? ⟨bx, 0, none⟩ = some (.int .i64 2) := (by rw [Lib.cell_of_heap hX7]; rfl)); (have d1 : w7.cell? ⟨bx, 1, none⟩ = some (.int .i64 (f.ln : Int)) := (by rw [Lib.cell_of_heap hX7]; rfl)); (have d2 : w7.cell? ⟨bx, 2, none⟩ = some (.slice (some ⟨b6, 0, none⟩) (ka + 1 + 1) cap6) := (by rw [Lib.cell_of_heap hX7]; rfl)); (have HB7 : Hid (Below w1.heap.size w1 w7) := Lib.hid (by rw [← hw7]; exact hbel6.setCell (by show w1.heap.size ≤ bx; rw [HBX.out]; exact Nat.le_refl _) _)); (have HA7 : Hid (ArmAt c6 w.heap.size 99 (3 * (F1 ++ [(gf, y)]).length + 4) (2 * k) (x.A ++ [(((f.la : Int), f.cu), .slice x.ia x.im x.ic)]) (k : Int) (.slice none 0 0) b6 cap6 w7) := Lib.hid (by
            have s := Chg.set c6 w6 ⟨bx, 2, none⟩ (.slice (some ⟨b6, 0, none⟩) (ka + 1 + 1) cap6)
            rw [hcbx6, hw7] at s
            exact harm6.chg s (by omega) (by omega))); have HCOL := Lib.hid hcol6; (obtain ⟨k0, k1, k2, l7, v7⟩ := HCELL.out _ (below_up HB1.out HB7.out)); (have HC7 := Lib.hid (HC1.out.over HB7.out)); (have fz0 : w7.frozen? ⟨cg, q * 3, none⟩ = false := own_freeX HC7.out.con.1 _); (have fz1 : w7.frozen? ⟨cg, q * 3 + 1, none⟩ = false := own_freeX HC7.out.con.1 _); (have fz2 : w7.frozen? ⟨cg, q * 3 + 2, none⟩ = false := own_freeX HC7.out.con.1 _); (have fz3 : w7.frozen? ⟨la, q + 1, none⟩ = false := own_freeX HC7.out.lev.1 _); (have fz4 : w7.frozen? ⟨eg, q, none⟩ = false := own_freeX (HE1.out.chg (Chg.below 9 c HB7.out) (by omega)).1 _); clear harm6 hcol6 hX6 hX7 hbel6 hbx6 hcbx6 hn6)
        have HAR8 := Lib.hid (HC1.out.arm (by simp) true (below_up HC1.out.bel HB7.out) HA7.out HB7.out HCOL.out)
        go_roundw
        case rel => exact ⟨k + 1, by go_num, hlt, by
          rw [HSN.out, show 2 * (k + 1) = 2 * k + 2 from by omega, arm_step (by omega) HSF.out HEN.out]
          have h1 := HAR8.out
          rw [HX1.out, HKA.out, Nat.add_sub_cancel] at h1
          exact rb_arm HSF.out HFX.out HX1.out rfl h1.1 h1.2 HE1.out HBD1.out ⟨_, _, rfl⟩ HBN.out⟩
        case measure => simp [intOf]; omega
    · obtain ⟨cg, rfl, -⟩ := HC.out.ccell (X := F1 ++ [(gf, y)]) (by simp)
      go_wp2_with (first
        | (go_at_call 13; (with_reducible refine (HKI.out _ (Below.refl _ _)).mono ?_); rintro e w1 ⟨rfl, hb1⟩; have HC1 := Lib.hid (HC.out.over hb1); have HE1 := Lib.hid (HE.out.chg (Chg.below 9 c hb1) (by omega)); have HBD1 := Lib.hid (HBD.out.chg (Chg.below 9 c hb1) (by omega)); (have HCL : Hid (Calls Tryd.prog 53 #[.slice (some ⟨la, 0, none⟩) (q + 1 + 1) lc, .slice (some ⟨cg, 0, none⟩) (q + 1) cc] w1 (ClosedP w c (2 * k) F1 gf f la lc cg cc w1)) := Lib.hid (by have h := closed_any HC1.out (by omega); rw [HF1.out] at h; exact h)); clear hb1)
        | (go_at_call 53; (with_reducible refine HCL.out.mono ?_); rintro e w3 ⟨rfl, cl3, y3, hc3, hk3⟩; have HC3 := Lib.hid hc3; have HE3 := Lib.hid (HE1.out.keepc hk3 (by omega)); have HBD3 := Lib.hid (HBD1.out.keepc hk3 (by omega)); clear hc3 hk3))
      go_roundw
      case rel => exact ⟨k + 1, by go_num, hlt, by
        rw [HSN.out, show 2 * (k + 1) = 2 * k + 2 from by omega, close_step HSF.out, HF1.out]
        exact rb_close HSF.out HFX.out HF1.out (by have h := HC3.out; rw [HF1.out] at h; exact h) rfl HE3.out HBD3.out ⟨_, _, rfl⟩ HBN.out⟩
      case measure => simp [intOf]; omega

end Go.Proofs.YtlnlpahmfpjjdaaDoor
