/-
  Texts of the proof, put together: GdPZ.
-/
import Derived.Test.YtlnlpahmfpjjdaaDoorG49
import Derived.Test.YtlnlpahmfpjjdaaDoorG48
import Derived.Test.YtlnlpahmfpjjdaaDoorG34
import Derived.Test.YtlnlpahmfpjjdaaDoorG07
import Derived.Deep.LoopGhost
import Derived.IntWalk

/-
  The document's Build, walked: case Z.
-/
namespace Go.Proofs.YtlnlpahmfpjjdaaDoor
open Go.RowKit

set_option maxRecDepth 100000 in
set_option maxHeartbeats 102400000 in
theorem rbuild_Z : rbuild_at.2.2.2.2.2.1 := by
  intro lines w la0 lc0 hlc2 n HLA hn hlc1 HL HLN K HRK HK HS0 K0 hK0 wr u4 u5 u6 u7 u9 u10 u11 u19 u20 u21 u22 u23 u24 u25 u26 u27 u28 u29 u30 u31 u32 u33 u34 u35 u36 u37 u38 u39 u40 u41 u42 u43 u44 u45 u46 u47 u48 u49 u50 u51 u52 u53 u54 u55 u56 u57 u58 u59 u60 u61 u62 u63 u64 u65 u66 u67 u68 u69 u70 u71 u72 u73 u74 u75 u76 u77 u78 u79 u80 u81 u82 u83 u84 u85 u86 u87 u88 u89 u90 u91 u92 u93 u94 u95 u96 u97 u98 u99 u100 u101 u102 u103 u104 u105 u106 u107 u108 u109 u110 u111 u112 u113 u114 u115 u116 u117 u118 u119 u120 u121 u122 u123 u124 u125 u126 u127 u128 u129 u130 u131 u132 u133 u134 u135 u136 u137 u138 u139 u140 u141 u142 u143 u144 u145 u146 u147 u148 u149 u150 u151 u152 u153 u154 u155 u156 u157 u158 u159 u160 u161 u162 u163 u164 u165 u166 u167 u168 u169 u170 u171 u172 u173 u174 u175 u176 u177 u178 u179 u180 k hk HB hlt
  have hkI : ¬ (k : Int) < (n : Int) := by omega
  obtain ⟨s, hs⟩ : ∃ s, runB bs0 0 K = s := ⟨_, rfl⟩
  have HB2 : Hid (RBldS w (2 * n) s u4 u5 u6 u7 wr) := Lib.hid (by
    have h := HB.out
    rw [show k = n from by omega, List.take_of_length_le (by rw [HRK.out]; omega), hs] at h
    exact h)
  have HST := Lib.hid hs
  obtain ⟨c, F, la, lc, ca, cn, cc, ea, ec, ba, bn, bc, rfl, rfl, rfl, rfl, hC, hF, hE, hbd, hbn⟩ := HB2.out
  have hFl : F.length = s.st.length + 1 := by rw [len_of_map hF, stack_len]
  obtain ⟨m, hm⟩ : ∃ m, s.st.length = m := ⟨_, rfl⟩
  have hcn : cn = m := by have := hC.cln; omega
  subst hcn
  have HM := Lib.hid hm
  have HFL : Hid (F.length = cn + 1) := Lib.hid (by omega)
  have HO : Hid (∀ j b : Nat, (openL s)[j]? = some b → ∃ cg, ca = some ⟨cg, 0, none⟩ ∧ cg < wr.heap.size ∧ wr.cell? ⟨cg, j * 3 + 1, none⟩ = some (.int .i64 (b : Int))) := Lib.hid (fun j b hj => con_line hC hF hj)
  have HOL : Hid ((openL s).length = cn) := Lib.hid (by rw [open_len, hm])
  have HBL : Hid (s.bad.length = bn) := Lib.hid (row_few (xs := s.bad) hbd).1
  have HRD : Hid (∀ (ov : Value) (X : World), Up wr 3 1 ov cn (ivals (wints (openL s))) X → RDone w (2 * n) cn s (.slice (some ⟨la, 0, none⟩) (cn + 1) lc) (.slice ca cn cc) (.slice ba bn bc) ov X) := Lib.hid (fun ov X hX => by
    have h := rdone_mk hC hF hbd (ov := ov) (w' := X) (by rw [hm]; exact hX)
    rw [hm, HFL.out] at h
    exact h)
  have hccap := hC.ccap
  obtain ⟨hcc1, hcc2⟩ := hccap
  unfold maxLen at hcc2
  have hcn2 : cn ≤ 40000 := by have := hC.few; omega
  have HCN : Hid (cn ≤ 40000) := Lib.hid hcn2
  have HBN2 : Hid (bn ≤ 40000) := Lib.hid (by omega)
  have HNN : Hid (n ≤ 20000) := Lib.hid hn
  rw [HFL.out]
  clear hs hC hF hE hbd hbn hFl hm HB HB2
  obtain ⟨wx, hwx⟩ : ∃ wx, wx = wr := ⟨_, rfl⟩
  subst hwx
  go_wp2
  go_loopw [12, 13] (fun ov i wr => ∃ (j : Nat) (oa : Option Addr) (oc : Nat), i = .int .i64 (j : Int) ∧ j ≤ cn ∧ ov = .slice oa j oc ∧ Up wx 3 1 (.slice oa j oc) j (ivals (wints ((openL s).take j))) wr) (fun _ i _ => cn - (intOf i).toNat)
  case atStart => exact ⟨0, none, 0, rfl, Nat.zero_le _, rfl, up_nil wx _ 1⟩
  case round =>
    obtain ⟨j, oa, oc, rfl, hj, rfl, hu⟩ := hrel
    have HU := Lib.hid hu
    clear hu
    by_cases hjl : j < cn
    · obtain ⟨b, hb⟩ : ∃ b, (openL s)[j]? = some b := ⟨_, List.getElem?_eq_getElem (by rw [HOL.out]; exact hjl)⟩
      obtain ⟨cg, rfl, hcg, hcc⟩ := HO.out j b hb
      have l1 := bcell HU.out.2 hcc hcg
      have hjI : (j : Int) < (cn : Int) := by omega
      have hj0 : (0 : Int) ≤ (j : Int) := by omega
      have HT := Lib.hid (wints_take hb)
      have HX : Hid (∃ v' w', (Builtin.append_ #[54, 54] 54 #[.slice oa j oc, .slice (some ⟨wr.heap.size, 0, none⟩) 1 1]).run Tryd.prog (wr.alloc (.cells #[.int .i64 (b : Int)] 3)) = .ok v' w' ∧ ∃ b' n' cap, v' = .slice (some ⟨b', 0, none⟩) n' cap ∧ IntsUp wx (j + 1) (wints ((openL s).take j) ++ [(b : Int)]) b' n' cap w') := Lib.hid (as_value (ints_ex (Up.alloc HU.out _) (src_one wr (.int .i64 (b : Int)) 3) (by omega) (by omega)))
      clear hcc hb hcg
      go_wp2_with (at_builtin; refine wpList_append_ex rfl (.tmp 187) (.tmp 193) 54 rfl _ HX.out ?_; rintro v3 w3 ⟨b3, n3, c3, rfl, rfl, hp⟩; have HP := Lib.hid hp; clear hp)
      go_roundw
      case rel => exact ⟨j + 1, some ⟨b3, 0, none⟩, c3, by go_num, hjl, rfl, by rw [HT.out]; exact HP.out⟩
      case measure => simp [intOf]; omega
    · have hjI : ¬ (j : Int) < (cn : Int) := by omega
      have HR : Hid (RDone w (2 * n) cn s (.slice (some ⟨la, 0, none⟩) (cn + 1) lc) (.slice ca cn cc) (.slice ba bn bc) (.slice oa cn oc) wr) := Lib.hid (HRD.out _ _ (by
        have h := HU.out
        rw [show j = cn from by omega, List.take_of_length_le (by rw [HOL.out]; omega)] at h
        exact h))
      have hje : j = cn := by omega
      rw [hje]
      clear HU HO HRD hje
      go_wp2
      go_loopg [4, 5] cn (fun gk lv cv wr => ∃ d', RDone w d' gk s lv cv (.slice ba bn bc) (.slice oa cn oc) wr ∧ d' + 2 * gk ≤ 2 * n + 2 * cn)
      case atStart => exact ⟨2 * n, HR.out, Nat.le_refl _⟩
      case round =>
        obtain ⟨d', hR, hd'⟩ := hrel
        have HR3 := Lib.hid hR
        have HD' := Lib.hid hd'
        have hd3 : d' ≤ 300000 := by omega
        obtain ⟨s', c', F', la', lc', ca', cc', rfl, rfl, hFl', hC', hF', hs', hba', hB', hO'⟩ := hR
        by_cases hpos : 0 < gk
        · obtain ⟨q, rfl⟩ : ∃ q, gk = q + 1 := ⟨gk - 1, by omega⟩
          obtain ⟨f, r, hsf⟩ := (st_cases s').resolve_left (fun e => by rw [e] at hs'; simp at hs')
          obtain ⟨F1, gf, y, x, rfl, hF1, hFX⟩ := tops hF' hsf hFl'
          obtain ⟨cg, rfl, -⟩ := hC'.ccell (X := F1 ++ [(gf, y)]) (by simp)
          have HCL : Hid (Calls Tryd.prog 53 #[.slice (some ⟨la', 0, none⟩) (q + 1 + 1) lc', .slice (some ⟨cg, 0, none⟩) (q + 1) cc'] wr (ClosedP w c' d' F1 gf f la' lc' cg cc' wr)) := Lib.hid (by have h := closed_any hC' hd3; rw [hF1] at h; exact h)
          have HSF := Lib.hid hsf
          have HF1 := Lib.hid hF1
          have HFX := Lib.hid hFX
          have HS' := Lib.hid hs'
          have HBA' := Lib.hid hba'
          have HB' := Lib.hid hB'
          have HO' := Lib.hid hO'
          have hccap' := hC'.ccap
          obtain ⟨hcq1, hcq2⟩ := hccap'
          unfold maxLen at hcq2
          have hq0 : (0 : Int) < (q : Int) + 1 := by omega
          clear hFl' hC' hF' hs' hba' hB' hO' hsf hF1 hFX hd' hd3
          go_wp2_with (go_at_call 53; (with_reducible refine HCL.out.mono ?_); rintro e w3 ⟨rfl, c3, y3, hc3, hk3⟩; have HC3 := Lib.hid hc3; have HB3 := Lib.hid (HB'.out.keepc hk3 (by omega)); have HO3 := Lib.hid (HO'.out.keepc hk3 (by omega)); clear hc3 hk3)
          go_roundg q
          case measure => omega
          case rel => exact ⟨d' + 2, by
            rw [HF1.out]
            exact rdone_close HSF.out (by rw [← HFX.out, List.map_append]; rfl) HF1.out (by have h := HC3.out; rw [HF1.out] at h; exact h) HS'.out HBA'.out HB3.out HO3.out, by have := HD'.out; omega⟩
        · obtain rfl : gk = 0 := by omega
          obtain ⟨la3, lc3, ia, im, ic, hlv, h1, h2, h3, h4, h5⟩ := rdone_last HR3.out
          simp only [Value.slice.injEq, Option.some.injEq, Addr.mk.injEq, and_true, true_and] at hlv
          obtain ⟨rfl, -, rfl⟩ := hlv
          rw [show (0 : Nat) + 1 = 1 from rfl]
          have HBWY : Hid (Below w.heap.size w wr) := Lib.hid hC'.bel
          have HROB : Hid (∀ j b : Nat, s.bad[j]? = some b → ∃ g, ba = some ⟨g, 0, none⟩ ∧ g < wr.heap.size ∧ wr.cell? ⟨g, j, none⟩ = some (.int .i64 (b : Int))) := Lib.hid (fun j b hj => row_line hB' hj)
          have HROO : Hid (∀ j b : Nat, (openL s)[j]? = some b → ∃ g, oa = some ⟨g, 0, none⟩ ∧ g < wr.heap.size ∧ wr.cell? ⟨g, j, none⟩ = some (.int .i64 (b : Int))) := Lib.hid (fun j b hj => row_line hO' hj)
          have hbc := (row_few hB').2
          have hoc := (row_few hO').2
          obtain ⟨ab2, bc2, hv2, hbc1, hbc2⟩ := hbc
          obtain ⟨ao2, oc2, hv3, hoc1, hoc2⟩ := hoc
          simp only [Value.slice.injEq] at hv2 hv3
          obtain ⟨rfl, hbe2, rfl⟩ := hv2
          obtain ⟨rfl, hoe2, rfl⟩ := hv3
          rw [← hbe2] at hbc1
          rw [← hoe2] at hoc1
          unfold maxLen at hbc2 hoc2 h3
          have HIT : Hid (ItsAt (d' + 1) (buildL K).1 (.slice ia im ic) wr) := Lib.hid (by
            have h6 := HST.out
            unfold buildL
            simp only
            rw [h6]
            exact h5)
          have HLV : Hid (la' < wr.heap.size ∧ wr.cell? ⟨la', 0, none⟩ = some (.slice ia im ic)) := Lib.hid ⟨h1, h4⟩
          have HLY : Hid (LinesAt fB lines (.slice la0 n lc0) wr) := Lib.hid (HLA.out.next HBWY.out)
          have HTOK : Hid (∀ j : Nat, (j ∈ s.bad ∨ j ∈ openL s) → ∀ ln, lines[j]? = some ln → 2 ≤ ln.toks.length) := Lib.hid (fun j hj ln hl => by
            rw [← HST.out, ← HK.out] at hj
            exact told_toks lines hj hl)
          have HFI : Hid (s.bad.Nodup ∧ (openL s).Nodup) := Lib.hid (by
            have := fine_run K bs0 0 fine_zero
            rw [HST.out] at this
            exact ⟨this.badn, (List.reverse_perm _).nodup_iff.2 this.nod⟩)
          have HTL : Hid (docD s.bad (openL s) lines n = tells lines) := Lib.hid (by
            have h := doc_tells lines
            rw [HK.out, HST.out, HLN.out] at h
            exact h)
          have HDP : Hid (d' ≤ 300000) := Lib.hid hd3
          clear hFl' hC' hF' hs' hba' hB' hO' h1 h4 h5 hd' hd3 hbe2 hoe2 HR3 HR
          obtain ⟨wy, hwy⟩ : ∃ wy, wy = wr := ⟨_, rfl⟩
          subst hwy
          go_wp2
          go_loopw [14, 15] (fun dv i wr => DocR wy s.bad (openL s) lines n dv i wr) (fun _ i _ => n - (intOf i).toNat)
          case atStart => exact ⟨0, none, 0, 0, rfl, Nat.zero_le _, rfl, rfl, up_nil wy _ 4⟩
          case round =>
            obtain ⟨k4, da, dn, dc, rfl, hk4, rfl, hdn, hD⟩ := hrel
            have HD4 := Lib.hid hD
            have HDN4 := Lib.hid hdn
            clear hD hdn
            by_cases h4n : k4 < n
            · obtain ⟨ln, hlk⟩ : ∃ ln, lines[k4]? = some ln := ⟨_, List.getElem?_eq_getElem (by rw [HLN.out]; exact h4n)⟩
              obtain ⟨gl, ta, tn, tc, hla, hgl, l0, l1, l2, l3, hsec⟩ := line_at HLY.out hlk
              subst hla
              have HLK := Lib.hid hlk
              have HGL := Lib.hid hgl
              have HLC := Lib.hid (And.intro l0 (And.intro l1 (And.intro l2 l3)))
              obtain ⟨tf, htf⟩ : ∃ tf, (tk1 ln).f = tf := ⟨_, rfl⟩
              obtain ⟨tt, htt⟩ : ∃ tt, (tk1 ln).t = tt := ⟨_, rfl⟩
              rw [htf, htt] at hsec
              have HSEC := Lib.hid hsec
              have HTF := Lib.hid htf
              have HTT := Lib.hid htt
              have HLND : Hid (lnD lines k4 = ln) := Lib.hid (by unfold lnD; rw [hlk]; rfl)
              have h4I : (k4 : Int) < (n : Int) := by omega
              have h40 : (0 : Int) ≤ (k4 : Int) := by omega
              have HPF : Hid ((docD s.bad (openL s) lines k4).length ≤ 80000) := Lib.hid (by have := doc_few lines HFI.out.1 HFI.out.2 k4; have := HNN.out; omega)
              have HSN4 := Lib.hid (doc_snoc s.bad (openL s) lines k4)
              obtain ⟨P, hP⟩ : ∃ P, docD s.bad (openL s) lines k4 = P := ⟨_, rfl⟩
              rw [hP] at HPF HSN4 HD4 HDN4
              clear hlk hgl l0 l1 l2 l3 hsec htf htt hP
              go_wp2
              go_loopw [14, 16] (fun dv i wr => ∃ (j : Nat) (da : Option Addr) (dn dc : Nat), i = .int .i64 (j : Int) ∧ j ≤ bn ∧ dv = .slice da dn dc ∧ dn = (P ++ tellB 12 (s.bad.take j) lines k4).length ∧ DRow wy fB (.slice da dn dc) (P ++ tellB 12 (s.bad.take j) lines k4) wr) (fun _ i _ => bn - (intOf i).toNat)
              case atStart => exact ⟨0, _, _, _, rfl, Nat.zero_le _, rfl, by rw [show tellB 12 (s.bad.take 0) lines k4 = [] from rfl, List.append_nil]; exact HDN4.out, by rw [show tellB 12 (s.bad.take 0) lines k4 = [] from rfl, List.append_nil]; exact HD4.out⟩
              case round =>
                obtain ⟨j, da, dn, dc, rfl, hj, rfl, hdn, hD⟩ := hrel
                have HD16 := Lib.hid hD
                have HDN16 := Lib.hid hdn
                clear hD hdn
                by_cases hjl : j < bn
                · obtain ⟨b, hb⟩ : ∃ b, (s.bad)[j]? = some b := ⟨_, List.getElem?_eq_getElem (by rw [HBL.out]; exact hjl)⟩
                  obtain ⟨gb, rfl, hgb, r0⟩ := HROB.out j b hb
                  have r1 := bcell HD16.out.2 r0 hgb
                  have q0 := bcell HD16.out.2 HLC.out.1 HGL.out
                  have q1 := bcell HD16.out.2 HLC.out.2.1 HGL.out
                  have q2 := bcell HD16.out.2 HLC.out.2.2.1 HGL.out
                  have q3 := bcell HD16.out.2 HLC.out.2.2.2 HGL.out
                  have hjI : (j : Int) < (bn : Int) := by omega
                  have hj0 : (0 : Int) ≤ (j : Int) := by omega
                  have HT : Hid (P ++ tellB 12 (s.bad.take (j + 1)) lines k4 = (P ++ tellB 12 (s.bad.take j) lines k4) ++ if b = k4 then [dgOf 12 ln] else []) := Lib.hid (by rw [tell_take hb, HLND.out, List.append_assoc])
                  have HFW : Hid ((P ++ tellB 12 (s.bad.take j) lines k4).length ≤ 500000) := Lib.hid (by
                    have h1 := tell_few 12 (s.bad.take j) lines k4
                    rw [List.length_take] at h1
                    rw [List.length_append]
                    have h2 := HPF.out
                    have h3 := HBN2.out
                    have h4 := HCN.out
                    have h5 := HBL.out
                    omega)
                  have hdb : dn ≤ 500000 := by rw [HDN16.out]; exact HFW.out
                  have HMB : Hid (b ∈ s.bad) := Lib.hid (List.mem_of_getElem? hb)
                  have HBW := Lib.hid HD16.out.2
                  clear r0 hb hgb
                  by_cases hbk : b = k4
                  · have hbe : ((b : Int) == (k4 : Int)) = true := by simp [hbk]
                    have HSC := Lib.hid (HSEC.out (HTOK.out k4 (.inl (hbk ▸ HMB.out)) ln HLK.out))
                    have HBK := Lib.hid hbk
                    clear hbk
                    go_wp2_with (first
                      | (go_at_call 54; (with_reducible refine (HSC.out _ HBW.out).mono ?_); rintro e w1 ⟨rfl, hb1⟩; (have HX := Lib.hid (dg_ready (ty := 39) (z := 12) (DRow.over HD16.out hb1) HDN16.out HFW.out (by omega) ln HTF.out HTT.out)); clear hb1)
                      | (at_builtin; refine wpList_append_ex rfl (.tmp 222) (.tmp 229) 39 rfl _ HX.out ?_; rintro v3 w3 ⟨b5, c5, rfl, hp⟩; have HP5 := Lib.hid hp; clear hp))
                    go_roundw
                    case rel => exact ⟨j + 1, some ⟨b5, 0, none⟩, dn + 1, c5, by go_num, hjl, rfl, by rw [HT.out, if_pos HBK.out, List.length_append, ← HDN16.out]; rfl, by rw [HT.out, if_pos HBK.out]; exact HP5.out⟩
                    case measure => simp [intOf]; omega
                  · have hbe : ((b : Int) == (k4 : Int)) = false := by simp; omega
                    have HBK := Lib.hid hbk
                    clear hbk
                    go_wp2
                    go_roundw
                    case rel => exact ⟨j + 1, da, dn, dc, by go_num, hjl, rfl, by rw [HT.out, if_neg HBK.out, List.append_nil]; exact HDN16.out, by rw [HT.out, if_neg HBK.out, List.append_nil]; exact HD16.out⟩
                    case measure => simp [intOf]; omega
                · have hjI : ¬ (j : Int) < (bn : Int) := by omega
                  have HDx16 : Hid (dn = (P ++ tellB 12 s.bad lines k4).length ∧ DRow wy fB (.slice da dn dc) (P ++ tellB 12 s.bad lines k4) wr) := Lib.hid (by
                    have h1 := HDN16.out
                    have h2 := HD16.out
                    rw [List.take_of_length_le (by rw [HBL.out]; omega)] at h1 h2
                    exact ⟨h1, h2⟩)
                  clear HD16 HDN16
                  have HPF5 : Hid ((P ++ tellB 12 s.bad lines k4).length ≤ 160000) := Lib.hid (by
                    have h1 := tell_few 12 s.bad lines k4
                    rw [List.length_append]
                    have h2 := HPF.out
                    have h3 := HBL.out
                    have h4 := HBN2.out
                    omega)
                  have HDa : Hid (dn = (P ++ tellB 12 s.bad lines k4).length) := Lib.hid HDx16.out.1
                  have HDb : Hid (DRow wy fB (.slice da dn dc) (P ++ tellB 12 s.bad lines k4) wr) := Lib.hid HDx16.out.2
                  obtain ⟨P5, hP5⟩ : ∃ P5, P ++ tellB 12 s.bad lines k4 = P5 := ⟨_, rfl⟩
                  rw [← List.append_assoc, hP5] at HSN4
                  rw [hP5] at HPF5 HDa HDb
                  clear HDx16 hP5
                  go_wp2
                  go_loopw [14, 17] (fun dv i wr => ∃ (j : Nat) (da : Option Addr) (dn dc : Nat), i = .int .i64 (j : Int) ∧ j ≤ cn ∧ dv = .slice da dn dc ∧ dn = (P5 ++ tellB 13 ((openL s).take j) lines k4).length ∧ DRow wy fB (.slice da dn dc) (P5 ++ tellB 13 ((openL s).take j) lines k4) wr) (fun _ i _ => cn - (intOf i).toNat)
                  case atStart => exact ⟨0, _, _, _, rfl, Nat.zero_le _, rfl, by rw [show tellB 13 ((openL s).take 0) lines k4 = [] from rfl, List.append_nil]; exact HDa.out, by rw [show tellB 13 ((openL s).take 0) lines k4 = [] from rfl, List.append_nil]; exact HDb.out⟩
                  case round =>
                    obtain ⟨j, da, dn, dc, rfl, hj, rfl, hdn, hD⟩ := hrel
                    have HD17 := Lib.hid hD
                    have HDN17 := Lib.hid hdn
                    clear hD hdn
                    by_cases hjl : j < cn
                    · obtain ⟨b, hb⟩ : ∃ b, ((openL s))[j]? = some b := ⟨_, List.getElem?_eq_getElem (by rw [HOL.out]; exact hjl)⟩
                      obtain ⟨gb, rfl, hgb, r0⟩ := HROO.out j b hb
                      have r1 := bcell HD17.out.2 r0 hgb
                      have q0 := bcell HD17.out.2 HLC.out.1 HGL.out
                      have q1 := bcell HD17.out.2 HLC.out.2.1 HGL.out
                      have q2 := bcell HD17.out.2 HLC.out.2.2.1 HGL.out
                      have q3 := bcell HD17.out.2 HLC.out.2.2.2 HGL.out
                      have hjI : (j : Int) < (cn : Int) := by omega
                      have hj0 : (0 : Int) ≤ (j : Int) := by omega
                      have HT : Hid (P5 ++ tellB 13 ((openL s).take (j + 1)) lines k4 = (P5 ++ tellB 13 ((openL s).take j) lines k4) ++ if b = k4 then [dgOf 13 ln] else []) := Lib.hid (by rw [tell_take hb, HLND.out, List.append_assoc])
                      have HFW : Hid ((P5 ++ tellB 13 ((openL s).take j) lines k4).length ≤ 500000) := Lib.hid (by
                        have h1 := tell_few 13 ((openL s).take j) lines k4
                        rw [List.length_take] at h1
                        rw [List.length_append]
                        have h2 := HPF5.out
                        have h3 := HBN2.out
                        have h4 := HCN.out
                        have h5 := HOL.out
                        omega)
                      have hdb : dn ≤ 500000 := by rw [HDN17.out]; exact HFW.out
                      have HMB : Hid (b ∈ (openL s)) := Lib.hid (List.mem_of_getElem? hb)
                      have HBW := Lib.hid HD17.out.2
                      clear r0 hb hgb
                      by_cases hbk : b = k4
                      · have hbe : ((b : Int) == (k4 : Int)) = true := by simp [hbk]
                        have HSC := Lib.hid (HSEC.out (HTOK.out k4 (.inr (hbk ▸ HMB.out)) ln HLK.out))
                        have HBK := Lib.hid hbk
                        clear hbk
                        go_wp2_with (first
                          | (go_at_call 54; (with_reducible refine (HSC.out _ HBW.out).mono ?_); rintro e w1 ⟨rfl, hb1⟩; (have HX := Lib.hid (dg_ready (ty := 39) (z := 13) (DRow.over HD17.out hb1) HDN17.out HFW.out (by omega) ln HTF.out HTT.out)); clear hb1)
                          | (at_builtin; refine wpList_append_ex rfl (.tmp 243) (.tmp 250) 39 rfl _ HX.out ?_; rintro v3 w3 ⟨b5, c5, rfl, hp⟩; have HP5 := Lib.hid hp; clear hp))
                        go_roundw
                        case rel => exact ⟨j + 1, some ⟨b5, 0, none⟩, dn + 1, c5, by go_num, hjl, rfl, by rw [HT.out, if_pos HBK.out, List.length_append, ← HDN17.out]; rfl, by rw [HT.out, if_pos HBK.out]; exact HP5.out⟩
                        case measure => simp [intOf]; omega
                      · have hbe : ((b : Int) == (k4 : Int)) = false := by simp; omega
                        have HBK := Lib.hid hbk
                        clear hbk
                        go_wp2
                        go_roundw
                        case rel => exact ⟨j + 1, da, dn, dc, by go_num, hjl, rfl, by rw [HT.out, if_neg HBK.out, List.append_nil]; exact HDN17.out, by rw [HT.out, if_neg HBK.out, List.append_nil]; exact HD17.out⟩
                        case measure => simp [intOf]; omega
                    · have hjI : ¬ (j : Int) < (cn : Int) := by omega
                      have HDx17 : Hid (dn = (P5 ++ tellB 13 (openL s) lines k4).length ∧ DRow wy fB (.slice da dn dc) (P5 ++ tellB 13 (openL s) lines k4) wr) := Lib.hid (by
                        have h1 := HDN17.out
                        have h2 := HD17.out
                        rw [List.take_of_length_le (by rw [HOL.out]; omega)] at h1 h2
                        exact ⟨h1, h2⟩)
                      clear HD17 HDN17
                      go_wp2
                      go_roundw
                      case rel => exact docR_mk (k := k4 + 1) (by go_num) h4n (by rw [HSN4.out]; exact HDx17.out.1) (by rw [HSN4.out]; exact HDx17.out.2)
                      case measure => simp [intOf]; omega
            · have h4I : ¬ (k4 : Int) < (n : Int) := by omega
              have HDE : Hid (dn = (tells lines).length ∧ DRow wy fB (.slice da dn dc) (tells lines) wr) := Lib.hid (by
                have h1 := HDN4.out
                have h2 := HD4.out
                rw [show k4 = n from by omega, HTL.out] at h1 h2
                exact ⟨h1, h2⟩)
              have e0 := bcell HD4.out.2 HLV.out.2 HLV.out.1
              clear HD4 HDN4
              go_wp2
              go_ret2
              exact ⟨ia, im, ic, da, dn, dc, rfl, ⟨⟨d' + 1, by have := HDP.out; omega, itsAt_over _ _ _ _ _ HIT.out HDE.out.2.2⟩, HDE.out.1, Up.lower HDE.out.2 HBWY.out⟩⟩

end Go.Proofs.YtlnlpahmfpjjdaaDoor
