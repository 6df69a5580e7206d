/-
  Texts of the proof, put together: AgColX, AgLists, AgFitL.
-/
import Derived.Test.YtipipookgcdfbaaG36
import Derived.Test.YtipipookgcdfbaaG31
import Derived.StillTailTactics
import Derived.Test.YtipipookgcdfbaaG18
import Derived.Maps.AppendAt

/-
  The project's Collect, walked.
-/
namespace Go.Proofs.Ytipipookgcdfbaa
open Go.RowKit

theorem cut_none {W : World} {e : Ending} {w' : World} (h : CutPost W none e w') : e = .returned (.tuple #[.slice none 0 0, .bool false]) ∧ Below W.heap.size W w' := h
theorem cut_some {W : World} {M : List Nat} {e : Ending} {w' : World} (h : CutPost W (some M) e w') : ∃ a n c, e = .returned (.tuple #[.slice a n c, .bool true]) ∧ n = M.length ∧ IntsR (nvals M) (.slice a n c) w' ∧ Below W.heap.size W w' := h

def PcRel (w1 : World) (T : List Xt) (M : List Nat) (t2 t22 : Value) (wr : World) : Prop :=
  ∃ (k : Nat) (al : Option Addr) (nl cl : Nat), t2 = .slice al nl cl ∧ t22 = .int .i64 (k : Int) ∧ k + 1 ≤ M.length ∧ nl = k ∧ CR w1 ((segsL T M).take k) [] al nl cl none 0 0 wr
def PdRel (w1 : World) (T : List Xt) (M : List Nat) (al : Option Addr) (nl cl : Nat) (t3 t46 : Value) (wr : World) : Prop :=
  ∃ (k : Nat) (ac : Option Addr) (nc cc : Nat), t3 = .slice ac nc cc ∧ t46 = .int .i64 (k : Int) ∧ k + 2 ≤ M.length ∧ nc = k ∧ CR w1 (segsL T M) (picksL T ((M.drop 1).take k)) al nl cl ac nc cc wr

theorem IntsR.len2 {xs : List Int} {a : Option Addr} {n cap : Nat} {w : World} (h : IntsR xs (.slice a n cap) w) : n ≤ cap ∧ cap ≤ maxLen := by
  obtain ⟨a', n', c', hv, -, h1, h2⟩ := h.form
  simp only [Value.slice.injEq] at hv
  obtain ⟨-, rfl, rfl⟩ := hv
  exact ⟨h1, h2⟩
theorem picks_len {T : List Xt} : ∀ {M : List Nat}, (∀ x ∈ M, x < T.length) → (picksL T M).length = M.length
  | [], _ => rfl
  | a :: r, h => by
    have ih := picks_len (M := r) fun x hx => h x (List.mem_cons_of_mem _ hx)
    have ha := h a List.mem_cons_self
    unfold picksL at ih ⊢
    rw [List.filterMap_cons, List.getElem?_eq_getElem ha]
    simp [ih]
theorem picks_in {T : List Xt} {M : List Nat} {t : Xt} (h : t ∈ picksL T M) : t ∈ T := by
  unfold picksL at h
  obtain ⟨a, -, ha⟩ := List.mem_filterMap.1 h
  exact List.mem_of_getElem? ha

set_option maxRecDepth 100000 in
set_option maxHeartbeats 12800000 in
theorem pcol_any {T : List Xt} {v : Value} {w : World} (h : ToksX T v w) (hT : T.length ≤ 300000) (hS : ∀ t ∈ T, t.ss.length ≤ 500000) : Calls Try.prog 11 #[v] w (ColPost w (collectL T)) := by
  obtain ⟨a, n, cap, rfl⟩ := h.form
  obtain ⟨hn, hc1, hc2⟩ := h.len
  unfold maxLen at hc2
  obtain ⟨hcc, hcm⟩ := cuts_col T
  have HCU := Lib.hid (cuts_any h hT)
  have H := Lib.hid h
  have HN := Lib.hid hn
  have HS := Lib.hid hS
  have HTL := Lib.hid hT
  cases hq : cutsL T with
  | none =>
    rw [hq] at HCU hcc
    rw [hcc]
    clear h hn hcc hcm hq hS hT
    go_enter Try.func11, Try.ntmps11
    go_wp2_with (go_at_call 28; (with_reducible refine HCU.out.mono ?_); rintro e w1 hcp; obtain ⟨rfl, hb1⟩ := cut_none hcp; have HB1 := Lib.hid hb1; clear hb1 hcp)
    exact bodyPost_ret (v := .tuple #[.slice none 0 0, .slice none 0 0, .int .i64 0, .bool false]) (by simp [results, Try.results11, go_sem]) rfl ⟨rfl, HB1.out⟩
  | some M =>
    obtain ⟨hR, h2, hB⟩ := hcm M hq
    rw [hq] at HCU hcc
    rw [hcc]
    have hml := rises_len hR hB
    have HRI := Lib.hid hR
    have HBM := Lib.hid hB
    have HSG : Hid ((segsL T M).length = M.length - 1) := Lib.hid (segs_len T M)
    have HML : Hid (2 ≤ M.length ∧ M.length ≤ 300000) := Lib.hid ⟨h2, by omega⟩
    obtain ⟨RES, hRES⟩ : ∃ R, Option.map (fun K => (segsL T K, picksL T (List.drop 1 K).dropLast, K.getLastD 0 + 1)) (some M) = R := ⟨_, rfl⟩
    have HRES := Lib.hid hRES
    rw [hRES]
    clear h hn hcc hcm hq hR h2 hB hml hRES hS hT
    go_enter Try.func11, Try.ntmps11
    go_wp2_with (go_at_call 28; (with_reducible refine HCU.out.mono ?_); rintro e w1 hcp; obtain ⟨am, nm, cm, rfl, hnm, him, hb1⟩ := cut_some hcp; have HB1 := Lib.hid hb1; have HNM := Lib.hid hnm; have HIM := Lib.hid him; (have hnm2 : 2 ≤ nm := by have := HML.out; omega); (have hnm3 : (nm : Int) ≤ 300000 := by have := HML.out; omega); (have hnm4 : (2 : Int) ≤ (nm : Int) := by omega); clear hb1 hcp hnm him)
    obtain ⟨gm, om, rfl⟩ : ∃ gm om, am = some ⟨gm, om, none⟩ := by
      obtain ⟨m0, hm0⟩ : ∃ m, M[0]? = some m := ⟨_, List.getElem?_eq_getElem (by have := HML.out; omega)⟩
      obtain ⟨g, o, e, -⟩ := HIM.out.get (nvals_get hm0)
      exact ⟨g, o, e⟩
    obtain ⟨g, o, rfl⟩ : ∃ g o, a = some ⟨g, o, none⟩ := by
      obtain ⟨t0, ht0⟩ : ∃ t, T[0]? = some t := by
        obtain ⟨m0, hm0⟩ : ∃ m, M[0]? = some m := ⟨_, List.getElem?_eq_getElem (by have := HML.out; omega)⟩
        have := HBM.out m0 (List.mem_of_getElem? hm0)
        exact ⟨_, List.getElem?_eq_getElem (by omega)⟩
      obtain ⟨g, o, -, -, -, e, -⟩ := H.out.get ht0
      exact ⟨g, o, e⟩
    have H1 := Lib.hid (H.out.over HB1.out)
    clear HCU
    go_loopw [2, 22] (PcRel w1 T M) (fun _ i _ => nm - (intOf i).toNat)
    case atStart => exact ⟨0, _, _, _, rfl, rfl, by have := HML.out; omega, rfl, CR.nil w1⟩
    case round =>
      obtain ⟨k, al, nl, cl, rfl, rfl, hk, rfl, hC⟩ := hrel
      have HC := Lib.hid hC
      clear hC
      have hk3 : (nl : Int) ≤ 300000 := by have := HML.out; omega
      by_cases hlt : nl + 1 < M.length
      · obtain ⟨ma, hma⟩ : ∃ m, M[nl]? = some m := ⟨_, List.getElem?_eq_getElem (by omega)⟩
        obtain ⟨mb, hmb⟩ : ∃ m, M[nl + 1]? = some m := ⟨_, List.getElem?_eq_getElem hlt⟩
        obtain ⟨hab, hbn⟩ := HRI.out nl ma mb hma hmb
        have hbn' : mb < n := by have := HN.out; omega
        obtain ⟨g1, o1, e1, hg1, ci1⟩ := HIM.out.get (nvals_get hma)
        obtain ⟨g2, o2, e2, -, ci2⟩ := HIM.out.get (nvals_get hmb)
        simp only [Option.some.injEq, Addr.mk.injEq, and_true] at e1 e2
        obtain ⟨rfl, rfl⟩ := e1
        obtain ⟨rfl, rfl⟩ := e2
        have HCI := Lib.hid (And.intro ci1 (And.intro ci2 hg1))
        have hrun := fun W => cut_run g o n cap ma mb hab hbn' hc1 W
        have HCL : Hid (∀ X : World, Below w1.heap.size w1 X → Calls Try.prog 29 #[.slice (some ⟨g, o + (ma + 1) * 8, none⟩) (mb - (ma + 1)) (cap - (ma + 1))] X (ToksHeld X (segL T ma mb))) := Lib.hid (fun X hX => tclone_held (seg_toks (H1.out.over hX) hab hbn') (by have := seg_le T ma mb; have := HTL.out; omega) (fun t ht => HS.out t (seg_in ht)))
        have HNEXT : Hid ((segsL T M).take (nl + 1) = (segsL T M).take nl ++ [segL T ma mb]) := Lib.hid (take_next (segs_get T M nl ma mb hma hmb))
        have hmaI : (ma : Int) ≤ 300000 := by have := HTL.out; omega
        have hltI : (nl : Int) < (nm : Int) - 1 := by have := HNM.out; omega
        have hnlm : (nl : Int) + 1 < (nm : Int) := by omega
        have hnl0 : (nl : Int) < (nm : Int) := by omega
        have hw1 : IntKind.i64.wrap ((nl : Int) + 1) = (nl : Int) + 1 := IntWalk.i64_in _ (by omega)
        have hw2 : IntKind.i64.wrap ((ma : Int) + 1) = (ma : Int) + 1 := IntWalk.i64_in _ (by omega)
        have hw3 : (0 : Int) ≤ (nl : Int) + 1 := by omega
        have hw4 : ((nl : Int) + 1).toNat = nl + 1 := by omega
        obtain ⟨q1, q2⟩ : wr.cell? ⟨gm, om + nl, none⟩ = some (.int .i64 (ma : Int)) ∧ wr.cell? ⟨gm, om + (nl + 1), none⟩ = some (.int .i64 (mb : Int)) := ⟨bcell HC.out.bel ci1 hg1, bcell HC.out.bel ci2 hg1⟩
        have hgw : gm < wr.heap.size := Nat.lt_of_lt_of_le hg1 HC.out.bel.size
        clear hma hmb hab hbn hbn' ci1 ci2
        go_wp2_with fail
        go_region_held3 (fun w' => w'.cell? ⟨gm, om + nl, none⟩ = some (.int .i64 (ma : Int)) ∧ w'.cell? ⟨gm, om + (nl + 1), none⟩ = some (.int .i64 (mb : Int)))
          (first | go_keep)
          (first
            | (go_at_call 29
               (refine (HCL.out _ ?_).mono ?_)
               · first | exact HC.out.bel.drew | exact HC.out.bel
               rintro e w3 ⟨a3, n3, c3, rfl, -, hz3, hh3, hb3⟩
               have q1 := bcell hb3 q1 hgw
               have q2 := bcell hb3 q2 hgw
               have hg3 : gm < w3.heap.size := Nat.lt_of_lt_of_le hgw hb3.size
               have HB3 : Hid (Below wr.heap.size wr w3) := Lib.hid (by first | exact hb3 | exact below_up (Below.refl _ _).drew hb3)
               have HPL := Lib.hid (PuL.mk (HC.out.over HB3.out) (HC.out.young (w' := w3) hh3) hz3 (by omega))
               clear hb3 hh3 hz3)
            | (refine step_ap rfl (.tmp 25) (.tmp 39) 31 rfl ?_ _ _ rfl rfl ?_ ?_
               rotate_left
               · exact PuL.app (by assumption)
               intro b9 n9 c9 w9 h9
               have HN9 := Lib.hid h9.1
               have HC9 := Lib.hid h9.2
               obtain ⟨x1, x2, hx0⟩ := HCI.out
               have q1 := bcell HC9.out.bel x1 hx0
               have q2 := bcell HC9.out.bel x2 hx0
               clear h9 x1 x2))
        all_goals clear q1 q2 hw1 hw2 hw4 hrun
        all_goals go_wp2
        all_goals go_roundw
        all_goals first
          | exact ⟨nl + 1, some ⟨b9, 0, none⟩, n9, c9, rfl, by go_num, by omega, HN9.out, by rw [HNEXT.out]; exact HC9.out⟩
          | (simp [intOf]; omega)
      · have hkk : nl + 1 = M.length := by omega
        have HCs : Hid (CR w1 (segsL T M) [] al nl cl none 0 0 wr) := Lib.hid (by have h := HC.out; rw [List.take_of_length_le (by have := HSG.out; omega)] at h; exact h)
        obtain ⟨K, hK⟩ : ∃ K, K + 2 = nm := ⟨nm - 2, by omega⟩
        have hrun2 : ∀ W, (Instr.slice 55 (.slice (some ⟨gm, om, none⟩) nm cm) (some (.int .i64 1)) (some (.int .i64 ((nm : Int) - 1))) none).run Try.prog W = .ok (.slice (some ⟨gm, om + 1, none⟩) K (cm - 1)) W := fun W => by
          have h := mid_run gm om nm cm (K + 1) (by omega) (by omega) HIM.out.len2.1 W
          rw [show ((K + 1 : Nat) : Int) = (nm : Int) - 1 from by omega, show K + 1 - 1 = K from by omega] at h
          exact h
        have hcm := HIM.out.len2.2
        unfold maxLen at hcm
        have hltI : ¬ (nl : Int) < (nm : Int) - 1 := by have := HNM.out; omega
        have hmw : IntKind.i64.wrap ((nm : Int) - 1) = (nm : Int) - 1 := IntWalk.i64_in _ (by omega)
        have HKM : Hid (K + 2 = M.length) := Lib.hid (by have := HNM.out; omega)
        have HKN := Lib.hid hK
        have hK3 : (K : Int) ≤ 300000 := by omega
        clear HC hkk hlt hK
        go_wp2
        go_loopw [3, 46] (PdRel w1 T M al nl cl) (fun _ i _ => K - (intOf i).toNat)
        case atStart => exact ⟨0, _, _, _, rfl, rfl, by have := HKM.out; omega, rfl, HCs.out⟩
        case round =>
          obtain ⟨k, ac, nc, cc, rfl, rfl, hk, rfl, hC⟩ := hrel
          have HC := Lib.hid hC
          clear hC
          by_cases hlt : nc < K
          · obtain ⟨mk, hmk⟩ : ∃ m, M[nc + 1]? = some m := ⟨_, List.getElem?_eq_getElem (by have := HKM.out; omega)⟩
            have hmb := HBM.out mk (List.mem_of_getElem? hmk)
            obtain ⟨t, ht⟩ : ∃ t, T[mk]? = some t := ⟨_, List.getElem?_eq_getElem hmb⟩
            obtain ⟨g1, o1, e1, hg1, ci1⟩ := HIM.out.get (nvals_get hmk)
            simp only [Option.some.injEq, Addr.mk.injEq, and_true] at e1
            obtain ⟨rfl, rfl⟩ := e1
            obtain ⟨g2, o2, sa, sn, sc, e2, hg2, -, hx, hs⟩ := H1.out.get ht
            simp only [Option.some.injEq, Addr.mk.injEq, and_true] at e2
            obtain ⟨rfl, rfl⟩ := e2
            have HBX := Lib.hid HC.out.bel
            obtain ⟨y0, y1, y2, y3, y4, y5, y6, y7⟩ := hx.next HBX.out hg2
            have q1 := bcell HBX.out ci1 hg1
            rw [show om + (nc + 1) = om + 1 + nc from by omega] at q1
            have HSA := Lib.hid (hs.held (P := fun _ => True) fun _ _ h => (h trivial).elim)
            have HNX : Hid (picksL T ((M.drop 1).take (nc + 1)) = picksL T ((M.drop 1).take nc) ++ [t]) := Lib.hid (by rw [take_next (l := M.drop 1) (k := nc) (a := mk) (by rw [List.getElem?_drop, Nat.add_comm 1 nc]; exact hmk), picks_snoc _ ht])
            have hmI : (mk : Int) < (n : Int) := by have := HN.out; omega
            have hm0 : (0 : Int) ≤ (mk : Int) := by omega
            have hltK : (nc : Int) < (K : Int) := by omega
            have hn0 : (0 : Int) ≤ (nc : Int) := by omega
            clear hmk hmb ht ci1 hx hs hg1 hg2
            go_wp2_with (at_builtin; refine wpList_append_sl rfl (.tmp 50) (.tmp 55) 22 rfl _ (CR.pushC (t := t) (b0 := sa) (n0 := sn) (c0 := sc) (HC.out.over ((Below.refl _ _).alloc (Nat.le_refl _) _)) ((HC.out.over ((Below.refl _ _).alloc (Nat.le_refl _) _)).old HSA.out) (src_tok (p := (t, .slice sa sn sc)) (blk_new _ _)) (by omega)) ?_; intro b9 n9 c9 w9 h9; have HN9 := Lib.hid h9.1; have HC9 := Lib.hid h9.2.1; clear h9 y0 y1 y2 y3 y4 y5 y6 y7 q1)
            go_roundw
            case rel => exact ⟨nc + 1, some ⟨b9, 0, none⟩, n9, c9, rfl, by go_num, by have := HKM.out; omega, HN9.out, by rw [HNX.out]; exact HC9.out⟩
            case measure => simp [intOf]; omega
          · obtain rfl : nc = K := by have := HKM.out; omega
            have HDL : Hid ((M.drop 1).take nc = (M.drop 1).dropLast) := Lib.hid (by rw [List.dropLast_eq_take, List.length_drop, show M.length - 1 - 1 = nc from by have := HKM.out; omega])
            obtain ⟨ml, hml⟩ : ∃ m, M[nc + 1]? = some m := ⟨_, List.getElem?_eq_getElem (by have := HKM.out; omega)⟩
            have hmb := HBM.out ml (List.mem_of_getElem? hml)
            have HLD : Hid (M.getLastD 0 = ml) := Lib.hid (by
              rw [List.getLastD_eq_getLast?, List.getLast?_eq_getElem?, show M.length - 1 = nc + 1 from by have := HKM.out; omega, hml]
              rfl)
            obtain ⟨g1, o1, e1, hg1, ci1⟩ := HIM.out.get (nvals_get hml)
            simp only [Option.some.injEq, Addr.mk.injEq, and_true] at e1
            obtain ⟨rfl, rfl⟩ := e1
            have HBX := Lib.hid HC.out.bel
            have HQ := Lib.hid (And.intro ci1 hg1)
            have q1 := bcell HBX.out ci1 hg1
            have hgw : gm < wr.heap.size := Nat.lt_of_lt_of_le hg1 HBX.out.size
            have hml3 : (ml : Int) ≤ 300000 := by have := HTL.out; omega
            have HD := Lib.hid HC.out.done
            have HCL : Hid (∀ X : World, Below wr.heap.size wr X → Calls Try.prog 29 #[.slice ac nc cc] X (ToksNew X (picksL T ((M.drop 1).take nc)))) := Lib.hid (fun X hX => tclone_any (HD.out.2.2.2.over hX) (by have := HD.out.2.2.1; omega) (fun t ht => HS.out t (picks_in ht)))
            have hnI : ¬ (nc : Int) < (nc : Int) := by omega
            have hnt : ((nm : Int) - 1).toNat = nc + 1 := by have := HKN.out; omega
            have hnp : (0 : Int) ≤ (nm : Int) - 1 := by omega
            have hnq : (nm : Int) - 1 < (nm : Int) := by omega
            have hnr : (1 : Int) ≤ (nm : Int) := by omega
            have hmlw : IntKind.i64.wrap ((ml : Int) + 1) = (ml : Int) + 1 := IntWalk.i64_in _ (by omega)
            clear hml hmb ci1 hrun2 hlt
            go_wp2_with fail
            go_region_held3 (fun w' => w'.cell? ⟨gm, om + (nc + 1), none⟩ = some (.int .i64 (ml : Int)))
              (first | go_keep)
              (first
                | (go_at_call 29
                   (refine (HCL.out _ ?_).mono ?_)
                   · first | exact (Below.refl _ _).drew | exact Below.refl _ _
                   rintro e w3 ⟨a3, n3, c3, rfl, hn3, hx3, hb3⟩
                   have q1 := bcell hb3 q1 hgw
                   have HB3 : Hid (Below wr.heap.size wr w3) := Lib.hid (by first | exact hb3 | exact below_up (Below.refl _ _).drew hb3)
                   have HN3 := Lib.hid hn3
                   have HX3 := Lib.hid hx3
                   clear hb3 hn3 hx3))
            clear q1
            go_wp2
            have HCE := HC.out.over HB3.out
            obtain ⟨z1, z2, -, -⟩ := HCE.done
            rw [← HRES.out]
            refine bodyPost_ret (v := .tuple #[.slice al nl cl, .slice a3 n3 c3, .int .i64 ((ml : Int) + 1), .bool true]) (by simp [results, Try.results11, go_sem]) rfl ⟨al, nl, cl, a3, n3, c3, ?_, z1, ?_, z2, ?_, below_up HB1.out (below_up HBX.out HB3.out)⟩
            · rw [HLD.out]
              rfl
            · rw [HN3.out, HDL.out]
            · rw [← HDL.out]
              exact HX3.out

end Go.Proofs.Ytipipookgcdfbaa

/-
  Are rows of rows the same: the law's lists.
-/
namespace Go.Proofs.Ytipipookgcdfbaa
open Go.RowKit

set_option maxRecDepth 100000 in
set_option maxHeartbeats 3200000 in
theorem lists_any {A : List (List Xt)} {v v' : Value} {w : World} (h : RowsX A v w) (h' : RowsX A v' w) : Calls Try.prog 13 #[v, v'] w (TruePost w) := by
  obtain ⟨a, n, cap, rfl⟩ := h.form
  obtain ⟨a', n', cap', rfl⟩ := h'.form
  obtain ⟨hn, hc1, hc2, -⟩ := h.len
  obtain ⟨hn', hc1', hc2', -⟩ := h'.len
  obtain rfl : n = n' := hn.trans hn'.symm
  unfold maxLen at hc2 hc2'
  have HX := Lib.hid h
  have HX' := Lib.hid h'
  have HN := Lib.hid hn
  have hnn : ((n : Int) != (n : Int)) = false := by simp
  clear h h' hn hn'
  go_enter Try.func13, Try.ntmps13
  go_wp2
  go_loopw [5] (fun i wr => ∃ k : Nat, i = .int .i64 (k : Int) ∧ k ≤ n ∧ Below w.heap.size w wr) (fun i _ => n - (intOf i).toNat)
  case atStart => exact ⟨0, rfl, Nat.zero_le _, Below.refl _ _⟩
  case round =>
    obtain ⟨k, rfl, hk, hb⟩ := hrel
    by_cases hlt : k < n
    · obtain ⟨T, ht⟩ : ∃ T, A[k]? = some T := ⟨_, List.getElem?_eq_getElem (by rw [← HN.out]; exact hlt)⟩
      obtain ⟨g, o, b1, m1, c1, rfl, hg, e0, -, hx1⟩ := HX.out.get ht
      obtain ⟨g', o', b2, m2, c2, rfl, hg', f0, -, hx2⟩ := HX'.out.get ht
      have e0 := bcell hb e0 hg
      have f0 := bcell hb f0 hg'
      have hkI : (k : Int) < (n : Int) := by omega
      have hk0 : (0 : Int) ≤ (k : Int) := by omega
      have HB := Lib.hid hb
      have HS : Hid (∀ X : World, Below w.heap.size w X → Calls Try.prog 14 #[.slice b1 m1 c1, .slice b2 m2 c2] X (TruePost X)) := Lib.hid (fun X hX => sameToks_any (hx1.over hX) (hx2.over hX))
      clear hb ht hx1 hx2
      go_wp2
      go_still_tail 8, (by kernel_rfl)
      change wpList _ _ _ _ _ wr.drew
      have HB2 : Hid (Below w.heap.size w wr.drew) := Lib.hid HB.out.drew
      obtain ⟨w2, hw2⟩ : ∃ w2, wr.drew = w2 := ⟨_, rfl⟩
      rw [hw2] at HB2 ⊢
      clear hw2 e0 f0
      go_wp2_with (go_at_call 14; (with_reducible refine (HS.out _ HB2.out).mono ?_); rintro e w3 ⟨rfl, hb3⟩; have HB3 := Lib.hid hb3; clear hb3)
      go_roundw
      case rel => exact ⟨k + 1, by go_num, hlt, HB2.out.trans (HB3.out.mono HB2.out.size)⟩
      case measure => simp [intOf]; omega
    · have hkI : ¬ (k : Int) < (n : Int) := by omega
      go_wp2
      go_ret
      exact ⟨rfl, hb⟩

end Go.Proofs.Ytipipookgcdfbaa

/-
  Arguments as parameters have them: lists; rows put together.
-/
namespace Go.Proofs.Ytipipookgcdfbaa
open Go.RowKit

/-- What stands behind an argument. -/
def restA (A : List (List Xt)) (C : List Xt) (j : Nat) : List Xt := if j < A.length then (C[j - 1]?).toList ++ weaveL (A.drop j) (C.drop j) else []
theorem weave_at {A : List (List Xt)} {C : List Xt} (hl : C.length = A.length - 1) {j : Nat} {T : List Xt} (hT : A[j]? = some T) : weaveL (A.drop j) (C.drop j) = T ++ restA A C (j + 1) := by
  obtain ⟨hj, rfl⟩ := List.getElem?_eq_some_iff.1 hT
  rw [List.drop_eq_getElem_cons hj]
  unfold restA
  rcases Nat.lt_or_ge (j + 1) A.length with h | h
  · have hc : j < C.length := by omega
    rw [List.drop_eq_getElem_cons hc, if_pos h, Nat.add_sub_cancel, List.getElem?_eq_getElem hc]
    rfl
  · rw [List.drop_of_length_le (by omega), List.drop_of_length_le (by omega : C.length ≤ j), if_neg (by omega)]
    show A[j] ++ weaveL [] [] = _
    rfl
theorem rest_at {A : List (List Xt)} {C : List Xt} (hl : C.length = A.length - 1) {j : Nat} {T : List Xt} {c : Xt} (hT : A[j]? = some T) (hc : C[j - 1]? = some c) : restA A C j = c :: (T ++ restA A C (j + 1)) := by
  have h := (List.getElem?_eq_some_iff.1 hT).1
  rw [← weave_at hl hT]
  show (if j < A.length then _ else _) = _
  rw [if_pos h, hc]
  rfl
theorem rest_end (A : List (List Xt)) (C : List Xt) : restA A C A.length = [] := if_neg (Nat.lt_irrefl _)
theorem drop_len {A : List (List Xt)} {C : List Xt} (hl : C.length = A.length - 1) (k : Nat) : (C.drop k).length = (A.drop k).length - 1 := by
  rw [List.length_drop, List.length_drop]
  omega

theorem hot_moved {B : Nat} {w w' : World} {e : TypeId} {size n c n' c' : Nat} {a a' : Option Addr} {xs : List Value} (ho : w.ownsRow B e size (.slice a n c) n xs) (hg : w.grownBy w' (Value.slice a n c).ownBlock) (hb : (Value.slice a' n' c').ownBlock = (Value.slice a n c).ownBlock ∨ (Value.slice a' n' c').ownBlock = some w.heap.size) {Q : Nat → Prop} {R : World → Prop} (h : HeldIn (fun g => a ≠ some ⟨g, 0, none⟩ ∧ Q g) w R) :
    HeldIn (fun g => a' ≠ some ⟨g, 0, none⟩ ∧ Q g) w' R := by
  have h1 : HeldIn (fun g => (a ≠ some ⟨g, 0, none⟩ ∧ Q g) ∧ g < w.heap.size) w R := h.mono fun g hg hl => ⟨hg, hl⟩
  have h2 := h1.over (StillB.of_grown hg fun g hgq e => hgq.1.1 (own_addr e.symm ho))
  refine h2.mono fun g hgq _ => ⟨fun e => ?_, hgq.1.2⟩
  have e2 : (Value.slice a' n' c').ownBlock = some g := by rw [e]; rfl
  rw [e2] at hb
  rcases hb with hb | hb
  · exact hgq.1.1 (own_addr hb.symm ho)
  · have := hgq.2
    simp only [Option.some.injEq] at hb
    omega

theorem run_app_at {t ty e : TypeId} {i0 : TypeInfo} {z : Value} {size bytes : Nat} {B n m : Nat} {v sv : Value} {xs news : List Value} {w : World}
    (ht : Try.prog.underlying t = some (.slice e)) (hi : Try.prog.info? e = some i0) (hz : i0.zero = some z) (hsz : i0.size = size) (hby : i0.bytes = bytes) (hzs : z.cells.size = size) (hpos : 0 < size) (hbb : bytes ≤ 100)
    (hd : w.ownsRow B e size v n xs) (hs : Src w sv m size news) (h1 : ∀ u ∈ news, u.oneCell' = true) (hn : n + m ≤ 1000000) (hB : B ≤ w.heap.size) :
    ∃ v' w', (Builtin.append_ #[t, t] ty #[v, sv]).run Try.prog w = .ok v' w' ∧ w'.ownsRow B e size v' (n + m) (xs ++ news) ∧ w.grownBy w' v.ownBlock ∧ (v'.ownBlock = v.ownBlock ∨ v'.ownBlock = some w.heap.size) := by
  have hbytes : (n + m) * bytes ≤ 140737488355328 := by
    have := Nat.mul_le_mul hn hbb
    omega
  rcases hs with ⟨rfl, rfl, rfl⟩ | ⟨ad, c, rfl, hl, hc⟩
  · rw [List.append_nil]
    exact ⟨v, w, run_append_owned_none (P := Try.prog) (w := w) B t ty e i0 size ht hi v n xs hd, hd, World.grownBy.refl w _, .inl rfl⟩
  · obtain ⟨v', w', hr, h2, h3, -, h5⟩ := run_append_own_at (P := Try.prog) w B t ty e i0 z size bytes ht hi hz hsz hby hzs hpos v n xs hd ad m c news hl hc h1 (by unfold maxLen; omega) hbytes hB
    exact ⟨v', w', hr, h2, h3, h5⟩

/-- Tokens more, as many as there are. -/
theorem CR.pushCs {W : World} {ls : List (List Xt)} {cs : List Xt} {al : Option Addr} {nl cl : Nat} {ac : Option Addr} {nc cc : Nat} {w : World} {ty : TypeId} (h : CR W ls cs al nl cl ac nc cc w) {P : List (Xt × Value)} {sv : Value} {m : Nat} (hv : ∀ p ∈ P, HeldIn (NotHot al ac) w (SitsA p.1.ss p.2)) (hs : Src w sv m 8 (xcells P)) (hn : nc + m ≤ 1000000) :
    ∃ v' w', (Builtin.append_ #[22, 22] ty #[.slice ac nc cc, sv]).run Try.prog w = .ok v' w' ∧ ∃ a' c', v' = .slice a' (nc + m) c' ∧ CR W ls (cs ++ P.map Prod.fst) al nl cl a' (nc + m) c' w' ∧ ∀ R, HeldIn (NotHot al ac) w R → HeldIn (NotHot al a') w' R := by
  obtain ⟨⟨V, hV, ho, hvs⟩, ⟨Q, hQ, hq, hp⟩, hb⟩ := h
  obtain ⟨i0, hi, hz0, hz1, hz2⟩ := info_parts Try.infoTokC
  have hone : ∀ u ∈ xcells P, u.oneCell' = true := xcells_one (w := w) fun p hp => (hv p hp).now
  obtain ⟨v', w', hr, h2, hg, h4⟩ := run_app_at (ty := ty) Try.underlying22 hi hz0 hz1 hz2 rfl (by decide) (by decide) hq hs hone hn hb.size
  obtain ⟨a', c', rfl, -, -, -⟩ := row_form h2
  have sw : ∀ (a c : Option Addr) (x : World) R, HeldIn (NotHot a c) x R → HeldIn (fun g => c ≠ some ⟨g, 0, none⟩ ∧ a ≠ some ⟨g, 0, none⟩) x R := fun a c x R hR => hR.mono fun g hg _ => ⟨hg.2, hg.1⟩
  have tr : ∀ R, HeldIn (NotHot al ac) w R → HeldIn (NotHot al a') w' R := fun R hR => (hot_moved hq hg h4 (Q := fun g => al ≠ some ⟨g, 0, none⟩) (sw _ _ _ _ hR)).mono fun g hg _ => ⟨hg.2, hg.1⟩
  refine ⟨_, w', hr, a', c', rfl, ⟨⟨V, hV, own_same ho fun g hg' => hg.block g (World.ownsRow.lt ho g hg').2 fun e => own_apart2 hq ho (by decide) g e.symm hg', fun p hp' => ⟨(hvs p hp').1, tr _ (hvs p hp').2⟩⟩, ⟨Q ++ P, by rw [List.map_append, hQ], by rw [xcells_cat]; exact h2, fun p hp' => ?_⟩, hb.grown hg hb.size fun k hk => (World.ownsRow.lt hq k hk).1⟩, tr⟩
  rcases List.mem_append.1 hp' with hp' | hp'
  · exact tr _ (hp p hp')
  · exact tr _ (hv p hp')

/-- A row put in its place. -/
theorem CR.setL {W : World} {ls : List (List Xt)} {cs : List Xt} {b nl cl : Nat} {ac : Option Addr} {nc cc : Nat} {w : World} (h : CR W ls cs (some ⟨b, 0, none⟩) nl cl ac nc cc w) (k : Nat) {T : List Xt} {a0 : Option Addr} {n0 c0 : Nat} (hv : HeldIn (NotHot (some ⟨b, 0, none⟩) ac) w (ToksX T (.slice a0 n0 c0))) (hz : a0 = none → c0 = 0) :
    CR W (ls.set k T) cs (some ⟨b, 0, none⟩) nl cl ac nc cc (w.setCell ⟨b, k, none⟩ (.slice a0 n0 c0)) := by
  obtain ⟨⟨V, hV, ho, hvs⟩, ⟨Q, hQ, hq, hp⟩, hb⟩ := h
  have hs : StillB (NotHot (some ⟨b, 0, none⟩) ac) w (w.setCell ⟨b, k, none⟩ (.slice a0 n0 c0)) := ⟨by simp [World.setCell], fun g hg _ => heap_setCell_other w _ g _ fun e => hg.1 (by simp only at e; rw [e])⟩
  refine ⟨⟨V.set k (T, .slice a0 n0 c0), by rw [List.map_set, hV], by rw [List.map_set]; exact own_setX ho k _, fun p hp' => ?_⟩, ⟨Q, hQ, own_same hq fun g hg => heap_setCell_other w _ g _ fun e => ?_, fun p hp' => (hp p hp').over hs⟩, hb.setCell (World.ownsRow.lt ho b rfl).1 _⟩
  · rcases List.mem_or_eq_of_mem_set hp' with hp' | rfl
    · exact ⟨(hvs p hp').1, (hvs p hp').2.over hs⟩
    · exact ⟨fun n c e => by simp only [Value.slice.injEq] at e; rw [← e.2.2]; exact hz e.1, hv.over hs⟩
  · simp only at e
    subst e
    exact own_apart2 ho hq (by decide) g rfl hg

theorem made_rowsL (z : Value) (n : Nat) : (madeCells #[z] n).toList = List.replicate n z := by
  have := toList_madeCells_one z n
  exact this
theorem make_rows (n : Nat) (hn : n ≤ 1000000) : ∃ cz : Array Value, cz.toList = List.replicate n (.slice none 0 0) ∧ ∀ W : World, (Instr.makeSlice 31 (.int .i64 (n : Int)) (.int .i64 (n : Int))).run Try.prog W = .ok (.slice (some ⟨W.heap.size, 0, none⟩) n n) (W.alloc (.cells cz 22)) := by
  obtain ⟨i0, hi, hz0, hz1, hz2⟩ := info_parts Try.infoRowT
  refine ⟨madeCells #[.slice none 0 0] n, made_rowsL _ _, fun W => ?_⟩
  have h := run_make (P := Try.prog) W 31 22 i0 (.slice none 0 0) Try.underlying31 hi hz0 .i64 .i64 (n : Int) (n : Int) (by omega) (by omega) (by rw [hz2]; omega) (by omega)
  simp only [Int.toNat_natCast, hz1, Nat.mul_one] at h
  exact h
/-- Rows that are still empty. -/
theorem CR.made (W : World) (n : Nat) {cz : Array Value} (hc : cz.toList = List.replicate n (.slice none 0 0)) (hn : n ≤ 1000000) : CR W (List.replicate n []) [] (some ⟨W.heap.size, 0, none⟩) n n none 0 0 (W.alloc (.cells cz 22)) := by
  have hsz : cz.size = n := by rw [← Array.length_toList, hc, List.length_replicate]
  refine ⟨⟨List.replicate n ([], .slice none 0 0), by simp, ⟨by simp, .inr ⟨W.heap.size, n, cz, rfl, Nat.le_refl _, heap_alloc_new _ _, Nat.le_refl _, by unfold maxLen; omega, by rw [hsz]; omega, by rw [hc]; simp⟩⟩, fun p hp => ?_⟩, ⟨[], rfl, ⟨rfl, .inl ⟨rfl, rfl⟩⟩, fun _ h => by cases h⟩, (Below.refl _ _).alloc (Nat.le_refl _) _⟩
  obtain ⟨-, rfl⟩ := List.mem_replicate.1 hp
  exact ⟨fun n c e => by simp only [Value.slice.injEq] at e; exact e.2.2.symm, fun _ _ => toksX_nil _⟩

end Go.Proofs.Ytipipookgcdfbaa
