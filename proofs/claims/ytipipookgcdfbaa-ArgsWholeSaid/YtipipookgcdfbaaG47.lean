/-
  Texts of the proof, put together: LAWho.
-/
import Derived.Test.YtipipookgcdfbaaG46

/-
  ArgsWhole, walked.
-/
namespace Go.Proofs.Ytipipookgcdfbaa
open Go.RowKit

set_option maxRecDepth 100000 in
set_option maxHeartbeats 6400000 in
theorem whole_out {T : List Xt} {v : Value} (m : Int) (W : World) (h : ToksX T v W) (ho : fewB T 60 = false ∨ (fewB T 60 = true ∧ m < 0) ∨ (fewB T 60 = true ∧ ¬ m < 0 ∧ 20 < m)) : Calls Try.prog 5 #[v, .int .i64 m] W (TruePost W) := by
  obtain ⟨a, n, cap, rfl⟩ := h.form
  have HF : Hid (Calls Try.prog 8 #[.slice a n cap, .int .i64 60] W (BoolPost (fewB T 60) W)) := Lib.hid (few_any h 60 (by omega))
  have HA : Hid (∀ X : World, Calls Try.prog 10 #[] X (TruePost X)) := Lib.hid (fun X => awake10_any X)
  clear h
  rcases ho with ho | ⟨ho, h1⟩ | ⟨ho, h1, h2⟩
  all_goals
    rw [ho] at HF
    clear ho
    go_enter Try.func5, Try.ntmps5
    go_wp2_with (first
      | (go_at_call 8; (with_reducible refine HF.out.mono ?_); rintro e w' ⟨rfl, rfl⟩)
      | (go_at_call 10; (with_reducible refine (HA.out _).mono ?_); rintro e w9 ⟨rfl, hb⟩; have HB9 := Lib.hid hb; clear hb))
    go_ret
    exact ⟨rfl, HB9.out⟩

set_option maxRecDepth 100000 in
set_option maxHeartbeats 6400000 in
theorem whole_none {T : List Xt} {v : Value} {q : Nat} (W : World) (h : ToksX T v W) (hf : fewB T 60 = true) (hq : q ≤ 20) (hc : collectL T = none) : Calls Try.prog 5 #[v, .int .i64 (q : Int)] W (TruePost W) := by
  obtain ⟨a, n, cap, rfl⟩ := h.form
  obtain ⟨hl, hs⟩ := few_is hf
  have HF : Hid (Calls Try.prog 8 #[.slice a n cap, .int .i64 60] W (BoolPost true W)) := Lib.hid (by have := few_any h 60 (by omega); rw [hf] at this; exact this)
  have HA : Hid (∀ X : World, Calls Try.prog 10 #[] X (TruePost X)) := Lib.hid (fun X => awake10_any X)
  have HC : Hid (Calls Try.prog 11 #[.slice a n cap] W (ColPost W none)) := Lib.hid (by have := pcol_any h (by omega) (fun t ht => by have := (hs t ht).2; omega); rw [hc] at this; exact this)
  have h1 : ¬ (q : Int) < 0 := by omega
  have h2 : ¬ (20 : Int) < (q : Int) := by omega
  clear h hf hl hs hc
  go_enter Try.func5, Try.ntmps5
  go_wp2_with (first
    | (go_at_call 8; (with_reducible refine HF.out.mono ?_); rintro e w' ⟨rfl, rfl⟩)
    | (go_at_call 11; (with_reducible refine HC.out.mono ?_); rintro e w1 ⟨rfl, hb⟩; have HB1 := Lib.hid hb; clear hb)
    | (go_at_call 10; (with_reducible refine (HA.out _).mono ?_); rintro e w9 ⟨rfl, hb⟩; have HB9 := Lib.hid (below_up HB1.out hb); clear hb))
  go_ret
  exact ⟨rfl, HB9.out⟩

def WholeRel (w1 : World) (A : List (List Xt)) (N : Nat) (av iv : Value) (wr : World) : Prop := ∃ i p : Nat, iv = .int .i64 (i : Int) ∧ i ≤ N ∧ av = .int .i64 (p : Int) ∧ p = 1 + preA A i ∧ Below w1.heap.size w1 wr
def WholeIn (w1 : World) (A : List (List Xt)) (i m : Nat) (av jv : Value) (wr : World) : Prop := ∃ j p : Nat, jv = .int .i64 (j : Int) ∧ j ≤ m ∧ av = .int .i64 (p : Int) ∧ p = 1 + preA A i + j ∧ Below w1.heap.size w1 wr
def WholeBox (w3 : World) (q : Nat) (iv : Value) (wr : World) : Prop := ∃ (j : Nat) (S : List ByteArray) (sa : Option Addr) (sc : Nat), iv = .int .i64 (j : Int) ∧ j ≤ q + 1 ∧ PBox w3 w3.heap.size S sa j sc wr
def WholeSum (w5 : World) (B : List (List Xt)) (N : Nat) (sv iv : Value) (wr : World) : Prop := ∃ i s : Nat, iv = .int .i64 (i : Int) ∧ i ≤ N ∧ sv = .int .i64 (s : Int) ∧ s = sumA B i ∧ Below w5.heap.size w5 wr

set_option maxRecDepth 100000 in
set_option maxHeartbeats 12800000 in
theorem whole_in {T : List Xt} {v : Value} {q k : Nat} {A : List (List Xt)} {C : List Xt} (W : World) (h : ToksX T v W) (hf : fewB T 60 = true) (hq : q ≤ 20) (hc : collectL T = some (A, C, k)) : Calls Try.prog 5 #[v, .int .i64 (q : Int)] W (TruePost W) := by
  obtain ⟨a, n, cap, rfl⟩ := h.form
  obtain ⟨hl, hs⟩ := few_is hf
  have HF : Hid (Calls Try.prog 8 #[.slice a n cap, .int .i64 60] W (BoolPost true W)) := Lib.hid (by have := few_any h 60 (by omega); rw [hf] at this; exact this)
  have HA : Hid (∀ X : World, Calls Try.prog 10 #[] X (TruePost X)) := Lib.hid (fun X => awake10_any X)
  have HC : Hid (Calls Try.prog 11 #[.slice a n cap] W (ColPost W (some (A, C, k)))) := Lib.hid (by have := pcol_any h (by omega) (fun t ht => by have := (hs t ht).2; omega); rw [hc] at this; exact this)
  have HFI : Hid (FitIn A C) := Lib.hid (col_fit hc hl (fun t ht => (hs t ht).2))
  obtain ⟨a1, a2, a3, a4, a5, a6⟩ := col_all hc
  have HG := Lib.hid a5
  have HX := Lib.hid h
  obtain ⟨hn, hcap1, hcap2⟩ := h.len
  unfold maxLen at hcap2
  have HN := Lib.hid hn
  obtain ⟨M, hM⟩ : ∃ M, C.length = M := ⟨_, rfl⟩
  rw [hM] at a1
  have HAL := Lib.hid a1
  have HCL := Lib.hid hM
  have h1 : ¬ (q : Int) < 0 := by omega
  have h2 : ¬ (20 : Int) < (q : Int) := by omega
  have hM60 : (M : Int) ≤ 60 := by omega
  have hk2 : ¬ (k : Int) < 2 := by omega
  have hkn : ¬ (n : Int) < (k : Int) := by omega
  have hkN : ¬ n < k := by omega
  have hkd : decide (n < k) = false := decide_eq_false hkN
  have hk60 : (k : Int) ≤ 60 := by omega
  have hn60 : (n : Int) ≤ 60 := by omega
  have hmm : ((M : Int) + 1 != (M : Int) + 1) = false := by simp
  have HK : Hid (1 + preA A (M + 1) = k) := Lib.hid (by rw [← a1]; exact a4)
  have HPL : Hid (∀ i, preA A i ≤ 60) := Lib.hid (fun i => by have := pre_le A i; omega)
  have HS6 : Hid ((A.map List.length).sum + M + 2 = k) := Lib.hid (by rw [← hM]; exact a6)
  clear h hf hl hs hc a1 a2 a3 a4 a5 a6 hn hM
  go_enter Try.func5, Try.ntmps5
  go_wp2_with (first
    | (go_at_call 8; (with_reducible refine HF.out.mono ?_); rintro e w' ⟨rfl, rfl⟩)
    | (go_at_call 11; (with_reducible refine HC.out.mono ?_); rintro e w1 ⟨al, nl, cl, ac, nc, cc, rfl, hnl, hnc, hr, ht, hb⟩; (obtain rfl : nl = M + 1 := hnl.trans HAL.out); (obtain rfl : nc = M := hnc.trans HCL.out); have HR := Lib.hid hr; have HT := Lib.hid ht; have HB1 := Lib.hid hb; clear hb hr ht hnl hnc))
  have HX1 : Hid (ToksX T (.slice a n cap) w1) := Lib.hid (HX.out.over HB1.out)
  obtain ⟨-, hcl1, hcl2, -⟩ := HR.out.len
  unfold maxLen at hcl2
  clear HF HC HX
  go_loopw [9, 10] (WholeRel w1 A (nc + 1)) (fun _ i _ => nc + 1 - (intOf i).toNat)
  case atStart => exact ⟨0, 1, rfl, Nat.zero_le _, rfl, by rw [pre_zero], Below.refl _ _⟩
  case round =>
    obtain ⟨i, p, rfl, hi, rfl, hp, hb⟩ := hrel
    by_cases hlt : i < nc + 1
    · obtain ⟨U, hU⟩ : ∃ U, A[i]? = some U := ⟨_, List.getElem?_eq_getElem (by rw [HAL.out]; exact hlt)⟩
      obtain ⟨g, o, b1, m1, c1, rfl, hg, e0, -, hx1⟩ := HR.out.get hU
      obtain ⟨hm1, hd1, hd2⟩ := hx1.len
      unfold maxLen at hd2
      have HU := Lib.hid hU
      have HP := Lib.hid hp
      have HE0 := Lib.hid e0
      have HX2 := Lib.hid hx1
      have HM1 := Lib.hid hm1
      have HB2 := Lib.hid hb
      have HG1 := Lib.hid hg
      have hiI : (i : Int) < (nc : Int) + 1 := by omega
      have hi0 : (0 : Int) ≤ (i : Int) := by omega
      clear hU hx1 hm1 hb hp e0 hg
      go_wp2
      go_loopw [9, 11] (WholeIn w1 A i m1) (fun _ j _ => m1 - (intOf j).toNat)
      case atStart => exact ⟨0, p, rfl, Nat.zero_le _, rfl, HP.out, HB2.out⟩
      case round =>
        obtain ⟨j, p, rfl, hj, rfl, hp, hb⟩ := hrel
        have e0 := bcell hb HE0.out HG1.out
        by_cases hlj : j < m1
        · obtain ⟨t, ht⟩ : ∃ t, U[j]? = some t := ⟨_, List.getElem?_eq_getElem (by rw [← HM1.out]; exact hlj)⟩
          obtain ⟨hT, hpl⟩ := HG.out i U j t HU.out ht
          rw [← hp] at hT hpl
          obtain ⟨g2, o2, sa, sn, sc, rfl, hg2, -, hta, hsa⟩ := HX2.out.get ht
          obtain ⟨g3, o3, sa', sn', sc', rfl, hg3, -, htb, hsb⟩ := HX1.out.get hT
          obtain ⟨u0, u1, u2, u3, u4, u5, u6, u7⟩ := hta.next hb hg2
          obtain ⟨f0, f1, f2, f3, f4, f5, f6, f7⟩ := htb.next hb hg3
          have hpn : ¬ (n : Int) ≤ (p : Int) := by have := HN.out; omega
          have hpn3 : p < n := by have := HN.out; omega
          have hpn4 : ¬ n ≤ p := by omega
          have hpn5 : decide (n ≤ p) = false := decide_eq_false hpn4
          have hpn2 : (p : Int) < (n : Int) := by have := HN.out; omega
          have hp0 : (0 : Int) ≤ (p : Int) := by omega
          have hjI : (j : Int) < (m1 : Int) := by omega
          have hj0 : (0 : Int) ≤ (j : Int) := by omega
          have HB := Lib.hid hb
          have HPJ := Lib.hid hp
          have HS : Hid (∀ X : World, Below w1.heap.size w1 X → Calls Try.prog 24 #[.agg #[.int .i64 t.k, .string t.x, .bool t.sp, .string t.g, .int .i64 t.f, .int .i64 t.t, .bool t.d, .slice sa' sn' sc'], .agg #[.int .i64 t.k, .string t.x, .bool t.sp, .string t.g, .int .i64 t.f, .int .i64 t.t, .bool t.d, .slice sa sn sc]] X (TruePost X)) := Lib.hid (fun X hX => sameTok_any t (hsb.over hX) (hsa.over hX))
          clear hb ht hT hta htb hsa hsb hp
          go_wp2
          go_still_tail 16, (by kernel_rfl)
          change wpList _ _ _ _ _ wr.drew
          have HB3 : Hid (Below w1.heap.size w1 wr.drew) := Lib.hid HB.out.drew
          obtain ⟨w2, hw2⟩ : ∃ w2, wr.drew = w2 := ⟨_, rfl⟩
          rw [hw2] at HB3 ⊢
          clear hw2 e0 f0 f1 f2 f3 f4 f5 f6 f7 u0 u1 u2 u3 u4 u5 u6 u7
          go_wp2_with (go_at_call 24; (with_reducible refine (HS.out _ HB3.out).mono ?_); rintro e w3 ⟨rfl, hb3⟩; have HB4 := Lib.hid hb3; clear hb3)
          go_roundw
          case rel => exact ⟨j + 1, p + 1, by go_num, hlj, by go_num, by have := HPJ.out; omega, below_up HB3.out HB4.out⟩
          case measure => simp [intOf]; omega
        · have hjI : ¬ (j : Int) < (m1 : Int) := by omega
          have HPJ : Hid (p + 1 = 1 + preA A (i + 1)) := Lib.hid (by rw [pre_succ HU.out, ← HM1.out]; omega)
          have HB := Lib.hid hb
          have hp60 : p ≤ 1000 := by have := HPL.out (i + 1); have := HPJ.out; omega
          clear hb hp
          go_wp2
          go_roundw
          case rel => exact ⟨i + 1, p + 1, by go_num, hlt, by go_num, HPJ.out, HB.out⟩
          case measure => simp [intOf]; omega
    · have hiI : ¬ (i : Int) < (nc : Int) + 1 := by omega
      obtain rfl : i = nc + 1 := by omega
      obtain rfl : p = k := by rw [hp]; exact HK.out
      have HB2 := Lib.hid hb
      clear hb hp
      go_wp2
      have hpb := pbox_new wr
      obtain ⟨w4, hw4⟩ : ∃ w4, wr.alloc (.cells #[.string ⟨#[]⟩, .bool true, .bool true, .slice none 0 0, .slice none 0 0, .string ⟨#[]⟩, .int .i64 0, .int .i64 0] 38) = w4 := ⟨_, rfl⟩
      rw [hw4] at hpb ⊢
      have HPB := Lib.hid hpb
      clear hpb hw4
      obtain ⟨w3, hw3⟩ : ∃ w3, w3 = wr := ⟨_, rfl⟩
      subst hw3
      go_loopw [13] (fun iv wx => WholeBox w3 q iv wx) (fun i _ => q + 1 - (intOf i).toNat)
      case atStart => exact ⟨0, [], none, 0, rfl, Nat.zero_le _, HPB.out⟩
      case round =>
        obtain ⟨j, S, sa, sc, rfl, hj, hpb⟩ := hrel
        have HQ := Lib.hid hpb
        obtain ⟨⟨y0, y1, y2, y3, y4, y5, y6, y7⟩, z⟩ := mObj_cells hpb.box
        clear hpb
        by_cases hlj : j ≤ q
        · have hjI : (j : Int) ≤ (q : Int) := by omega
          have hz : j < 21 := by omega
          have hcv := letterW_conv wr j hz
          have HPU : Hid (∀ (o : Obj) (ty : TypeId), ∃ v' w', (Builtin.append_ #[23, 23] ty #[.slice sa j sc, .slice (some ⟨wr.heap.size + 1, 0, none⟩) 1 1]).run Try.prog ((wr.alloc o).alloc (.cells #[.string (⟨#[112]⟩ ++ ⟨#[97 + UInt8.ofNat j]⟩)] 9)) = .ok v' w' ∧ PushR w3 w3.heap.size S (⟨#[112]⟩ ++ ⟨#[97 + UInt8.ofNat j]⟩) sa j sc v' w') := Lib.hid (fun o ty => HQ.out.push _ o ty (by omega))
          have q1 : ((⟨#[112]⟩ : ByteArray).size + (⟨#[97 + UInt8.ofNat j]⟩ : ByteArray).size > 9223372036854775807) = False := by simp [ByteArray.size]
          go_wp2_with (at_builtin; refine wpList_append_ex rfl (.tmp 115) (.tmp 122) 23 rfl (PushR _ _ _ _ _ _ _) (HPU.out _ _) ?_; rintro v4 w4 ⟨sa4, sc4, rfl, x1, x2, hp4⟩; have HP4 := Lib.hid hp4; clear hp4)
          go_roundw
          case rel => exact ⟨j + 1, _, sa4, sc4, by go_num, by omega, HP4.out⟩
          case measure => simp [intOf]; omega
        · have hjI : ¬ (j : Int) ≤ (q : Int) := by omega
          obtain rfl : j = q + 1 := by omega
          have HR3 : Hid (RowsX A (.slice al (nc + 1) cl) wr) := Lib.hid (HR.out.over (below_up HB2.out HQ.out.bel))
          have HT3 : Hid (ToksX C (.slice ac nc cc) wr) := Lib.hid (HT.out.over (below_up HB2.out HQ.out.bel))
          have HB3 : Hid (Below W.heap.size W wr) := Lib.hid (below_up HB1.out (below_up HB2.out HQ.out.bel))
          have hfit : Calls Try.prog 15 #[.agg #[.string ⟨#[]⟩, .bool true, .bool true, .slice sa (q + 1) sc, .slice none 0 0, .string ⟨#[]⟩, .int .i64 0, .int .i64 0], .slice al (nc + 1) cl, .slice ac nc cc] wr (FitPost wr (fitL (q + 1) true A C)) := by
            have hl : (boxM S).ps.length = q + 1 := HQ.out.len
            have h := pfit_any HQ.out.mac (by rw [hl]; omega) HR3.out HT3.out HFI.out
            rw [hl] at h
            exact h
          replace y0 : wr.cell? ⟨w3.heap.size, 0, none⟩ = some (.string ⟨#[]⟩) := y0
          replace y1 : wr.cell? ⟨w3.heap.size, 1, none⟩ = some (.bool true) := y1
          replace y2 : wr.cell? ⟨w3.heap.size, 2, none⟩ = some (.bool true) := y2
          replace y5 : wr.cell? ⟨w3.heap.size, 5, none⟩ = some (.string ⟨#[]⟩) := y5
          replace y6 : wr.cell? ⟨w3.heap.size, 6, none⟩ = some (.int .i64 0) := y6
          replace y7 : wr.cell? ⟨w3.heap.size, 7, none⟩ = some (.int .i64 0) := y7
          rw [fit_more] at hfit
          clear z HPB HQ HR3 HT3 HG HX1
          by_cases hge : q ≤ nc + 1
          · rw [if_neg (by rw [HAL.out]; omega)] at hfit
            obtain ⟨x1, x2⟩ := fit_all (A := A) (C := C) (q := q) (by rw [HAL.out, HCL.out]) (by rw [HAL.out]; exact hge)
            obtain ⟨B, hB⟩ : ∃ B, A.take q ++ [weaveL (A.drop q) (C.drop q)] = B := ⟨_, rfl⟩
            rw [hB] at hfit x1 x2
            rw [HCL.out] at x2
            have HFT := Lib.hid hfit
            have HBL := Lib.hid x1
            obtain ⟨mn, hmn0⟩ : ∃ mn, min q nc = mn := ⟨_, rfl⟩
            rw [hmn0] at x2
            have hmn : min (q : Int) (nc : Int) = (mn : Int) := by omega
            have hmn60 : mn ≤ 60 := by omega
            have HSB : Hid (sumA B (q + 1) + mn + 2 = p) := Lib.hid (by rw [← x1, sumA_all]; have := HS6.out; omega)
            have HSL : Hid (∀ i, sumA B i ≤ 60) := Lib.hid (fun i => by have := sumA_le B i; have := HS6.out; omega)
            have hgd : decide (q ≤ nc + 1) = true := decide_eq_true hge
            have hgI : (q : Int) ≤ (nc : Int) + 1 := by omega
            have hqq : ((q : Int) + 1 != (q : Int) + 1) = false := by simp
            clear hfit hB x1 x2 hmn0
            go_wp2_with (go_at_call 15; (with_reducible refine HFT.out.mono ?_); rintro e w5 ⟨fa, fn, fc, rfl, hfn, hfr, hfb⟩; (obtain rfl : fn = q + 1 := hfn.trans HBL.out); have HFR := Lib.hid hfr; have HB5 := Lib.hid (below_up HB3.out hfb); clear hfr hfb hfn)
            obtain ⟨-, hfc1, hfc2, -⟩ := HFR.out.len
            unfold maxLen at hfc2
            clear y0 y1 y2 y3 y4 y5 y6 y7 HFT
            go_loopw [16, 17] (WholeSum w5 B (q + 1)) (fun _ i _ => q + 1 - (intOf i).toNat)
            case atStart => exact ⟨0, 0, rfl, Nat.zero_le _, rfl, (sumA_zero _).symm, Below.refl _ _⟩
            case round =>
              obtain ⟨i, s, rfl, hi, rfl, hs, hb⟩ := hrel
              by_cases hli : i < q + 1
              · obtain ⟨U, hU⟩ : ∃ U, B[i]? = some U := ⟨_, List.getElem?_eq_getElem (by rw [HBL.out]; exact hli)⟩
                obtain ⟨g, o, b1, m1, c1, rfl, hg, e0, -, hx1⟩ := HFR.out.get hU
                have e0 := bcell hb e0 hg
                have HM1 := Lib.hid hx1.len.1
                have HSU : Hid (s + m1 = sumA B (i + 1)) := Lib.hid (by rw [sumA_succ hU, hs, HM1.out])
                have hsm : s + m1 ≤ 60 := by have := HSL.out (i + 1); have := HSU.out; omega
                have hiI : (i : Int) < (q : Int) + 1 := by omega
                have hi0 : (0 : Int) ≤ (i : Int) := by omega
                have HB6 := Lib.hid hb
                clear hU hx1 hb hs
                go_wp2
                go_roundw
                case rel => exact ⟨i + 1, s + m1, by go_num, hli, by go_num, HSU.out, HB6.out⟩
                case measure => simp [intOf]; omega
              · have hiI : ¬ (i : Int) < (q : Int) + 1 := by omega
                obtain rfl : i = q + 1 := by omega
                have hsp : s + mn + 2 = p := by rw [hs]; exact HSB.out
                have hw1 : IntKind.i64.wrap ((p : Int) - 2) = (p : Int) - 2 := IntWalk.i64_in _ (by omega)
                have hw2 : IntKind.i64.wrap ((p : Int) - 2 - (mn : Int)) = (p : Int) - 2 - (mn : Int) := IntWalk.i64_in _ (by omega)
                have heq : ((s : Int) == (p : Int) - 2 - (mn : Int)) = true := by simp; omega
                have hpp : ((p : Int) == (p : Int)) = true := by simp
                have HB6 := Lib.hid (below_up HB5.out hb)
                clear hb hs
                go_wp2_with (go_at_call 10; (with_reducible refine (HA.out _).mono ?_); rintro e w9 ⟨rfl, hb⟩; have HB9 := Lib.hid (below_up HB6.out hb); clear hb)
                go_ret
                exact ⟨rfl, HB9.out⟩
          · rw [if_pos (by rw [HAL.out]; omega)] at hfit
            have HFT := Lib.hid hfit
            have hgd : decide (q ≤ nc + 1) = false := decide_eq_false hge
            have hgI : ¬ (q : Int) ≤ (nc : Int) + 1 := by omega
            clear hfit
            go_wp2_with (go_at_call 15; (with_reducible refine HFT.out.mono ?_); rintro e w5 ⟨rfl, hfb⟩; have HB5 := Lib.hid (below_up HB3.out hfb); clear hfb)
            clear y0 y1 y2 y3 y4 y5 y6 y7 HFT
            go_loopw [16, 17] (WholeSum w5 [] 0) (fun _ i _ => 0 - (intOf i).toNat)
            case atStart => exact ⟨0, 0, rfl, Nat.zero_le _, rfl, (sumA_zero _).symm, Below.refl _ _⟩
            case round =>
              obtain ⟨i, s, rfl, hi, rfl, hs, hb⟩ := hrel
              obtain rfl : i = 0 := by omega
              have hpp : ((p : Int) == (p : Int)) = true := by simp
              have HB6 := Lib.hid (below_up HB5.out hb)
              clear hb hs
              go_wp2_with (go_at_call 10; (with_reducible refine (HA.out _).mono ?_); rintro e w9 ⟨rfl, hb⟩; have HB9 := Lib.hid (below_up HB6.out hb); clear hb)
              go_ret
              exact ⟨rfl, HB9.out⟩

theorem whole_law {T : List Xt} {v : Value} (m : Int) (W : World) (h : ToksX T v W) : Calls Try.prog 5 #[v, .int .i64 m] W (TruePost W) := by
  cases hf : fewB T 60 with
  | false => exact whole_out m W h (.inl hf)
  | true =>
    by_cases h1 : m < 0
    · exact whole_out m W h (.inr (.inl ⟨hf, h1⟩))
    · by_cases h2 : 20 < m
      · exact whole_out m W h (.inr (.inr ⟨hf, h1, h2⟩))
      · obtain ⟨q, rfl⟩ : ∃ q : Nat, m = (q : Int) := ⟨m.toNat, by omega⟩
        cases hc : collectL T with
        | none => exact whole_none W h hf (by omega) hc
        | some x => exact whole_in (A := x.1) (C := x.2.1) (k := x.2.2) W h hf (by omega) hc

end Go.Proofs.Ytipipookgcdfbaa
