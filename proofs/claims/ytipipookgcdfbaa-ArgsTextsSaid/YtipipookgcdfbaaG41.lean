/-
  Texts of the proof, put together: AgRFit.
-/
import Derived.Test.YtipipookgcdfbaaG40

/-
  The document's Fit, walked.
-/
namespace Go.Proofs.Ytipipookgcdfbaa
open Go.RowKit

set_option maxRecDepth 100000 in
set_option maxHeartbeats 6400000 in
theorem rfit_zero {m : Xm} {pa ba : Option Addr} {pc bn bc : Nat} {A : List (List Xt)} {C : List Xt} {lv cv : Value} {w : World} (hA : RowsX A lv w) (hC : ToksX C cv w) : Calls Try.prog 17 #[macV m (.slice pa 0 pc) (.slice ba bn bc), lv, cv] w (FitPost w (fitL 0 m.va A C)) := by
  obtain ⟨a, n, cap, rfl⟩ := hA.form
  obtain ⟨ca, cn, ccap, rfl⟩ := hC.form
  obtain ⟨hn, hc1, hc2, -⟩ := hA.len
  unfold maxLen at hc2
  unfold macV
  have HB : Hid (Below w.heap.size w (w.alloc (.cells #[.string m.n, .bool m.fn, .bool m.va, .slice pa 0 pc, .slice ba bn bc, .string m.g, .int .i64 m.f, .int .i64 m.t] 27))) := Lib.hid ((Below.refl _ _).alloc (Nat.le_refl _) _)
  by_cases h1 : n = 1
  · obtain ⟨T, rfl⟩ : ∃ T, A = [T] := by
      match A, hn with
      | [], hn => simp at hn; omega
      | [T], _ => exact ⟨T, rfl⟩
      | _ :: _ :: _, hn => simp at hn; omega
    subst h1
    obtain ⟨g, o, b1, m1, c1, rfl, hg, e0, -, hx1⟩ := hA.get (k := 0) rfl
    have hm1 := hx1.len.1
    rw [Nat.add_zero] at e0
    have e1 := bcell HB.out e0 hg
    cases T with
    | nil =>
      obtain rfl : m1 = 0 := hm1
      have HE : Hid (fitL 0 m.va [[]] C = some []) := Lib.hid rfl
      rw [HE.out]
      clear hA hC hn hx1 e0
      go_enter Try.func17, Try.ntmps17
      go_wp2_with fail
      go_quiet (fail)
      go_wp2
      go_ret2
      exact ⟨_, _, _, rfl, rfl, rowsX_nil _, below_up HB.out (Below.of_drews _ _)⟩
    | cons t r =>
      have HE : Hid (fitL 0 m.va [t :: r] C = none) := Lib.hid rfl
      rw [HE.out]
      have hne : ((m1 : Int) == 0) = false := by rw [hm1]; simp; omega
      clear hA hC hn hx1 e0 hm1
      go_enter Try.func17, Try.ntmps17
      go_wp2_with fail
      go_quiet (fail)
      go_wp2
      go_ret2
      exact ⟨rfl, below_up HB.out (Below.of_drews _ _)⟩
  · have HE : Hid (fitL 0 m.va A C = none) := Lib.hid (fit_zero _ _ fun T h => by rw [h] at hn; exact absurd hn h1)
    rw [HE.out]
    have hne : ((n : Int) == 1) = false := by simp; omega
    clear hA hC hn h1
    go_enter Try.func17, Try.ntmps17
    go_wp2_with fail
    go_quiet (fail)
    go_wp2
    go_ret2
    exact ⟨rfl, below_up HB.out (Below.of_drews _ _)⟩

def CopyR (W : World) (A : List (List Xt)) (k : Nat) (v' : Value) (w' : World) : Prop := ∃ a' n' c', v' = .slice a' n' c' ∧ n' = k ∧ CR W A [] a' n' c' none 0 0 w'

def RfRel (W1 : World) (A : List (List Xt)) (C : List Xt) (M : Nat) (al : Option Addr) (nl cl : Nat) (t10 t11 : Value) (wr : World) : Prop :=
  ∃ (i : Nat) (P : List (Xt × Value)) (bn : Option Addr) (nn cn : Nat), t10 = .slice bn nn cn ∧ t11 = .int .i64 (i : Int) ∧ M ≤ i ∧ i ≤ A.length ∧ CR W1 (A.take M) [] al nl cl none 0 0 wr ∧ HeldIn (NotHot al none) wr (ToksPv P (.slice bn nn cn)) ∧ weaveL (A.drop M) (C.drop M) = P.map Prod.fst ++ (if i = M then weaveL (A.drop M) (C.drop M) else restA (A.drop M) (C.drop M) (i - M))

set_option maxRecDepth 100000 in
set_option maxHeartbeats 6400000 in
theorem rfit_rest {m : Xm} {pa ba : Option Addr} {M pc bn bc : Nat} {A : List (List Xt)} {C : List Xt} {lv cv : Value} {w : World} (hA : RowsX A lv w) (hC : ToksX C cv w) (hF : FitIn A C) (hM : M ≤ 100000) (hva : m.va = true → A.length < M) : Calls Try.prog 17 #[macV m (.slice pa (M + 1) pc) (.slice ba bn bc), lv, cv] w (FitPost w (fitL (M + 1) m.va A C)) := by
  obtain ⟨a, n, cap, rfl⟩ := hA.form
  obtain ⟨ca, cn, ccap, rfl⟩ := hC.form
  obtain ⟨hn, hc1, hc2, -⟩ := hA.len
  unfold maxLen at hc2
  unfold macV
  have hn3 : n ≤ 100000 := by rw [hn]; exact hF.few
  have hM2 : ((M : Int) + 1 == 0) = false := by simp; omega
  have hM3 : IntKind.i64.wrap (M : Int) = (M : Int) := IntWalk.i64_in _ (by omega)
  obtain ⟨va, hv⟩ : ∃ b, m.va = b := ⟨_, rfl⟩
  rw [hv] at hva ⊢
  clear hv
  have HB : Hid (Below w.heap.size w (w.alloc (.cells #[.string m.n, .bool m.fn, .bool va, .slice pa (M + 1) pc, .slice ba bn bc, .string m.g, .int .i64 m.f, .int .i64 m.t] 27))) := Lib.hid ((Below.refl _ _).alloc (Nat.le_refl _) _)
  have HRX : Hid (∀ X : World, Below w.heap.size w X → RowsX A (.slice a n cap) X) := Lib.hid (fun X hX => hA.over hX)
  cases va with
  | true =>
    have hlt : (n : Int) < (M : Int) := by have := hva rfl; omega
    have HE : Hid (fitL (M + 1) true A C = none) := Lib.hid (fit_no C hva (by have := hva rfl; omega))
    rw [HE.out]
    clear hA hC hF hn hva
    go_enter Try.func17, Try.ntmps17
    go_wp2
    go_ret2
    exact ⟨rfl, HB.out⟩
  | false =>
    by_cases he : n = M + 1
    · have HE : Hid (fitL (M + 1) false A C = some A) := Lib.hid (fit_eq C (by omega))
      rw [HE.out]
      subst he
      have HN := Lib.hid hn
      have hq : ((M : Int) + 1 != (M : Int) + 1) = false := by simp
      clear hA hC hF hn hva
      go_enter Try.func17, Try.ntmps17
      go_wp2
      go_ret2
      exact ⟨_, _, _, rfl, HN.out, HRX.out _ HB.out, HB.out⟩
    · have HE : Hid (fitL (M + 1) false A C = none) := Lib.hid (fit_no C hva (by omega))
      rw [HE.out]
      have hq : ((n : Int) != (M : Int) + 1) = true := by simp; omega
      clear hA hC hF hn hva he
      go_enter Try.func17, Try.ntmps17
      go_wp2
      go_ret2
      exact ⟨rfl, HB.out⟩

set_option maxRecDepth 100000 in
set_option maxHeartbeats 12800000 in
theorem rfit_va {m : Xm} {pa ba : Option Addr} {M pc bn bc : Nat} {A : List (List Xt)} {C : List Xt} {lv cv : Value} {w : World} (hA : RowsX A lv w) (hC : ToksX C cv w) (hF : FitIn A C) (hM : M ≤ 100000) (hva : m.va = true) (hge : M ≤ A.length) : Calls Try.prog 17 #[macV m (.slice pa (M + 1) pc) (.slice ba bn bc), lv, cv] w (FitPost w (fitL (M + 1) m.va A C)) := by
  obtain ⟨a, n, cap, rfl⟩ := hA.form
  obtain ⟨ca, cn, ccap, rfl⟩ := hC.form
  obtain ⟨hn, hc1, hc2, -⟩ := hA.len
  obtain ⟨hcn, hcc1, hcc2⟩ := hC.len
  unfold maxLen at hc2 hcc2
  unfold macV
  rw [hva, fit_va C hge]
  have hn3 : n ≤ 100000 := by rw [hn]; exact hF.few
  have hgI : (M : Int) ≤ (n : Int) := by omega
  have hgC : (M : Int) ≤ (cap : Int) := by omega
  have hg0 : (0 : Int) ≤ (M : Int) := by omega
  have hM2 : ((M : Int) + 1 == 0) = false := by simp; omega
  have hM3 : IntKind.i64.wrap (M : Int) = (M : Int) := IntWalk.i64_in _ (by omega)
  have HRX : Hid (∀ X : World, Below w.heap.size w X → RowsX A (.slice a n cap) X) := Lib.hid (fun X hX => hA.over hX)
  have HCX : Hid (∀ X : World, Below w.heap.size w X → ToksX C (.slice ca cn ccap) X) := Lib.hid (fun X hX => hC.over hX)
  obtain ⟨W1, hW1⟩ : ∃ W1, (w.alloc (.cells #[.string m.n, .bool m.fn, .bool true, .slice pa (M + 1) pc, .slice ba bn bc, .string m.g, .int .i64 m.f, .int .i64 m.t] 27)) = W1 := ⟨_, rfl⟩
  have HB1 : Hid (Below w.heap.size w W1) := Lib.hid (hW1 ▸ (Below.refl _ _).alloc (Nat.le_refl _) _)
  have hz : W1.heap.size = w.heap.size + 1 := by rw [← hW1]; simp
  have HZ := Lib.hid hz
  have HCP : Hid (∀ ty : TypeId, ∃ v' w', (Builtin.append_ #[31, 31] ty #[.slice (some ⟨w.heap.size + 1, 0, none⟩) 0 0, .slice a M cap]).run Try.prog (W1.alloc (.cells #[] 22)) = .ok v' w' ∧ CopyR W1 (A.take M) M v' w') := Lib.hid (fun ty => by have h := CR.copy (ty := ty) ((HRX.out _ HB1.out).take (k := M) (by omega)) (by omega); rw [hz] at h; exact h)
  have HF := Lib.hid hF
  have HN := Lib.hid hn
  have HCN := Lib.hid hcn
  have HWV := Lib.hid (hF.weave M)
  have hnlt : ¬ (n : Int) < (M : Int) := by omega
  have hnl2 : ¬ n < M := by omega
  clear hA hC hF hn hcn hva hge hz
  subst hW1
  go_enter Try.func17, Try.ntmps17
  go_wp2_with (at_builtin; refine wpList_append_ex rfl (.tmp 40) (.tmp 44) 31 rfl (CopyR _ _ _) (HCP.out _) ?_; rintro v9 w9 ⟨a9, n9, c9, rfl, hn9, h9⟩; have HN9 := Lib.hid hn9; have HC9 := Lib.hid h9; clear h9 hn9)
  obtain ⟨W1, hW1⟩ : ∃ W1, (w.alloc (.cells #[.string m.n, .bool m.fn, .bool true, .slice pa (M + 1) pc, .slice ba bn bc, .string m.g, .int .i64 m.f, .int .i64 m.t] 27)) = W1 := ⟨_, rfl⟩
  rw [hW1] at HB1 HC9
  clear hW1 HCP HZ
  go_loopw [10, 11] (RfRel W1 A C M a9 n9 c9) (fun _ i _ => n - (intOf i).toNat)
  case atStart => exact ⟨M, [], none, 0, 0, rfl, rfl, Nat.le_refl _, by have := HN.out; omega, HC9.out, pv_nil_held _ _, by rw [if_pos rfl]; rfl⟩
  case round =>
    obtain ⟨i, P, bn', nn, cn', rfl, rfl, hMi, hin, hCR, hNO, hE⟩ := hrel
    have HC := Lib.hid hCR
    have HNO := Lib.hid hNO
    have HE := Lib.hid hE
    have hin2 : i ≤ n := by have := HN.out; omega
    clear hCR hNO hE hin
    have HBX := Lib.hid HC.out.bel
    have HBB := Lib.hid (below_up HB1.out HBX.out)
    have hnn : nn ≤ 500000 := by
      have h := congrArg List.length HE.out
      rw [List.length_append, List.length_map] at h
      have := HNO.out.now.len.1
      have := HWV.out.1
      omega
    have hi0 : (0 : Int) ≤ (i : Int) := by omega
    by_cases hlt : i < n
    · obtain ⟨T, ht⟩ : ∃ T, A[i]? = some T := ⟨_, List.getElem?_eq_getElem (by have := HN.out; omega)⟩
      obtain ⟨g, o, b1, m1, c1, rfl, hg, e0, hz1, hx1⟩ := (HRX.out _ HB1.out).get ht
      obtain ⟨P2, hP2, hpv⟩ := hx1.pv hz1
      have hm1 := hpv.len.1
      have HT : Hid ((A.drop M)[i - M]? = some T) := Lib.hid (by rw [List.getElem?_drop, show M + (i - M) = i from by omega]; exact ht)
      have HPT := Lib.hid hP2
      have HPV := Lib.hid hpv
      have HS2 : Hid (∀ p ∈ P2, HeldIn (fun _ => True) W1 (SitsA p.1.ss p.2)) := Lib.hid (fun p hp => (hpv.sits p hp).held fun _ _ h => (h trivial).elim)
      have HG := Lib.hid (And.intro e0 hg)
      have HM : Hid (m1 = T.length) := Lib.hid (by rw [hm1, ← hP2, List.length_map])
      have HDL : Hid ((C.drop M).length = (A.drop M).length - 1) := Lib.hid (drop_len HF.out.len M)
      have e0 := bcell HBX.out e0 hg
      have HE0 := Lib.hid e0
      have hltI : (i : Int) < (n : Int) := by omega
      clear ht hx1 hz1 hP2 hpv hm1
      by_cases hiM : i = M
      · subst hiM
        have hgw : g < wr.heap.size := Nat.lt_of_lt_of_le HG.out.2 HBX.out.size
        have HSR : Hid (∀ X : World, Below wr.heap.size wr X → Src X (.slice bn' nn cn') nn 8 (xcells P)) := Lib.hid (fun X hX => (HNO.out.now.over hX).src)
        have HSR2 : Hid (∀ X : World, Below wr.heap.size wr X → Src X (.slice b1 m1 c1) m1 8 (xcells P2)) := Lib.hid (fun X hX => (HPV.out.over (below_up HBX.out hX)).src)
        have HO1 : Hid (∀ u ∈ xcells P, u.oneCell' = true) := Lib.hid (xcells_oneP HNO.out.now)
        have HO2 : Hid (∀ u ∈ xcells P2, u.oneCell' = true) := Lib.hid (xcells_oneP HPV.out)
        have HEN : Hid (weaveL (A.drop i) (C.drop i) = (P ++ P2).map Prod.fst ++ restA (A.drop i) (C.drop i) 1) := Lib.hid (by
          have h := HE.out
          rw [if_pos rfl] at h
          have hP0 : P.map Prod.fst = [] := by
            have hh := congrArg List.length h
            rw [List.length_append] at hh
            exact List.eq_nil_of_length_eq_zero (by omega)
          have hT := HT.out
          rw [Nat.sub_self] at hT
          have h2 := weave_at HDL.out hT
          rw [List.drop_zero, List.drop_zero] at h2
          rw [List.map_append, hP0, List.nil_append, HPT.out, h2])
        have hm5 : m1 ≤ 500000 := by
          have h := congrArg List.length HEN.out
          rw [List.length_append, List.map_append, List.length_append, HPT.out] at h
          have := HWV.out.1; have := HM.out
          omega
        have hif : ¬ (i : Int) + 1 ≤ (i : Int) := by omega
        go_wp2
        go_region_held3 (fun w' => w'.cell? ⟨g, o + i, none⟩ = some (.slice b1 m1 c1))
          (first | go_keep)
          (first
            | (refine step_tok rfl (.tmp 74) (.tmp 75) rfl wr (.slice (some ⟨wr.heap.size, 0, none⟩) 0 0) (.slice bn' nn cn') 0 nn [] (xcells P) rfl rfl ?_ (HSR.out _) HO1.out (by omega) ?_
               · (repeat first | (with_reducible exact up_empty wr 50 8) | (with_reducible apply Up.drewA) | (with_reducible apply Up.alloc)); done
               intro v4 w4 hu4 hg4
               have e0 := bcell hu4.2 HE0.out hgw
               have hgw4 : g < w4.heap.size := Nat.lt_of_lt_of_le hgw hu4.2.size
               have U4 := Lib.hid hu4
               clear hu4 hg4)
            | (refine step_tok rfl (.tmp 76) (.tmp 80) rfl wr v4 (.slice b1 m1 c1) (0 + nn) m1 ([] ++ xcells P) (xcells P2) rfl rfl ?_ (HSR2.out _) HO2.out (by omega) ?_
               · (repeat first | (with_reducible exact U4.out) | (with_reducible apply Up.drewA) | (with_reducible apply Up.alloc)); done
               intro v5 w5 hu5 hg5
               simp only [Nat.zero_add, List.nil_append] at hu5
               obtain ⟨a5, c5, rfl, -, -, -⟩ := row_form hu5.1
               have e0 := bcell hu5.2 HE0.out hgw
               have U5 := Lib.hid hu5
               clear hu5 hg5))
        all_goals clear e0
        all_goals go_wp2
        all_goals go_roundw
        all_goals first
          | exact ⟨i + 1, P ++ P2, a5, nn + m1, c5, rfl, by go_num, by omega, by have := HN.out; omega, HC.out.over U5.out.2, held_more HC.out HNO.out HS2.out U5.out, by rw [if_neg (by omega), show i + 1 - i = 1 from by omega]; exact HEN.out⟩
          | (simp [intOf]; omega)
      · have hi1 : M + 1 ≤ i := by omega
        obtain ⟨c, hc⟩ : ∃ c, C[i - 1]? = some c := ⟨_, List.getElem?_eq_getElem (by have := HF.out.len; have := HN.out; omega)⟩
        obtain ⟨gc, oc, sa, sn, sc, rfl, hgc, -, hx2, hs2⟩ := (HCX.out _ HB1.out).get hc
        have hxw := hx2.next HBX.out hgc
        have hgcw : gc < wr.heap.size := Nat.lt_of_lt_of_le hgc HBX.out.size
        have HY := Lib.hid (And.intro hxw (And.intro hgcw hgcw))
        obtain ⟨y0, y1, y2, y3, y4, y5, y6, y7⟩ := hxw
        have HS1 : Hid (∀ p ∈ [((c, .slice sa sn sc) : Xt × Value)], HeldIn (fun _ => True) W1 (SitsA p.1.ss p.2)) := Lib.hid (fun p hp => by
          simp only [List.mem_cons, List.not_mem_nil, or_false] at hp
          subst hp
          exact hs2.held fun _ _ h => (h trivial).elim)
        have hgw : g < wr.heap.size := Nat.lt_of_lt_of_le HG.out.2 HBX.out.size
        have HSR : Hid (∀ X : World, Below wr.heap.size wr X → Src X (.slice bn' nn cn') nn 8 (xcells P)) := Lib.hid (fun X hX => (HNO.out.now.over hX).src)
        have HO1 : Hid (∀ u ∈ xcells P, u.oneCell' = true) := Lib.hid (xcells_oneP HNO.out.now)
        have HO2 : Hid (∀ u ∈ xcells P2, u.oneCell' = true) := Lib.hid (xcells_oneP HPV.out)
        have HO3 : Hid (∀ u ∈ xcell (c, .slice sa sn sc), u.oneCell' = true) := Lib.hid (xcell_one (p := (c, .slice sa sn sc)) rfl)
        have HEN : Hid (weaveL (A.drop M) (C.drop M) = ((P ++ [(c, Value.slice sa sn sc)]) ++ P2).map Prod.fst ++ restA (A.drop M) (C.drop M) (i + 1 - M)) := Lib.hid (by
          have h := HE.out
          rw [if_neg hiM, rest_at HDL.out HT.out (c := c) (by rw [List.getElem?_drop, show M + (i - M - 1) = i - 1 from by omega]; exact hc), show i - M + 1 = i + 1 - M from by omega] at h
          rw [h, List.map_append, List.map_append, HPT.out]
          simp)
        have hsum : nn + 1 + m1 ≤ 600000 := by
          have h := congrArg List.length HEN.out
          rw [List.length_append, List.map_append, List.length_append, HPT.out, List.map_append, List.length_append, List.length_map] at h
          have := HWV.out.1; have := HM.out; have := HNO.out.now.len.1
          simp only [List.map_cons, List.map_nil, List.length_cons, List.length_nil] at h
          omega
        have hif : (M : Int) + 1 ≤ (i : Int) := by omega
        have hic : (i : Int) - 1 < (cn : Int) := by have := HF.out.len; have := HN.out; have := HCN.out; omega
        have hie : (1 : Int) ≤ (i : Int) := by omega
        have hig : (0 : Int) ≤ (i : Int) - 1 := by omega
        have hih : ((i : Int) - 1).toNat = i - 1 := by omega
        have hiw : IntKind.i64.wrap ((i : Int) - 1) = (i : Int) - 1 := IntWalk.i64_in _ (by omega)
        clear hx2 hs2 hc hiM
        go_wp2
        go_region_held3 (fun w' => w'.cell? ⟨gc, oc + (i - 1) * 8, none⟩ = some (.int .i64 c.k) ∧ w'.cell? ⟨gc, oc + (i - 1) * 8 + 1, none⟩ = some (.string c.x) ∧ w'.cell? ⟨gc, oc + (i - 1) * 8 + 2, none⟩ = some (.bool c.sp) ∧ w'.cell? ⟨gc, oc + (i - 1) * 8 + 3, none⟩ = some (.string c.g) ∧ w'.cell? ⟨gc, oc + (i - 1) * 8 + 4, none⟩ = some (.int .i64 c.f) ∧ w'.cell? ⟨gc, oc + (i - 1) * 8 + 5, none⟩ = some (.int .i64 c.t) ∧ w'.cell? ⟨gc, oc + (i - 1) * 8 + 6, none⟩ = some (.bool c.d) ∧ w'.cell? ⟨gc, oc + (i - 1) * 8 + 7, none⟩ = some (.slice sa sn sc))
          (first | go_keep)
          (first
            | (refine step_tok rfl (.tmp 64) (.tmp 65) rfl wr (.slice (some ⟨wr.heap.size, 0, none⟩) 0 0) (.slice bn' nn cn') 0 nn [] (xcells P) rfl rfl ?_ (HSR.out _) HO1.out (by omega) ?_
               · (repeat first | (with_reducible exact up_empty wr 50 8) | (with_reducible apply Up.drewA) | (with_reducible apply Up.alloc)); done
               intro v1 w2 hu1 hg2
               have HCC : Hid (w2.heap[wr.heap.size + 1]? = some (tokObj (c, .slice sa sn sc))) := ?_
               rotate_left
               · refine Lib.hid ((hg2.block _ ?_ ?_).trans ?_)
                 · first | (simp; done) | (simp; omega)
                 · simp [Value.ownBlock]
                 · (repeat (with_reducible apply blk_drew)); exact blk_new2 wr _ _
               obtain ⟨y0, y1, y2, y3, y4, y5, y6, y7⟩ := HY.out.1.next hu1.2 HY.out.2.1
               have hg2 : gc < w2.heap.size := Nat.lt_of_lt_of_le HY.out.2.1 hu1.2.size
               have U1 := Lib.hid hu1
               clear hu1)
            | (refine step_tok rfl (.tmp 64) (.tmp 65) rfl wr (.slice (some ⟨wr.heap.size, 0, none⟩) 0 0) (.slice bn' nn cn') 0 nn [] (xcells P) rfl rfl ?_ (HSR.out _) HO1.out (by omega) ?_
               · (repeat first | (with_reducible exact up_empty wr 50 8) | (with_reducible apply Up.drewA) | (with_reducible apply Up.alloc)); done
               intro v1 w2 hu1 hg2
               obtain ⟨y0, y1, y2, y3, y4, y5, y6, y7⟩ := HY.out.1.next hu1.2 HY.out.2.1
               have hg2 : gc < w2.heap.size := Nat.lt_of_lt_of_le HY.out.2.1 hu1.2.size
               have U1 := Lib.hid hu1
               clear hu1)
            | (refine step_tok rfl (.tmp 66) (.tmp 72) rfl wr v1 (.slice (some ⟨wr.heap.size + 1, 0, none⟩) 1 1) (0 + nn) 1 ([] ++ xcells P) (xcell (c, .slice sa sn sc)) rfl rfl ?_ (fun _ => src_tok (p := (c, .slice sa sn sc)) (by (repeat (with_reducible apply blk_drew)); (with_reducible exact HCC.out))) HO3.out (by omega) ?_
               · (repeat first | (with_reducible exact U1.out) | (with_reducible apply Up.drewA) | (with_reducible apply Up.alloc)); done
               intro v2 w3 hu2 hg3
               simp only [Nat.zero_add, List.nil_append] at hu2
               obtain ⟨b5, c5, rfl⟩ := append_form hu2.1 (by omega)
               obtain ⟨y0, y1, y2, y3, y4, y5, y6, y7⟩ := HY.out.1.next hu2.2 HY.out.2.1
               have U2 := Lib.hid hu2
               clear hu2 hg3)
            | (refine step_tok rfl (.tmp 66) (.tmp 72) rfl wr v1 (.slice (some ⟨wr.heap.size, 0, none⟩) 1 1) (0 + nn) 1 ([] ++ xcells P) (xcell (c, .slice sa sn sc)) rfl rfl ?_ (fun _ => src_tok (p := (c, .slice sa sn sc)) (by (repeat (with_reducible apply blk_drew)); (with_reducible exact HCC.out))) HO3.out (by omega) ?_
               · (repeat first | (with_reducible exact U1.out) | (with_reducible apply Up.drewA) | (with_reducible apply Up.alloc)); done
               intro v2 w3 hu2 hg3
               simp only [Nat.zero_add, List.nil_append] at hu2
               obtain ⟨b5, c5, rfl⟩ := append_form hu2.1 (by omega)
               obtain ⟨y0, y1, y2, y3, y4, y5, y6, y7⟩ := HY.out.1.next hu2.2 HY.out.2.1
               have U2 := Lib.hid hu2
               clear hu2 hg3)
            | (refine step_tok rfl (.tmp 66) (.tmp 72) rfl wr v1 (.slice (some ⟨w2.heap.size, 0, none⟩) 1 1) (0 + nn) 1 ([] ++ xcells P) (xcell (c, .slice sa sn sc)) rfl rfl ?_ (fun _ => src_tok (p := (c, .slice sa sn sc)) (by (repeat (with_reducible apply blk_drew)); exact blk_new w2 _)) HO3.out (by omega) ?_
               · (repeat first | (with_reducible exact U1.out) | (with_reducible apply Up.drewA) | (with_reducible apply Up.alloc)); done
               intro v2 w3 hu2 hg3
               simp only [Nat.zero_add, List.nil_append] at hu2
               obtain ⟨b5, c5, rfl⟩ := append_form hu2.1 (by omega)
               obtain ⟨y0, y1, y2, y3, y4, y5, y6, y7⟩ := HY.out.1.next hu2.2 HY.out.2.1
               have U2 := Lib.hid hu2
               clear hu2 hg3)
            | (refine step_tok rfl (.tmp 64) (.tmp 65) rfl wr (.slice (some ⟨wr.heap.size + 1, 0, none⟩) 0 0) (.slice bn' nn cn') 0 nn [] (xcells P) rfl rfl ?_ (HSR.out _) HO1.out (by omega) ?_
               · (repeat first | (with_reducible exact up_empty2 wr _ 50 8) | (with_reducible apply Up.drewA) | (with_reducible apply Up.alloc)); done
               intro v1 w2 hu1 hg2
               have HCC : Hid (w2.heap[wr.heap.size]? = some (tokObj (c, .slice sa sn sc))) := ?_
               rotate_left
               · refine Lib.hid ((hg2.block _ ?_ ?_).trans ?_)
                 · first | (simp; done) | (simp; omega)
                 · simp [Value.ownBlock]
                 · (repeat (with_reducible apply blk_drew)); exact blk_new1 wr _ _
               obtain ⟨y0, y1, y2, y3, y4, y5, y6, y7⟩ := HY.out.1.next hu1.2 HY.out.2.1
               have hg2 : gc < w2.heap.size := Nat.lt_of_lt_of_le HY.out.2.1 hu1.2.size
               have U1 := Lib.hid hu1
               clear hu1))
        all_goals (
          have HN3 := Lib.hid (held_more HC.out HNO.out HS1.out (by rw [show xcells [((c, .slice sa sn sc) : Xt × Value)] = xcell (c, .slice sa sn sc) from by simp [xcells]]; exact U2.out))
          have HC3 := Lib.hid (HC.out.over U2.out.2)
          have HSR3 : Hid (∀ X : World, Below w3.heap.size w3 X → Src X (.slice (some ⟨b5, 0, none⟩) (nn + 1) c5) (nn + 1) 8 (xcells (P ++ [(c, .slice sa sn sc)]))) := Lib.hid (fun X hX => (HN3.out.now.over hX).src)
          have HSR4 : Hid (∀ X : World, Below w3.heap.size w3 X → Src X (.slice b1 m1 c1) m1 8 (xcells P2)) := Lib.hid (fun X hX => (HPV.out.over (below_up HC3.out.bel hX)).src)
          have HO4 : Hid (∀ u ∈ xcells (P ++ [(c, .slice sa sn sc)]), u.oneCell' = true) := Lib.hid (xcells_oneP HN3.out.now)
          have hgw3 : g < w3.heap.size := Nat.lt_of_lt_of_le hgw U2.out.2.size
          have e0 := bcell U2.out.2 HE0.out hgw
          have HE3 := Lib.hid e0
          clear y0 y1 y2 y3 y4 y5 y6 y7 hiw
          go_wp2
          go_region_held3 (fun w' => w'.cell? ⟨g, o + i, none⟩ = some (.slice b1 m1 c1))
            (first | go_keep)
            (first
              | (refine step_tok rfl (.tmp 74) (.tmp 75) rfl w3 (.slice (some ⟨w3.heap.size, 0, none⟩) 0 0) (.slice (some ⟨b5, 0, none⟩) (nn + 1) c5) 0 (nn + 1) [] (xcells (P ++ [(c, .slice sa sn sc)])) rfl rfl ?_ (HSR3.out _) HO4.out (by omega) ?_
                 · (repeat first | (with_reducible exact up_empty w3 50 8) | (with_reducible apply Up.drewA) | (with_reducible apply Up.alloc)); done
                 intro v4 w4 hu4 hg4
                 have e0 := bcell hu4.2 HE3.out hgw3
                 have hgw4 : g < w4.heap.size := Nat.lt_of_lt_of_le hgw3 hu4.2.size
                 have U4 := Lib.hid hu4
                 clear hu4 hg4)
              | (refine step_tok rfl (.tmp 76) (.tmp 80) rfl w3 v4 (.slice b1 m1 c1) (0 + (nn + 1)) m1 ([] ++ xcells (P ++ [(c, .slice sa sn sc)])) (xcells P2) rfl rfl ?_ (HSR4.out _) HO2.out (by omega) ?_
                 · (repeat first | (with_reducible exact U4.out) | (with_reducible apply Up.drewA) | (with_reducible apply Up.alloc)); done
                 intro v5 w5 hu5 hg5
                 simp only [Nat.zero_add, List.nil_append] at hu5
                 obtain ⟨a5, c6, rfl, -, -, -⟩ := row_form hu5.1
                 have e0 := bcell hu5.2 HE3.out hgw3
                 have U5 := Lib.hid hu5
                 clear hu5 hg5))
          all_goals clear e0
          all_goals go_wp2
          all_goals go_roundw
          all_goals first
            | exact ⟨i + 1, (P ++ [(c, .slice sa sn sc)]) ++ P2, a5, nn + 1 + m1, c6, rfl, by go_num, by omega, by have := HN.out; omega, HC3.out.over U5.out.2, held_more HC3.out HN3.out HS2.out U5.out, by rw [if_neg (by omega)]; exact HEN.out⟩
            | (simp [intOf]; omega))
    · obtain rfl : i = n := by omega
      have hltI : ¬ (i : Int) < (i : Int) := by omega
      have HEQ : Hid (P.map Prod.fst = weaveL (A.drop M) (C.drop M)) := Lib.hid (by
        have h := HE.out
        by_cases hiM : i = M
        · rw [if_pos hiM] at h
          have hA0 : A.drop M = [] := List.drop_of_length_le (by have := HN.out; omega)
          have hw : weaveL [] (C.drop M) = [] := rfl
          rw [hA0, hw, List.append_nil] at h
          rw [hA0, hw, ← h]
        · rw [if_neg hiM, show i - M = (A.drop M).length from by rw [List.length_drop, ← HN.out], rest_end, List.append_nil] at h
          exact h.symm)
      have HXP := Lib.hid HNO.out.xP
      have HNZ := Lib.hid HNO.out.now.len.2.2.2
      have hn99 : n9 ≤ 999999 := by have := HN9.out; omega
      go_wp2_with (at_builtin; refine wpList_append_sl rfl (.tmp 82) (.tmp 84) 31 rfl _ (CR.pushL (HC.out.over ((Below.refl _ _).alloc (Nat.le_refl _) _)) (HXP.out.over (StillB.of_below ((Below.refl _ _).alloc (Nat.le_refl _) _))) HNZ.out (src_one _ _ _) hn99) ?_; intro b8 n8 c8 w8 h8; have HN8 := Lib.hid h8.1; have HC8 := Lib.hid h8.2.1; clear h8)
      go_ret2
      obtain ⟨g1, g2, -, -⟩ := HC8.out.done
      rw [HEQ.out] at g1 g2
      exact ⟨_, _, _, rfl, g1, g2, below_up HB1.out HC8.out.bel⟩

theorem rfit_any {m : Xm} {pv bv : Value} {A : List (List Xt)} {C : List Xt} {lv cv : Value} {w : World} (hm : MacAt m pv bv w) (hps : m.ps.length ≤ 100000) (hA : RowsX A lv w) (hC : ToksX C cv w) (hF : FitIn A C) : Calls Try.prog 17 #[macV m pv bv, lv, cv] w (FitPost w (fitL m.ps.length m.va A C)) := by
  obtain ⟨pa, N, pc, rfl⟩ := hm.1.form
  obtain ⟨ba, bn, bc, rfl⟩ := hm.2.form
  have hN := hm.1.len.1
  rw [← hN]
  cases N with
  | zero => exact rfit_zero hA hC
  | succ M =>
    by_cases hva : m.va = true ∧ M ≤ A.length
    · exact rfit_va hA hC hF (by omega) hva.1 hva.2
    · exact rfit_rest hA hC hF (by omega) fun h => by
        rcases Nat.lt_or_ge A.length M with hl | hl
        · exact hl
        · exact absurd ⟨h, hl⟩ hva

end Go.Proofs.Ytipipookgcdfbaa
