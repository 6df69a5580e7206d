/-
  Texts of the proof, put together: SuRi.
-/
import Derived.Test.YtobplffailbkbaaG14
import Derived.Test.YtobplffailbkbaaG21
import Derived.Deep.DeepCutAuto
import Derived.Deep.Cut

/-
  A body in which all may stand: the document's ill, walked.
-/
namespace Go.Proofs.Ytobplffailbkbaa
open Go.RowKit Go.Maps

theorem idx_mem (x : ByteArray) (ps : List ByteArray) : memB x ps = decide (0 ≤ idxI x ps 0) := by
  have key : ∀ (l : List ByteArray) (k : Int), 0 ≤ k → memB x l = decide (0 ≤ idxI x l k) := by
    intro l
    induction l with
    | nil => intro k _; rfl
    | cons y r ih =>
      intro k hk
      have h1 : memB x (y :: r) = (decide (y = x) || memB x r) := rfl
      rw [h1, ih (k + 1) (by omega), show idxI x (y :: r) k = if x = y then k else idxI x r (k + 1) from rfl]
      by_cases h : x = y
      · subst h
        simp [hk]
      · have h' : ¬ y = x := fun e => h e.symm
        rw [if_neg h, decide_eq_false h', Bool.false_or]
  exact key ps 0 (by omega)
/-- The macro's box and a token's. -/
structure Il (m : Xm) (pv bv : Value) (t : Xt) (tv : Value) (b0 bt : Nat) (w : World) : Prop where
  mac : BoxM m pv bv b0 w
  tok : w.cell? ⟨bt, 0, none⟩ = some (.int .i64 t.k) ∧ w.cell? ⟨bt, 1, none⟩ = some (.string t.x) ∧ w.cell? ⟨bt, 2, none⟩ = some (.bool t.sp) ∧ w.cell? ⟨bt, 3, none⟩ = some (.string t.g) ∧ w.cell? ⟨bt, 4, none⟩ = some (.int .i64 t.f) ∧ w.cell? ⟨bt, 5, none⟩ = some (.int .i64 t.t) ∧ w.cell? ⟨bt, 6, none⟩ = some (.bool t.d) ∧ w.cell? ⟨bt, 7, none⟩ = some tv
  l0 : b0 < w.heap.size
  l1 : bt < w.heap.size
theorem Il.over {m : Xm} {pv bv : Value} {t : Xt} {tv : Value} {b0 bt : Nat} {w w' : World} (h : Il m pv bv t tv b0 bt w) (b : Below w.heap.size w w') : Il m pv bv t tv b0 bt w' := by
  obtain ⟨t0, t1, t2, t3, t4, t5, t6, t7⟩ := h.tok
  exact ⟨h.mac.next b h.l0, ⟨bcell b t0 h.l1, bcell b t1 h.l1, bcell b t2 h.l1, bcell b t3 h.l1, bcell b t4 h.l1, bcell b t5 h.l1, bcell b t6 h.l1, bcell b t7 h.l1⟩, Nat.lt_of_lt_of_le h.l0 b.size, Nat.lt_of_lt_of_le h.l1 b.size⟩
theorem Il.start {m : Xm} {pv bv : Value} {t : Xt} {tv : Value} {b0 : Nat} {w : World} (h : BoxM m pv bv b0 w) (hl : b0 < w.heap.size) : Il m pv bv t tv b0 w.heap.size (w.alloc (.cells #[.int .i64 t.k, .string t.x, .bool t.sp, .string t.g, .int .i64 t.f, .int .i64 t.t, .bool t.d, tv] 26)) := by
  have hb := (Below.refl w.heap.size w).alloc (Nat.le_refl _) (.cells #[.int .i64 t.k, .string t.x, .bool t.sp, .string t.g, .int .i64 t.f, .int .i64 t.t, .bool t.d, tv] 26)
  have hn := heap_alloc_new w (.cells #[.int .i64 t.k, .string t.x, .bool t.sp, .string t.g, .int .i64 t.f, .int .i64 t.t, .bool t.d, tv] 26)
  refine ⟨h.next hb hl, ⟨?_, ?_, ?_, ?_, ?_, ?_, ?_, ?_⟩, by simp; omega, by simp⟩ <;> (rw [Lib.cell_of_heap hn]; rfl)

set_option maxRecDepth 100000 in
set_option maxHeartbeats 12800000 in
theorem rill_no {m : Xm} {pv bv : Value} {w : World} (h : MacAt m pv bv w) (hfn : m.fn = true) (hva : m.va = false) (hgood : ∀ (i : Nat) (t : Xt), m.bd[i]? = some t → illX true false m.ps m.bd i t = false) (hl5 : m.bd.length ≤ 100000) : Calls Try.prog 29 #[macV m pv bv] w (IntNew (-1) w) := by
  obtain ⟨pa, pn, pc, rfl⟩ := h.1.form
  obtain ⟨ba, n, bc, rfl⟩ := h.2.form
  obtain ⟨hn, hc1, hc2⟩ := h.2.len
  unfold maxLen at hc2
  have HN := Lib.hid hn
  have HX := Lib.hid h.2
  have hn5 : n ≤ 100000 := by omega
  have HGOOD := Lib.hid hgood
  have HFN := Lib.hid hfn
  have HPA : Hid (∀ (x : ByteArray) (X : World), Below w.heap.size w X → Calls Try.prog 45 #[macV m (.slice pa pn pc) (.slice ba n bc), .string x] X (IntNew (idxI x m.ps 0) X)) := Lib.hid (fun x X hX => rParam_any (h.1.over hX) ⟨_, _, _, rfl⟩ x)
  have hb1 := (Below.refl w.heap.size w).alloc (Nat.le_refl _) (.cells #[.string m.n, .bool m.fn, .bool m.va, .slice pa pn pc, .slice ba n bc, .string m.g, .int .i64 m.f, .int .i64 m.t] 38)
  have hbm := boxM_new m (.slice pa pn pc) (.slice ba n bc) 38 w
  have hsz : w.heap.size < (w.alloc (.cells #[.string m.n, .bool m.fn, .bool m.va, .slice pa pn pc, .slice ba n bc, .string m.g, .int .i64 m.f, .int .i64 m.t] 38)).heap.size := by simp
  unfold macV at *
  rw [hfn, hva] at hb1 hbm hsz HPA ⊢
  clear h hn hgood
  go_enter Try.func29, Try.ntmps29
  go_wp2
  obtain ⟨W1, hW1⟩ : ∃ X, w.alloc (.cells #[.string m.n, .bool true, .bool false, .slice pa pn pc, .slice ba n bc, .string m.g, .int .i64 m.f, .int .i64 m.t] 38) = X := ⟨_, rfl⟩
  rw [hW1] at hb1 hbm hsz ⊢
  have HB1 := Lib.hid hb1
  have HBM := Lib.hid hbm
  have HSZ := Lib.hid hsz
  clear hb1 hbm hsz hW1
  go_loopw [3] (fun v wr => ∃ i : Nat, v = .int .i64 (i : Int) ∧ i ≤ n ∧ Below W1.heap.size W1 wr) (fun v _ => n - (intOf v).toNat)
  case atStart => exact ⟨0, rfl, Nat.zero_le _, Below.refl _ _⟩
  case round =>
    obtain ⟨i, rfl, hi, hbw⟩ := hrel
    have HBW := Lib.hid hbw
    have hmr := HBM.out.next hbw HSZ.out
    have hlr := Nat.lt_of_lt_of_le HSZ.out hbw.size
    obtain ⟨m0, m1, m2, m3, m4, m5, m6, m7⟩ := hmr
    by_cases hlt : i < n
    · obtain ⟨t, ht⟩ : ∃ t, m.bd[i]? = some t := ⟨_, List.getElem?_eq_getElem (by rw [← HN.out]; exact hlt)⟩
      obtain ⟨g, o, ta, tn, tc, rfl, hg, -, hct, -⟩ := HX.out.get ht
      have hBw : Below w.heap.size w wr := below_up HB1.out hbw
      obtain ⟨c0, c1, c2, c3, c4, c5, c6, c7⟩ := hct.next hBw hg
      have hill := HGOOD.out i t ht
      unfold illX at hill
      simp only [Bool.or_eq_false_iff, Bool.and_true, Bool.not_false] at hill
      obtain ⟨⟨hi1, hi2⟩, hi3⟩ := hill
      have hiI : (i : Int) < (n : Int) := by omega
      have hi0 : (0 : Int) ≤ (i : Int) := by omega
      have HIS := Lib.hid (Il.start (t := t) (tv := .slice ta tn tc) (⟨m0, m1, m2, m3, m4, m5, m6, m7⟩ : BoxM m (.slice pa pn pc) (.slice (some ⟨g, o, none⟩) n bc) w.heap.size wr) hlr)
      have HAL := Lib.hid ((Below.refl wr.heap.size wr).alloc (Nat.le_refl _) (.cells #[.int .i64 t.k, .string t.x, .bool t.sp, .string t.g, .int .i64 t.f, .int .i64 t.t, .bool t.d, .slice ta tn tc] 26))
      have HBWW := Lib.hid hBw
      have HGL := Lib.hid hg
      have HPT : Hid (∀ X : World, Calls Try.prog 46 #[.agg #[.int .i64 t.k, .string t.x, .bool t.sp, .string t.g, .int .i64 t.f, .int .i64 t.t, .bool t.d, .slice ta tn tc]] X (BoolNew (pasteX t) X)) := Lib.hid (fun X => rPaster_any t ta tn tc X)
      have HHT : Hid (∀ X : World, Calls Try.prog 47 #[.agg #[.int .i64 t.k, .string t.x, .bool t.sp, .string t.g, .int .i64 t.f, .int .i64 t.t, .bool t.d, .slice ta tn tc]] X (BoolNew (hashX t) X)) := Lib.hid (fun X => rHash_any t ta tn tc X)
      have hpk : pasteX t = true → t.k = 5 := fun e => by rw [pasteX_eq] at e; simp only [Bool.and_eq_true, decide_eq_true_eq] at e; exact e.1
      have hhk : hashX t = true → t.k = 5 := fun e => by rw [hashX_eq] at e; simp only [Bool.and_eq_true, decide_eq_true_eq] at e; exact e.1
      have hva9 := hva
      have hva := va_is t.x
      have HLT : Hid (i + 1 ≤ n) := Lib.hid hlt
      obtain ⟨b1, hb1⟩ : ∃ b, pasteX t = b := ⟨_, rfl⟩
      obtain ⟨b2, hb2⟩ : ∃ b, hashX t = b := ⟨_, rfl⟩
      rw [hb1] at hi1 HPT hpk
      rw [hb2] at hi2 HHT hhk
      clear hb1 hb2 hbw hBw hct
      cases b1 with
      | true =>
        have htk : ¬ t.k = 1 := by have := hpk rfl; omega
        cases b2 with
        | true =>
          by_cases hlt2 : i + 1 < n
          · obtain ⟨u, hu⟩ : ∃ u, m.bd[i + 1]? = some u := ⟨_, List.getElem?_eq_getElem (by rw [← HN.out]; exact hlt2)⟩
            obtain ⟨g', o', ua, un, uc, hga, -, -, hcu0, -⟩ := HX.out.get hu
            simp only [Option.some.injEq, Addr.mk.injEq, and_true] at hga
            obtain ⟨rfl, rfl⟩ := hga
            have hpar : isPar m.ps m.bd (i + 1) = (decide (u.k = 1) && decide (0 ≤ idxI u.x m.ps 0)) := by
              unfold isPar
              rw [hu, ← idx_mem]
            have HPU := Lib.hid (HPA.out u.x)
            obtain ⟨K, hK⟩ : ∃ K, idxI u.x m.ps 0 = K := ⟨_, rfl⟩
            rw [hK] at hpar HPU
            rw [hpar] at hi2
            clear hpar hK
            by_cases huk : u.k = 1
            · by_cases hK : 0 ≤ K
              · have hq1 : ((i : Int) == 0) = false := by
                  rw [beq_eq_false_iff_ne]
                  intro e
                  have e : i = 0 := by omega
                  simp [e] at hi1
                have hq2 : ((i : Int) + 1 == (n : Int)) = false := by
                  rw [beq_eq_false_iff_ne]
                  intro e
                  have e : i + 1 = m.bd.length := by have := HN.out; omega
                  simp [e] at hi1
                have hk1 : (t.k == 1) = false := by simp [htk]
                clear hva
                have hj : (i : Int) + 1 < (n : Int) := by omega
                have hj0 : (0 : Int) ≤ (i : Int) + 1 := by omega
                have hjn : i + 1 < n := hlt2
                have huk1 : (u.k == 1) = true := by simp [huk]
                clear hi1 hi2 hi3 hpk hhk htk ht huk hu
                have HIL := HIS
                have HLO := Lib.hid (below_up HBW.out HAL.out)
                have HLW := Lib.hid (below_up HBWW.out HAL.out)
                have hcn := hcu0.next HLW.out HGL.out
                obtain ⟨v0, v1, -⟩ := hcn
                have HCU0 := Lib.hid hcu0
                clear hcu0
                go_upto_region 5 with (fail)
                clear m0 m1 m2 m3 m4 m5 m6 m7 c0 c1 c2 c3 c4 c5 c6 c7
                obtain ⟨X1, hX1⟩ : ∃ X, wr.alloc (.cells #[.int .i64 t.k, .string t.x, .bool t.sp, .string t.g, .int .i64 t.f, .int .i64 t.t, .bool t.d, .slice ta tn tc] 26) = X := ⟨_, rfl⟩
                rw [hX1] at HIL HLO HLW ⊢
                rw [hX1] at v0 v1
                obtain ⟨bt, hbt⟩ : ∃ b, wr.heap.size = b := ⟨_, rfl⟩
                rw [hbt] at HIL ⊢
                clear hX1 hbt
                obtain ⟨⟨m0, m1, m2, m3, m4, m5, m6, m7⟩, ⟨t0, t1, t2, t3, t4, t5, t6, t7⟩, -, -⟩ := HIL.out
                have hwr : IntKind.i64.wrap ((i : Int) + 1) = (i : Int) + 1 := IntWalk.i64_in _ (by omega)
                go_still_tail 25, (by kernel_rfl)
                change wpList _ _ _ _ _ X1.drew
                have HLO := Lib.hid (below_up HLO.out (Below.refl _ _).drew)
                have HIL := Lib.hid (HIL.out.over (Below.refl _ _).drew)
                have HLW := Lib.hid (HLW.out.drew)
                clear m0 m1 m2 m3 m4 m5 m6 m7 t0 t1 t2 t3 t4 t5 t6 t7
                obtain ⟨⟨m0, m1, m2, m3, m4, m5, m6, m7⟩, ⟨t0, t1, t2, t3, t4, t5, t6, t7⟩, -, -⟩ := HIL.out
                go_wp2_with (first
                  | (go_at_call 45; (with_reducible refine (HPU.out _ HLW.out).mono ?_); rintro e X2 ⟨rfl, hb⟩; have HLO := Lib.hid (below_up HLO.out hb); have HIL := Lib.hid (HIL.out.over hb); clear hb; clear m0 m1 m2 m3 m4 m5 m6 m7 t0 t1 t2 t3 t4 t5 t6 t7; (obtain ⟨⟨m0, m1, m2, m3, m4, m5, m6, m7⟩, ⟨t0, t1, t2, t3, t4, t5, t6, t7⟩, -, -⟩ := HIL.out))
                  | (go_at_call 46; (with_reducible refine (HPT.out _).mono ?_); rintro e X3 ⟨rfl, hb⟩; have HLO := Lib.hid (below_up HLO.out hb); have HIL := Lib.hid (HIL.out.over hb); clear hb; clear m0 m1 m2 m3 m4 m5 m6 m7 t0 t1 t2 t3 t4 t5 t6 t7; (obtain ⟨⟨m0, m1, m2, m3, m4, m5, m6, m7⟩, ⟨t0, t1, t2, t3, t4, t5, t6, t7⟩, -, -⟩ := HIL.out))
                  | (go_at_call 47; (with_reducible refine (HHT.out _).mono ?_); rintro e X4 ⟨rfl, hb⟩; have HLO := Lib.hid (below_up HLO.out hb); have HIL := Lib.hid (HIL.out.over hb); clear hb; clear m0 m1 m2 m3 m4 m5 m6 m7 t0 t1 t2 t3 t4 t5 t6 t7; (obtain ⟨⟨m0, m1, m2, m3, m4, m5, m6, m7⟩, ⟨t0, t1, t2, t3, t4, t5, t6, t7⟩, -, -⟩ := HIL.out)))
                go_roundw
                case rel => exact ⟨i + 1, by go_num, HLT.out, HLO.out⟩
                case measure => simp [intOf]; omega
              · exact absurd hi2 (by simp [huk, hK])
            · exact absurd hi2 (by simp [huk])
          · exact absurd hi1 (by have := HN.out; simp; omega)
        | false =>
          by_cases hlt2 : i + 1 < n
          · obtain ⟨u, hu⟩ : ∃ u, m.bd[i + 1]? = some u := ⟨_, List.getElem?_eq_getElem (by rw [← HN.out]; exact hlt2)⟩
            obtain ⟨g', o', ua, un, uc, hga, -, -, hcu0, -⟩ := HX.out.get hu
            simp only [Option.some.injEq, Addr.mk.injEq, and_true] at hga
            obtain ⟨rfl, rfl⟩ := hga
            have hpar : isPar m.ps m.bd (i + 1) = (decide (u.k = 1) && decide (0 ≤ idxI u.x m.ps 0)) := by
              unfold isPar
              rw [hu, ← idx_mem]
            have HPU := Lib.hid (HPA.out u.x)
            obtain ⟨K, hK⟩ : ∃ K, idxI u.x m.ps 0 = K := ⟨_, rfl⟩
            rw [hK] at hpar HPU
            rw [hpar] at hi2
            clear hpar hK
            by_cases huk : u.k = 1
            · by_cases hK : 0 ≤ K
              · have hq1 : ((i : Int) == 0) = false := by
                  rw [beq_eq_false_iff_ne]
                  intro e
                  have e : i = 0 := by omega
                  simp [e] at hi1
                have hq2 : ((i : Int) + 1 == (n : Int)) = false := by
                  rw [beq_eq_false_iff_ne]
                  intro e
                  have e : i + 1 = m.bd.length := by have := HN.out; omega
                  simp [e] at hi1
                have hk1 : (t.k == 1) = false := by simp [htk]
                clear hva
                have hj : (i : Int) + 1 < (n : Int) := by omega
                have hj0 : (0 : Int) ≤ (i : Int) + 1 := by omega
                have hjn : i + 1 < n := hlt2
                have huk1 : (u.k == 1) = true := by simp [huk]
                clear hi1 hi2 hi3 hpk hhk htk ht huk hu
                have HIL := HIS
                have HLO := Lib.hid (below_up HBW.out HAL.out)
                have HLW := Lib.hid (below_up HBWW.out HAL.out)
                have hcn := hcu0.next HLW.out HGL.out
                obtain ⟨v0, v1, -⟩ := hcn
                have HCU0 := Lib.hid hcu0
                clear hcu0
                go_upto_region 5 with (fail)
                clear m0 m1 m2 m3 m4 m5 m6 m7 c0 c1 c2 c3 c4 c5 c6 c7
                obtain ⟨X1, hX1⟩ : ∃ X, wr.alloc (.cells #[.int .i64 t.k, .string t.x, .bool t.sp, .string t.g, .int .i64 t.f, .int .i64 t.t, .bool t.d, .slice ta tn tc] 26) = X := ⟨_, rfl⟩
                rw [hX1] at HIL HLO HLW ⊢
                rw [hX1] at v0 v1
                obtain ⟨bt, hbt⟩ : ∃ b, wr.heap.size = b := ⟨_, rfl⟩
                rw [hbt] at HIL ⊢
                clear hX1 hbt
                obtain ⟨⟨m0, m1, m2, m3, m4, m5, m6, m7⟩, ⟨t0, t1, t2, t3, t4, t5, t6, t7⟩, -, -⟩ := HIL.out
                have hwr : IntKind.i64.wrap ((i : Int) + 1) = (i : Int) + 1 := IntWalk.i64_in _ (by omega)
                go_still_tail 25, (by kernel_rfl)
                change wpList _ _ _ _ _ X1.drew
                have HLO := Lib.hid (below_up HLO.out (Below.refl _ _).drew)
                have HIL := Lib.hid (HIL.out.over (Below.refl _ _).drew)
                have HLW := Lib.hid (HLW.out.drew)
                clear m0 m1 m2 m3 m4 m5 m6 m7 t0 t1 t2 t3 t4 t5 t6 t7
                obtain ⟨⟨m0, m1, m2, m3, m4, m5, m6, m7⟩, ⟨t0, t1, t2, t3, t4, t5, t6, t7⟩, -, -⟩ := HIL.out
                go_wp2_with (first
                  | (go_at_call 45; (with_reducible refine (HPU.out _ HLW.out).mono ?_); rintro e X2 ⟨rfl, hb⟩; have HLO := Lib.hid (below_up HLO.out hb); have HIL := Lib.hid (HIL.out.over hb); clear hb; clear m0 m1 m2 m3 m4 m5 m6 m7 t0 t1 t2 t3 t4 t5 t6 t7; (obtain ⟨⟨m0, m1, m2, m3, m4, m5, m6, m7⟩, ⟨t0, t1, t2, t3, t4, t5, t6, t7⟩, -, -⟩ := HIL.out))
                  | (go_at_call 46; (with_reducible refine (HPT.out _).mono ?_); rintro e X3 ⟨rfl, hb⟩; have HLO := Lib.hid (below_up HLO.out hb); have HIL := Lib.hid (HIL.out.over hb); clear hb; clear m0 m1 m2 m3 m4 m5 m6 m7 t0 t1 t2 t3 t4 t5 t6 t7; (obtain ⟨⟨m0, m1, m2, m3, m4, m5, m6, m7⟩, ⟨t0, t1, t2, t3, t4, t5, t6, t7⟩, -, -⟩ := HIL.out))
                  | (go_at_call 47; (with_reducible refine (HHT.out _).mono ?_); rintro e X4 ⟨rfl, hb⟩; have HLO := Lib.hid (below_up HLO.out hb); have HIL := Lib.hid (HIL.out.over hb); clear hb; clear m0 m1 m2 m3 m4 m5 m6 m7 t0 t1 t2 t3 t4 t5 t6 t7; (obtain ⟨⟨m0, m1, m2, m3, m4, m5, m6, m7⟩, ⟨t0, t1, t2, t3, t4, t5, t6, t7⟩, -, -⟩ := HIL.out)))
                go_roundw
                case rel => exact ⟨i + 1, by go_num, HLT.out, HLO.out⟩
                case measure => simp [intOf]; omega
              · have hq1 : ((i : Int) == 0) = false := by
                  rw [beq_eq_false_iff_ne]
                  intro e
                  have e : i = 0 := by omega
                  simp [e] at hi1
                have hq2 : ((i : Int) + 1 == (n : Int)) = false := by
                  rw [beq_eq_false_iff_ne]
                  intro e
                  have e : i + 1 = m.bd.length := by have := HN.out; omega
                  simp [e] at hi1
                have hk1 : (t.k == 1) = false := by simp [htk]
                clear hva
                have hj : (i : Int) + 1 < (n : Int) := by omega
                have hj0 : (0 : Int) ≤ (i : Int) + 1 := by omega
                have hjn : i + 1 < n := hlt2
                have huk1 : (u.k == 1) = true := by simp [huk]
                clear hi1 hi2 hi3 hpk hhk htk ht huk hu
                have HIL := HIS
                have HLO := Lib.hid (below_up HBW.out HAL.out)
                have HLW := Lib.hid (below_up HBWW.out HAL.out)
                have hcn := hcu0.next HLW.out HGL.out
                obtain ⟨v0, v1, -⟩ := hcn
                have HCU0 := Lib.hid hcu0
                clear hcu0
                go_upto_region 5 with (fail)
                clear m0 m1 m2 m3 m4 m5 m6 m7 c0 c1 c2 c3 c4 c5 c6 c7
                obtain ⟨X1, hX1⟩ : ∃ X, wr.alloc (.cells #[.int .i64 t.k, .string t.x, .bool t.sp, .string t.g, .int .i64 t.f, .int .i64 t.t, .bool t.d, .slice ta tn tc] 26) = X := ⟨_, rfl⟩
                rw [hX1] at HIL HLO HLW ⊢
                rw [hX1] at v0 v1
                obtain ⟨bt, hbt⟩ : ∃ b, wr.heap.size = b := ⟨_, rfl⟩
                rw [hbt] at HIL ⊢
                clear hX1 hbt
                obtain ⟨⟨m0, m1, m2, m3, m4, m5, m6, m7⟩, ⟨t0, t1, t2, t3, t4, t5, t6, t7⟩, -, -⟩ := HIL.out
                have hwr : IntKind.i64.wrap ((i : Int) + 1) = (i : Int) + 1 := IntWalk.i64_in _ (by omega)
                go_still_tail 25, (by kernel_rfl)
                change wpList _ _ _ _ _ X1.drew
                have HLO := Lib.hid (below_up HLO.out (Below.refl _ _).drew)
                have HIL := Lib.hid (HIL.out.over (Below.refl _ _).drew)
                have HLW := Lib.hid (HLW.out.drew)
                clear m0 m1 m2 m3 m4 m5 m6 m7 t0 t1 t2 t3 t4 t5 t6 t7
                obtain ⟨⟨m0, m1, m2, m3, m4, m5, m6, m7⟩, ⟨t0, t1, t2, t3, t4, t5, t6, t7⟩, -, -⟩ := HIL.out
                go_wp2_with (first
                  | (go_at_call 45; (with_reducible refine (HPU.out _ HLW.out).mono ?_); rintro e X2 ⟨rfl, hb⟩; have HLO := Lib.hid (below_up HLO.out hb); have HIL := Lib.hid (HIL.out.over hb); clear hb; clear m0 m1 m2 m3 m4 m5 m6 m7 t0 t1 t2 t3 t4 t5 t6 t7; (obtain ⟨⟨m0, m1, m2, m3, m4, m5, m6, m7⟩, ⟨t0, t1, t2, t3, t4, t5, t6, t7⟩, -, -⟩ := HIL.out))
                  | (go_at_call 46; (with_reducible refine (HPT.out _).mono ?_); rintro e X3 ⟨rfl, hb⟩; have HLO := Lib.hid (below_up HLO.out hb); have HIL := Lib.hid (HIL.out.over hb); clear hb; clear m0 m1 m2 m3 m4 m5 m6 m7 t0 t1 t2 t3 t4 t5 t6 t7; (obtain ⟨⟨m0, m1, m2, m3, m4, m5, m6, m7⟩, ⟨t0, t1, t2, t3, t4, t5, t6, t7⟩, -, -⟩ := HIL.out))
                  | (go_at_call 47; (with_reducible refine (HHT.out _).mono ?_); rintro e X4 ⟨rfl, hb⟩; have HLO := Lib.hid (below_up HLO.out hb); have HIL := Lib.hid (HIL.out.over hb); clear hb; clear m0 m1 m2 m3 m4 m5 m6 m7 t0 t1 t2 t3 t4 t5 t6 t7; (obtain ⟨⟨m0, m1, m2, m3, m4, m5, m6, m7⟩, ⟨t0, t1, t2, t3, t4, t5, t6, t7⟩, -, -⟩ := HIL.out)))
                go_roundw
                case rel => exact ⟨i + 1, by go_num, HLT.out, HLO.out⟩
                case measure => simp [intOf]; omega
            · have hq1 : ((i : Int) == 0) = false := by
                rw [beq_eq_false_iff_ne]
                intro e
                have e : i = 0 := by omega
                simp [e] at hi1
              have hq2 : ((i : Int) + 1 == (n : Int)) = false := by
                rw [beq_eq_false_iff_ne]
                intro e
                have e : i + 1 = m.bd.length := by have := HN.out; omega
                simp [e] at hi1
              have hk1 : (t.k == 1) = false := by simp [htk]
              clear hva
              have hj : (i : Int) + 1 < (n : Int) := by omega
              have hj0 : (0 : Int) ≤ (i : Int) + 1 := by omega
              have hjn : i + 1 < n := hlt2
              have huk1 : (u.k == 1) = false := by simp [huk]
              clear hi1 hi2 hi3 hpk hhk htk ht huk hu
              have HIL := HIS
              have HLO := Lib.hid (below_up HBW.out HAL.out)
              have HLW := Lib.hid (below_up HBWW.out HAL.out)
              have hcn := hcu0.next HLW.out HGL.out
              obtain ⟨v0, v1, -⟩ := hcn
              have HCU0 := Lib.hid hcu0
              clear hcu0
              go_upto_region 5 with (fail)
              clear m0 m1 m2 m3 m4 m5 m6 m7 c0 c1 c2 c3 c4 c5 c6 c7
              obtain ⟨X1, hX1⟩ : ∃ X, wr.alloc (.cells #[.int .i64 t.k, .string t.x, .bool t.sp, .string t.g, .int .i64 t.f, .int .i64 t.t, .bool t.d, .slice ta tn tc] 26) = X := ⟨_, rfl⟩
              rw [hX1] at HIL HLO HLW ⊢
              rw [hX1] at v0 v1
              obtain ⟨bt, hbt⟩ : ∃ b, wr.heap.size = b := ⟨_, rfl⟩
              rw [hbt] at HIL ⊢
              clear hX1 hbt
              obtain ⟨⟨m0, m1, m2, m3, m4, m5, m6, m7⟩, ⟨t0, t1, t2, t3, t4, t5, t6, t7⟩, -, -⟩ := HIL.out
              go_quiet (fail)
              have HLO := Lib.hid (below_up HLO.out (Below.of_drews _ nq))
              have HIL := Lib.hid (HIL.out.over (Below.of_drews _ nq))
              clear m0 m1 m2 m3 m4 m5 m6 m7 t0 t1 t2 t3 t4 t5 t6 t7
              obtain ⟨⟨m0, m1, m2, m3, m4, m5, m6, m7⟩, ⟨t0, t1, t2, t3, t4, t5, t6, t7⟩, -, -⟩ := HIL.out
              go_wp2_with (first
                | (go_at_call 46; (with_reducible refine (HPT.out _).mono ?_); rintro e X3 ⟨rfl, hb⟩; have HLO := Lib.hid (below_up HLO.out hb); have HIL := Lib.hid (HIL.out.over hb); clear hb; clear m0 m1 m2 m3 m4 m5 m6 m7 t0 t1 t2 t3 t4 t5 t6 t7; (obtain ⟨⟨m0, m1, m2, m3, m4, m5, m6, m7⟩, ⟨t0, t1, t2, t3, t4, t5, t6, t7⟩, -, -⟩ := HIL.out))
                | (go_at_call 47; (with_reducible refine (HHT.out _).mono ?_); rintro e X4 ⟨rfl, hb⟩; have HLO := Lib.hid (below_up HLO.out hb); have HIL := Lib.hid (HIL.out.over hb); clear hb; clear m0 m1 m2 m3 m4 m5 m6 m7 t0 t1 t2 t3 t4 t5 t6 t7; (obtain ⟨⟨m0, m1, m2, m3, m4, m5, m6, m7⟩, ⟨t0, t1, t2, t3, t4, t5, t6, t7⟩, -, -⟩ := HIL.out)))
              go_roundw
              case rel => exact ⟨i + 1, by go_num, HLT.out, HLO.out⟩
              case measure => simp [intOf]; omega
          · exact absurd hi1 (by have := HN.out; simp; omega)
      | false =>
        cases b2 with
        | true =>
          have htk : ¬ t.k = 1 := by have := hhk rfl; omega
          by_cases hlt2 : i + 1 < n
          · obtain ⟨u, hu⟩ : ∃ u, m.bd[i + 1]? = some u := ⟨_, List.getElem?_eq_getElem (by rw [← HN.out]; exact hlt2)⟩
            obtain ⟨g', o', ua, un, uc, hga, -, -, hcu0, -⟩ := HX.out.get hu
            simp only [Option.some.injEq, Addr.mk.injEq, and_true] at hga
            obtain ⟨rfl, rfl⟩ := hga
            have hpar : isPar m.ps m.bd (i + 1) = (decide (u.k = 1) && decide (0 ≤ idxI u.x m.ps 0)) := by
              unfold isPar
              rw [hu, ← idx_mem]
            have HPU := Lib.hid (HPA.out u.x)
            obtain ⟨K, hK⟩ : ∃ K, idxI u.x m.ps 0 = K := ⟨_, rfl⟩
            rw [hK] at hpar HPU
            rw [hpar] at hi2
            clear hpar hK
            by_cases huk : u.k = 1
            · by_cases hK : 0 ≤ K
              · have hk1 : (t.k == 1) = false := by simp [htk]
                clear hva
                have hj : (i : Int) + 1 < (n : Int) := by omega
                have hj0 : (0 : Int) ≤ (i : Int) + 1 := by omega
                have hjn : i + 1 < n := hlt2
                have huk1 : (u.k == 1) = true := by simp [huk]
                clear hi1 hi2 hi3 hpk hhk htk ht huk hu
                have HIL := HIS
                have HLO := Lib.hid (below_up HBW.out HAL.out)
                have HLW := Lib.hid (below_up HBWW.out HAL.out)
                have hcn := hcu0.next HLW.out HGL.out
                obtain ⟨v0, v1, -⟩ := hcn
                have HCU0 := Lib.hid hcu0
                clear hcu0
                go_upto_region 5 with (fail)
                clear m0 m1 m2 m3 m4 m5 m6 m7 c0 c1 c2 c3 c4 c5 c6 c7
                obtain ⟨X1, hX1⟩ : ∃ X, wr.alloc (.cells #[.int .i64 t.k, .string t.x, .bool t.sp, .string t.g, .int .i64 t.f, .int .i64 t.t, .bool t.d, .slice ta tn tc] 26) = X := ⟨_, rfl⟩
                rw [hX1] at HIL HLO HLW ⊢
                rw [hX1] at v0 v1
                obtain ⟨bt, hbt⟩ : ∃ b, wr.heap.size = b := ⟨_, rfl⟩
                rw [hbt] at HIL ⊢
                clear hX1 hbt
                obtain ⟨⟨m0, m1, m2, m3, m4, m5, m6, m7⟩, ⟨t0, t1, t2, t3, t4, t5, t6, t7⟩, -, -⟩ := HIL.out
                have hwr : IntKind.i64.wrap ((i : Int) + 1) = (i : Int) + 1 := IntWalk.i64_in _ (by omega)
                go_still_tail 25, (by kernel_rfl)
                change wpList _ _ _ _ _ X1.drew
                have HLO := Lib.hid (below_up HLO.out (Below.refl _ _).drew)
                have HIL := Lib.hid (HIL.out.over (Below.refl _ _).drew)
                have HLW := Lib.hid (HLW.out.drew)
                clear m0 m1 m2 m3 m4 m5 m6 m7 t0 t1 t2 t3 t4 t5 t6 t7
                obtain ⟨⟨m0, m1, m2, m3, m4, m5, m6, m7⟩, ⟨t0, t1, t2, t3, t4, t5, t6, t7⟩, -, -⟩ := HIL.out
                go_wp2_with (first
                  | (go_at_call 45; (with_reducible refine (HPU.out _ HLW.out).mono ?_); rintro e X2 ⟨rfl, hb⟩; have HLO := Lib.hid (below_up HLO.out hb); have HIL := Lib.hid (HIL.out.over hb); clear hb; clear m0 m1 m2 m3 m4 m5 m6 m7 t0 t1 t2 t3 t4 t5 t6 t7; (obtain ⟨⟨m0, m1, m2, m3, m4, m5, m6, m7⟩, ⟨t0, t1, t2, t3, t4, t5, t6, t7⟩, -, -⟩ := HIL.out))
                  | (go_at_call 46; (with_reducible refine (HPT.out _).mono ?_); rintro e X3 ⟨rfl, hb⟩; have HLO := Lib.hid (below_up HLO.out hb); have HIL := Lib.hid (HIL.out.over hb); clear hb; clear m0 m1 m2 m3 m4 m5 m6 m7 t0 t1 t2 t3 t4 t5 t6 t7; (obtain ⟨⟨m0, m1, m2, m3, m4, m5, m6, m7⟩, ⟨t0, t1, t2, t3, t4, t5, t6, t7⟩, -, -⟩ := HIL.out))
                  | (go_at_call 47; (with_reducible refine (HHT.out _).mono ?_); rintro e X4 ⟨rfl, hb⟩; have HLO := Lib.hid (below_up HLO.out hb); have HIL := Lib.hid (HIL.out.over hb); clear hb; clear m0 m1 m2 m3 m4 m5 m6 m7 t0 t1 t2 t3 t4 t5 t6 t7; (obtain ⟨⟨m0, m1, m2, m3, m4, m5, m6, m7⟩, ⟨t0, t1, t2, t3, t4, t5, t6, t7⟩, -, -⟩ := HIL.out)))
                go_roundw
                case rel => exact ⟨i + 1, by go_num, HLT.out, HLO.out⟩
                case measure => simp [intOf]; omega
              · exact absurd hi2 (by simp [huk, hK])
            · exact absurd hi2 (by simp [huk])
          · exact absurd hi2 (by unfold isPar; rw [List.getElem?_eq_none (by have := HN.out; omega)]; simp)
        | false =>
          by_cases htk : t.k = 1
          · by_cases hlt2 : i + 1 < n
            · obtain ⟨u, hu⟩ : ∃ u, m.bd[i + 1]? = some u := ⟨_, List.getElem?_eq_getElem (by rw [← HN.out]; exact hlt2)⟩
              obtain ⟨g', o', ua, un, uc, hga, -, -, hcu0, -⟩ := HX.out.get hu
              simp only [Option.some.injEq, Addr.mk.injEq, and_true] at hga
              obtain ⟨rfl, rfl⟩ := hga
              have hpar : isPar m.ps m.bd (i + 1) = (decide (u.k = 1) && decide (0 ≤ idxI u.x m.ps 0)) := by
                unfold isPar
                rw [hu, ← idx_mem]
              have HPU := Lib.hid (HPA.out u.x)
              obtain ⟨K, hK⟩ : ∃ K, idxI u.x m.ps 0 = K := ⟨_, rfl⟩
              rw [hK] at hpar HPU
              rw [hpar] at hi2
              clear hpar hK
              by_cases huk : u.k = 1
              · by_cases hK : 0 ≤ K
                · have hk1 : (t.k == 1) = true := by simp [htk]
                  have hx1 : decide (t.x = vaB) = false := by simpa [htk] using hi3
                  rw [hx1] at hva
                  have hj : (i : Int) + 1 < (n : Int) := by omega
                  have hj0 : (0 : Int) ≤ (i : Int) + 1 := by omega
                  have hjn : i + 1 < n := hlt2
                  have huk1 : (u.k == 1) = true := by simp [huk]
                  clear hi1 hi2 hi3 hpk hhk htk ht huk hu
                  have HIL := HIS
                  have HLO := Lib.hid (below_up HBW.out HAL.out)
                  have HLW := Lib.hid (below_up HBWW.out HAL.out)
                  have hcn := hcu0.next HLW.out HGL.out
                  obtain ⟨v0, v1, -⟩ := hcn
                  have HCU0 := Lib.hid hcu0
                  clear hcu0
                  go_upto_region 5 with (fail)
                  clear m0 m1 m2 m3 m4 m5 m6 m7 c0 c1 c2 c3 c4 c5 c6 c7
                  obtain ⟨X1, hX1⟩ : ∃ X, wr.alloc (.cells #[.int .i64 t.k, .string t.x, .bool t.sp, .string t.g, .int .i64 t.f, .int .i64 t.t, .bool t.d, .slice ta tn tc] 26) = X := ⟨_, rfl⟩
                  rw [hX1] at HIL HLO HLW ⊢
                  rw [hX1] at v0 v1
                  obtain ⟨bt, hbt⟩ : ∃ b, wr.heap.size = b := ⟨_, rfl⟩
                  rw [hbt] at HIL ⊢
                  clear hX1 hbt
                  obtain ⟨⟨m0, m1, m2, m3, m4, m5, m6, m7⟩, ⟨t0, t1, t2, t3, t4, t5, t6, t7⟩, -, -⟩ := HIL.out
                  have hwr : IntKind.i64.wrap ((i : Int) + 1) = (i : Int) + 1 := IntWalk.i64_in _ (by omega)
                  go_still_tail 25, (by kernel_rfl)
                  change wpList _ _ _ _ _ X1.drew
                  have HLO := Lib.hid (below_up HLO.out (Below.refl _ _).drew)
                  have HIL := Lib.hid (HIL.out.over (Below.refl _ _).drew)
                  have HLW := Lib.hid (HLW.out.drew)
                  clear m0 m1 m2 m3 m4 m5 m6 m7 t0 t1 t2 t3 t4 t5 t6 t7
                  obtain ⟨⟨m0, m1, m2, m3, m4, m5, m6, m7⟩, ⟨t0, t1, t2, t3, t4, t5, t6, t7⟩, -, -⟩ := HIL.out
                  go_wp2_with (first
                    | (go_at_call 45; (with_reducible refine (HPU.out _ HLW.out).mono ?_); rintro e X2 ⟨rfl, hb⟩; have HLO := Lib.hid (below_up HLO.out hb); have HIL := Lib.hid (HIL.out.over hb); clear hb; clear m0 m1 m2 m3 m4 m5 m6 m7 t0 t1 t2 t3 t4 t5 t6 t7; (obtain ⟨⟨m0, m1, m2, m3, m4, m5, m6, m7⟩, ⟨t0, t1, t2, t3, t4, t5, t6, t7⟩, -, -⟩ := HIL.out))
                    | (go_at_call 46; (with_reducible refine (HPT.out _).mono ?_); rintro e X3 ⟨rfl, hb⟩; have HLO := Lib.hid (below_up HLO.out hb); have HIL := Lib.hid (HIL.out.over hb); clear hb; clear m0 m1 m2 m3 m4 m5 m6 m7 t0 t1 t2 t3 t4 t5 t6 t7; (obtain ⟨⟨m0, m1, m2, m3, m4, m5, m6, m7⟩, ⟨t0, t1, t2, t3, t4, t5, t6, t7⟩, -, -⟩ := HIL.out))
                    | (go_at_call 47; (with_reducible refine (HHT.out _).mono ?_); rintro e X4 ⟨rfl, hb⟩; have HLO := Lib.hid (below_up HLO.out hb); have HIL := Lib.hid (HIL.out.over hb); clear hb; clear m0 m1 m2 m3 m4 m5 m6 m7 t0 t1 t2 t3 t4 t5 t6 t7; (obtain ⟨⟨m0, m1, m2, m3, m4, m5, m6, m7⟩, ⟨t0, t1, t2, t3, t4, t5, t6, t7⟩, -, -⟩ := HIL.out)))
                  go_roundw
                  case rel => exact ⟨i + 1, by go_num, HLT.out, HLO.out⟩
                  case measure => simp [intOf]; omega
                · have hk1 : (t.k == 1) = true := by simp [htk]
                  have hx1 : decide (t.x = vaB) = false := by simpa [htk] using hi3
                  rw [hx1] at hva
                  have hj : (i : Int) + 1 < (n : Int) := by omega
                  have hj0 : (0 : Int) ≤ (i : Int) + 1 := by omega
                  have hjn : i + 1 < n := hlt2
                  have huk1 : (u.k == 1) = true := by simp [huk]
                  clear hi1 hi2 hi3 hpk hhk htk ht huk hu
                  have HIL := HIS
                  have HLO := Lib.hid (below_up HBW.out HAL.out)
                  have HLW := Lib.hid (below_up HBWW.out HAL.out)
                  have hcn := hcu0.next HLW.out HGL.out
                  obtain ⟨v0, v1, -⟩ := hcn
                  have HCU0 := Lib.hid hcu0
                  clear hcu0
                  go_upto_region 5 with (fail)
                  clear m0 m1 m2 m3 m4 m5 m6 m7 c0 c1 c2 c3 c4 c5 c6 c7
                  obtain ⟨X1, hX1⟩ : ∃ X, wr.alloc (.cells #[.int .i64 t.k, .string t.x, .bool t.sp, .string t.g, .int .i64 t.f, .int .i64 t.t, .bool t.d, .slice ta tn tc] 26) = X := ⟨_, rfl⟩
                  rw [hX1] at HIL HLO HLW ⊢
                  rw [hX1] at v0 v1
                  obtain ⟨bt, hbt⟩ : ∃ b, wr.heap.size = b := ⟨_, rfl⟩
                  rw [hbt] at HIL ⊢
                  clear hX1 hbt
                  obtain ⟨⟨m0, m1, m2, m3, m4, m5, m6, m7⟩, ⟨t0, t1, t2, t3, t4, t5, t6, t7⟩, -, -⟩ := HIL.out
                  have hwr : IntKind.i64.wrap ((i : Int) + 1) = (i : Int) + 1 := IntWalk.i64_in _ (by omega)
                  go_still_tail 25, (by kernel_rfl)
                  change wpList _ _ _ _ _ X1.drew
                  have HLO := Lib.hid (below_up HLO.out (Below.refl _ _).drew)
                  have HIL := Lib.hid (HIL.out.over (Below.refl _ _).drew)
                  have HLW := Lib.hid (HLW.out.drew)
                  clear m0 m1 m2 m3 m4 m5 m6 m7 t0 t1 t2 t3 t4 t5 t6 t7
                  obtain ⟨⟨m0, m1, m2, m3, m4, m5, m6, m7⟩, ⟨t0, t1, t2, t3, t4, t5, t6, t7⟩, -, -⟩ := HIL.out
                  go_wp2_with (first
                    | (go_at_call 45; (with_reducible refine (HPU.out _ HLW.out).mono ?_); rintro e X2 ⟨rfl, hb⟩; have HLO := Lib.hid (below_up HLO.out hb); have HIL := Lib.hid (HIL.out.over hb); clear hb; clear m0 m1 m2 m3 m4 m5 m6 m7 t0 t1 t2 t3 t4 t5 t6 t7; (obtain ⟨⟨m0, m1, m2, m3, m4, m5, m6, m7⟩, ⟨t0, t1, t2, t3, t4, t5, t6, t7⟩, -, -⟩ := HIL.out))
                    | (go_at_call 46; (with_reducible refine (HPT.out _).mono ?_); rintro e X3 ⟨rfl, hb⟩; have HLO := Lib.hid (below_up HLO.out hb); have HIL := Lib.hid (HIL.out.over hb); clear hb; clear m0 m1 m2 m3 m4 m5 m6 m7 t0 t1 t2 t3 t4 t5 t6 t7; (obtain ⟨⟨m0, m1, m2, m3, m4, m5, m6, m7⟩, ⟨t0, t1, t2, t3, t4, t5, t6, t7⟩, -, -⟩ := HIL.out))
                    | (go_at_call 47; (with_reducible refine (HHT.out _).mono ?_); rintro e X4 ⟨rfl, hb⟩; have HLO := Lib.hid (below_up HLO.out hb); have HIL := Lib.hid (HIL.out.over hb); clear hb; clear m0 m1 m2 m3 m4 m5 m6 m7 t0 t1 t2 t3 t4 t5 t6 t7; (obtain ⟨⟨m0, m1, m2, m3, m4, m5, m6, m7⟩, ⟨t0, t1, t2, t3, t4, t5, t6, t7⟩, -, -⟩ := HIL.out)))
                  go_roundw
                  case rel => exact ⟨i + 1, by go_num, HLT.out, HLO.out⟩
                  case measure => simp [intOf]; omega
              · have hk1 : (t.k == 1) = true := by simp [htk]
                have hx1 : decide (t.x = vaB) = false := by simpa [htk] using hi3
                rw [hx1] at hva
                have hj : (i : Int) + 1 < (n : Int) := by omega
                have hj0 : (0 : Int) ≤ (i : Int) + 1 := by omega
                have hjn : i + 1 < n := hlt2
                have huk1 : (u.k == 1) = false := by simp [huk]
                clear hi1 hi2 hi3 hpk hhk htk ht huk hu
                have HIL := HIS
                have HLO := Lib.hid (below_up HBW.out HAL.out)
                have HLW := Lib.hid (below_up HBWW.out HAL.out)
                have hcn := hcu0.next HLW.out HGL.out
                obtain ⟨v0, v1, -⟩ := hcn
                have HCU0 := Lib.hid hcu0
                clear hcu0
                go_upto_region 5 with (fail)
                clear m0 m1 m2 m3 m4 m5 m6 m7 c0 c1 c2 c3 c4 c5 c6 c7
                obtain ⟨X1, hX1⟩ : ∃ X, wr.alloc (.cells #[.int .i64 t.k, .string t.x, .bool t.sp, .string t.g, .int .i64 t.f, .int .i64 t.t, .bool t.d, .slice ta tn tc] 26) = X := ⟨_, rfl⟩
                rw [hX1] at HIL HLO HLW ⊢
                rw [hX1] at v0 v1
                obtain ⟨bt, hbt⟩ : ∃ b, wr.heap.size = b := ⟨_, rfl⟩
                rw [hbt] at HIL ⊢
                clear hX1 hbt
                obtain ⟨⟨m0, m1, m2, m3, m4, m5, m6, m7⟩, ⟨t0, t1, t2, t3, t4, t5, t6, t7⟩, -, -⟩ := HIL.out
                go_quiet (fail)
                have HLO := Lib.hid (below_up HLO.out (Below.of_drews _ nq))
                have HIL := Lib.hid (HIL.out.over (Below.of_drews _ nq))
                clear m0 m1 m2 m3 m4 m5 m6 m7 t0 t1 t2 t3 t4 t5 t6 t7
                obtain ⟨⟨m0, m1, m2, m3, m4, m5, m6, m7⟩, ⟨t0, t1, t2, t3, t4, t5, t6, t7⟩, -, -⟩ := HIL.out
                go_wp2_with (first
                  | (go_at_call 46; (with_reducible refine (HPT.out _).mono ?_); rintro e X3 ⟨rfl, hb⟩; have HLO := Lib.hid (below_up HLO.out hb); have HIL := Lib.hid (HIL.out.over hb); clear hb; clear m0 m1 m2 m3 m4 m5 m6 m7 t0 t1 t2 t3 t4 t5 t6 t7; (obtain ⟨⟨m0, m1, m2, m3, m4, m5, m6, m7⟩, ⟨t0, t1, t2, t3, t4, t5, t6, t7⟩, -, -⟩ := HIL.out))
                  | (go_at_call 47; (with_reducible refine (HHT.out _).mono ?_); rintro e X4 ⟨rfl, hb⟩; have HLO := Lib.hid (below_up HLO.out hb); have HIL := Lib.hid (HIL.out.over hb); clear hb; clear m0 m1 m2 m3 m4 m5 m6 m7 t0 t1 t2 t3 t4 t5 t6 t7; (obtain ⟨⟨m0, m1, m2, m3, m4, m5, m6, m7⟩, ⟨t0, t1, t2, t3, t4, t5, t6, t7⟩, -, -⟩ := HIL.out)))
                go_roundw
                case rel => exact ⟨i + 1, by go_num, HLT.out, HLO.out⟩
                case measure => simp [intOf]; omega
            · have hk1 : (t.k == 1) = true := by simp [htk]
              have hx1 : decide (t.x = vaB) = false := by simpa [htk] using hi3
              rw [hx1] at hva
              have hj : ¬ (i : Int) + 1 < (n : Int) := by omega
              clear hi1 hi2 hi3 hpk hhk htk ht
              have HIL := HIS
              have HLO := Lib.hid (below_up HBW.out HAL.out)
              have HLW := Lib.hid (below_up HBWW.out HAL.out)
              go_upto_region 5 with (fail)
              clear m0 m1 m2 m3 m4 m5 m6 m7 c0 c1 c2 c3 c4 c5 c6 c7
              obtain ⟨X1, hX1⟩ : ∃ X, wr.alloc (.cells #[.int .i64 t.k, .string t.x, .bool t.sp, .string t.g, .int .i64 t.f, .int .i64 t.t, .bool t.d, .slice ta tn tc] 26) = X := ⟨_, rfl⟩
              rw [hX1] at HIL HLO HLW ⊢
              obtain ⟨bt, hbt⟩ : ∃ b, wr.heap.size = b := ⟨_, rfl⟩
              rw [hbt] at HIL ⊢
              clear hX1 hbt
              obtain ⟨⟨m0, m1, m2, m3, m4, m5, m6, m7⟩, ⟨t0, t1, t2, t3, t4, t5, t6, t7⟩, -, -⟩ := HIL.out
              go_quiet (fail)
              have HLO := Lib.hid (below_up HLO.out (Below.of_drews _ nq))
              have HIL := Lib.hid (HIL.out.over (Below.of_drews _ nq))
              clear m0 m1 m2 m3 m4 m5 m6 m7 t0 t1 t2 t3 t4 t5 t6 t7
              obtain ⟨⟨m0, m1, m2, m3, m4, m5, m6, m7⟩, ⟨t0, t1, t2, t3, t4, t5, t6, t7⟩, -, -⟩ := HIL.out
              go_wp2_with (first
                | (go_at_call 46; (with_reducible refine (HPT.out _).mono ?_); rintro e X3 ⟨rfl, hb⟩; have HLO := Lib.hid (below_up HLO.out hb); have HIL := Lib.hid (HIL.out.over hb); clear hb; clear m0 m1 m2 m3 m4 m5 m6 m7 t0 t1 t2 t3 t4 t5 t6 t7; (obtain ⟨⟨m0, m1, m2, m3, m4, m5, m6, m7⟩, ⟨t0, t1, t2, t3, t4, t5, t6, t7⟩, -, -⟩ := HIL.out))
                | (go_at_call 47; (with_reducible refine (HHT.out _).mono ?_); rintro e X4 ⟨rfl, hb⟩; have HLO := Lib.hid (below_up HLO.out hb); have HIL := Lib.hid (HIL.out.over hb); clear hb; clear m0 m1 m2 m3 m4 m5 m6 m7 t0 t1 t2 t3 t4 t5 t6 t7; (obtain ⟨⟨m0, m1, m2, m3, m4, m5, m6, m7⟩, ⟨t0, t1, t2, t3, t4, t5, t6, t7⟩, -, -⟩ := HIL.out)))
              go_roundw
              case rel => exact ⟨i + 1, by go_num, HLT.out, HLO.out⟩
              case measure => simp [intOf]; omega
          · by_cases hlt2 : i + 1 < n
            · obtain ⟨u, hu⟩ : ∃ u, m.bd[i + 1]? = some u := ⟨_, List.getElem?_eq_getElem (by rw [← HN.out]; exact hlt2)⟩
              obtain ⟨g', o', ua, un, uc, hga, -, -, hcu0, -⟩ := HX.out.get hu
              simp only [Option.some.injEq, Addr.mk.injEq, and_true] at hga
              obtain ⟨rfl, rfl⟩ := hga
              have hpar : isPar m.ps m.bd (i + 1) = (decide (u.k = 1) && decide (0 ≤ idxI u.x m.ps 0)) := by
                unfold isPar
                rw [hu, ← idx_mem]
              have HPU := Lib.hid (HPA.out u.x)
              obtain ⟨K, hK⟩ : ∃ K, idxI u.x m.ps 0 = K := ⟨_, rfl⟩
              rw [hK] at hpar HPU
              rw [hpar] at hi2
              clear hpar hK
              by_cases huk : u.k = 1
              · by_cases hK : 0 ≤ K
                · have hk1 : (t.k == 1) = false := by simp [htk]
                  clear hva
                  have hj : (i : Int) + 1 < (n : Int) := by omega
                  have hj0 : (0 : Int) ≤ (i : Int) + 1 := by omega
                  have hjn : i + 1 < n := hlt2
                  have huk1 : (u.k == 1) = true := by simp [huk]
                  clear hi1 hi2 hi3 hpk hhk htk ht huk hu
                  have HIL := HIS
                  have HLO := Lib.hid (below_up HBW.out HAL.out)
                  have HLW := Lib.hid (below_up HBWW.out HAL.out)
                  have hcn := hcu0.next HLW.out HGL.out
                  obtain ⟨v0, v1, -⟩ := hcn
                  have HCU0 := Lib.hid hcu0
                  clear hcu0
                  go_upto_region 5 with (fail)
                  clear m0 m1 m2 m3 m4 m5 m6 m7 c0 c1 c2 c3 c4 c5 c6 c7
                  obtain ⟨X1, hX1⟩ : ∃ X, wr.alloc (.cells #[.int .i64 t.k, .string t.x, .bool t.sp, .string t.g, .int .i64 t.f, .int .i64 t.t, .bool t.d, .slice ta tn tc] 26) = X := ⟨_, rfl⟩
                  rw [hX1] at HIL HLO HLW ⊢
                  rw [hX1] at v0 v1
                  obtain ⟨bt, hbt⟩ : ∃ b, wr.heap.size = b := ⟨_, rfl⟩
                  rw [hbt] at HIL ⊢
                  clear hX1 hbt
                  obtain ⟨⟨m0, m1, m2, m3, m4, m5, m6, m7⟩, ⟨t0, t1, t2, t3, t4, t5, t6, t7⟩, -, -⟩ := HIL.out
                  have hwr : IntKind.i64.wrap ((i : Int) + 1) = (i : Int) + 1 := IntWalk.i64_in _ (by omega)
                  go_still_tail 25, (by kernel_rfl)
                  change wpList _ _ _ _ _ X1.drew
                  have HLO := Lib.hid (below_up HLO.out (Below.refl _ _).drew)
                  have HIL := Lib.hid (HIL.out.over (Below.refl _ _).drew)
                  have HLW := Lib.hid (HLW.out.drew)
                  clear m0 m1 m2 m3 m4 m5 m6 m7 t0 t1 t2 t3 t4 t5 t6 t7
                  obtain ⟨⟨m0, m1, m2, m3, m4, m5, m6, m7⟩, ⟨t0, t1, t2, t3, t4, t5, t6, t7⟩, -, -⟩ := HIL.out
                  go_wp2_with (first
                    | (go_at_call 45; (with_reducible refine (HPU.out _ HLW.out).mono ?_); rintro e X2 ⟨rfl, hb⟩; have HLO := Lib.hid (below_up HLO.out hb); have HIL := Lib.hid (HIL.out.over hb); clear hb; clear m0 m1 m2 m3 m4 m5 m6 m7 t0 t1 t2 t3 t4 t5 t6 t7; (obtain ⟨⟨m0, m1, m2, m3, m4, m5, m6, m7⟩, ⟨t0, t1, t2, t3, t4, t5, t6, t7⟩, -, -⟩ := HIL.out))
                    | (go_at_call 46; (with_reducible refine (HPT.out _).mono ?_); rintro e X3 ⟨rfl, hb⟩; have HLO := Lib.hid (below_up HLO.out hb); have HIL := Lib.hid (HIL.out.over hb); clear hb; clear m0 m1 m2 m3 m4 m5 m6 m7 t0 t1 t2 t3 t4 t5 t6 t7; (obtain ⟨⟨m0, m1, m2, m3, m4, m5, m6, m7⟩, ⟨t0, t1, t2, t3, t4, t5, t6, t7⟩, -, -⟩ := HIL.out))
                    | (go_at_call 47; (with_reducible refine (HHT.out _).mono ?_); rintro e X4 ⟨rfl, hb⟩; have HLO := Lib.hid (below_up HLO.out hb); have HIL := Lib.hid (HIL.out.over hb); clear hb; clear m0 m1 m2 m3 m4 m5 m6 m7 t0 t1 t2 t3 t4 t5 t6 t7; (obtain ⟨⟨m0, m1, m2, m3, m4, m5, m6, m7⟩, ⟨t0, t1, t2, t3, t4, t5, t6, t7⟩, -, -⟩ := HIL.out)))
                  go_roundw
                  case rel => exact ⟨i + 1, by go_num, HLT.out, HLO.out⟩
                  case measure => simp [intOf]; omega
                · have hk1 : (t.k == 1) = false := by simp [htk]
                  clear hva
                  have hj : (i : Int) + 1 < (n : Int) := by omega
                  have hj0 : (0 : Int) ≤ (i : Int) + 1 := by omega
                  have hjn : i + 1 < n := hlt2
                  have huk1 : (u.k == 1) = true := by simp [huk]
                  clear hi1 hi2 hi3 hpk hhk htk ht huk hu
                  have HIL := HIS
                  have HLO := Lib.hid (below_up HBW.out HAL.out)
                  have HLW := Lib.hid (below_up HBWW.out HAL.out)
                  have hcn := hcu0.next HLW.out HGL.out
                  obtain ⟨v0, v1, -⟩ := hcn
                  have HCU0 := Lib.hid hcu0
                  clear hcu0
                  go_upto_region 5 with (fail)
                  clear m0 m1 m2 m3 m4 m5 m6 m7 c0 c1 c2 c3 c4 c5 c6 c7
                  obtain ⟨X1, hX1⟩ : ∃ X, wr.alloc (.cells #[.int .i64 t.k, .string t.x, .bool t.sp, .string t.g, .int .i64 t.f, .int .i64 t.t, .bool t.d, .slice ta tn tc] 26) = X := ⟨_, rfl⟩
                  rw [hX1] at HIL HLO HLW ⊢
                  rw [hX1] at v0 v1
                  obtain ⟨bt, hbt⟩ : ∃ b, wr.heap.size = b := ⟨_, rfl⟩
                  rw [hbt] at HIL ⊢
                  clear hX1 hbt
                  obtain ⟨⟨m0, m1, m2, m3, m4, m5, m6, m7⟩, ⟨t0, t1, t2, t3, t4, t5, t6, t7⟩, -, -⟩ := HIL.out
                  have hwr : IntKind.i64.wrap ((i : Int) + 1) = (i : Int) + 1 := IntWalk.i64_in _ (by omega)
                  go_still_tail 25, (by kernel_rfl)
                  change wpList _ _ _ _ _ X1.drew
                  have HLO := Lib.hid (below_up HLO.out (Below.refl _ _).drew)
                  have HIL := Lib.hid (HIL.out.over (Below.refl _ _).drew)
                  have HLW := Lib.hid (HLW.out.drew)
                  clear m0 m1 m2 m3 m4 m5 m6 m7 t0 t1 t2 t3 t4 t5 t6 t7
                  obtain ⟨⟨m0, m1, m2, m3, m4, m5, m6, m7⟩, ⟨t0, t1, t2, t3, t4, t5, t6, t7⟩, -, -⟩ := HIL.out
                  go_wp2_with (first
                    | (go_at_call 45; (with_reducible refine (HPU.out _ HLW.out).mono ?_); rintro e X2 ⟨rfl, hb⟩; have HLO := Lib.hid (below_up HLO.out hb); have HIL := Lib.hid (HIL.out.over hb); clear hb; clear m0 m1 m2 m3 m4 m5 m6 m7 t0 t1 t2 t3 t4 t5 t6 t7; (obtain ⟨⟨m0, m1, m2, m3, m4, m5, m6, m7⟩, ⟨t0, t1, t2, t3, t4, t5, t6, t7⟩, -, -⟩ := HIL.out))
                    | (go_at_call 46; (with_reducible refine (HPT.out _).mono ?_); rintro e X3 ⟨rfl, hb⟩; have HLO := Lib.hid (below_up HLO.out hb); have HIL := Lib.hid (HIL.out.over hb); clear hb; clear m0 m1 m2 m3 m4 m5 m6 m7 t0 t1 t2 t3 t4 t5 t6 t7; (obtain ⟨⟨m0, m1, m2, m3, m4, m5, m6, m7⟩, ⟨t0, t1, t2, t3, t4, t5, t6, t7⟩, -, -⟩ := HIL.out))
                    | (go_at_call 47; (with_reducible refine (HHT.out _).mono ?_); rintro e X4 ⟨rfl, hb⟩; have HLO := Lib.hid (below_up HLO.out hb); have HIL := Lib.hid (HIL.out.over hb); clear hb; clear m0 m1 m2 m3 m4 m5 m6 m7 t0 t1 t2 t3 t4 t5 t6 t7; (obtain ⟨⟨m0, m1, m2, m3, m4, m5, m6, m7⟩, ⟨t0, t1, t2, t3, t4, t5, t6, t7⟩, -, -⟩ := HIL.out)))
                  go_roundw
                  case rel => exact ⟨i + 1, by go_num, HLT.out, HLO.out⟩
                  case measure => simp [intOf]; omega
              · have hk1 : (t.k == 1) = false := by simp [htk]
                clear hva
                have hj : (i : Int) + 1 < (n : Int) := by omega
                have hj0 : (0 : Int) ≤ (i : Int) + 1 := by omega
                have hjn : i + 1 < n := hlt2
                have huk1 : (u.k == 1) = false := by simp [huk]
                clear hi1 hi2 hi3 hpk hhk htk ht huk hu
                have HIL := HIS
                have HLO := Lib.hid (below_up HBW.out HAL.out)
                have HLW := Lib.hid (below_up HBWW.out HAL.out)
                have hcn := hcu0.next HLW.out HGL.out
                obtain ⟨v0, v1, -⟩ := hcn
                have HCU0 := Lib.hid hcu0
                clear hcu0
                go_upto_region 5 with (fail)
                clear m0 m1 m2 m3 m4 m5 m6 m7 c0 c1 c2 c3 c4 c5 c6 c7
                obtain ⟨X1, hX1⟩ : ∃ X, wr.alloc (.cells #[.int .i64 t.k, .string t.x, .bool t.sp, .string t.g, .int .i64 t.f, .int .i64 t.t, .bool t.d, .slice ta tn tc] 26) = X := ⟨_, rfl⟩
                rw [hX1] at HIL HLO HLW ⊢
                rw [hX1] at v0 v1
                obtain ⟨bt, hbt⟩ : ∃ b, wr.heap.size = b := ⟨_, rfl⟩
                rw [hbt] at HIL ⊢
                clear hX1 hbt
                obtain ⟨⟨m0, m1, m2, m3, m4, m5, m6, m7⟩, ⟨t0, t1, t2, t3, t4, t5, t6, t7⟩, -, -⟩ := HIL.out
                go_quiet (fail)
                have HLO := Lib.hid (below_up HLO.out (Below.of_drews _ nq))
                have HIL := Lib.hid (HIL.out.over (Below.of_drews _ nq))
                clear m0 m1 m2 m3 m4 m5 m6 m7 t0 t1 t2 t3 t4 t5 t6 t7
                obtain ⟨⟨m0, m1, m2, m3, m4, m5, m6, m7⟩, ⟨t0, t1, t2, t3, t4, t5, t6, t7⟩, -, -⟩ := HIL.out
                go_wp2_with (first
                  | (go_at_call 46; (with_reducible refine (HPT.out _).mono ?_); rintro e X3 ⟨rfl, hb⟩; have HLO := Lib.hid (below_up HLO.out hb); have HIL := Lib.hid (HIL.out.over hb); clear hb; clear m0 m1 m2 m3 m4 m5 m6 m7 t0 t1 t2 t3 t4 t5 t6 t7; (obtain ⟨⟨m0, m1, m2, m3, m4, m5, m6, m7⟩, ⟨t0, t1, t2, t3, t4, t5, t6, t7⟩, -, -⟩ := HIL.out))
                  | (go_at_call 47; (with_reducible refine (HHT.out _).mono ?_); rintro e X4 ⟨rfl, hb⟩; have HLO := Lib.hid (below_up HLO.out hb); have HIL := Lib.hid (HIL.out.over hb); clear hb; clear m0 m1 m2 m3 m4 m5 m6 m7 t0 t1 t2 t3 t4 t5 t6 t7; (obtain ⟨⟨m0, m1, m2, m3, m4, m5, m6, m7⟩, ⟨t0, t1, t2, t3, t4, t5, t6, t7⟩, -, -⟩ := HIL.out)))
                go_roundw
                case rel => exact ⟨i + 1, by go_num, HLT.out, HLO.out⟩
                case measure => simp [intOf]; omega
            · have hk1 : (t.k == 1) = false := by simp [htk]
              clear hva
              have hj : ¬ (i : Int) + 1 < (n : Int) := by omega
              clear hi1 hi2 hi3 hpk hhk htk ht
              have HIL := HIS
              have HLO := Lib.hid (below_up HBW.out HAL.out)
              have HLW := Lib.hid (below_up HBWW.out HAL.out)
              go_upto_region 5 with (fail)
              clear m0 m1 m2 m3 m4 m5 m6 m7 c0 c1 c2 c3 c4 c5 c6 c7
              obtain ⟨X1, hX1⟩ : ∃ X, wr.alloc (.cells #[.int .i64 t.k, .string t.x, .bool t.sp, .string t.g, .int .i64 t.f, .int .i64 t.t, .bool t.d, .slice ta tn tc] 26) = X := ⟨_, rfl⟩
              rw [hX1] at HIL HLO HLW ⊢
              obtain ⟨bt, hbt⟩ : ∃ b, wr.heap.size = b := ⟨_, rfl⟩
              rw [hbt] at HIL ⊢
              clear hX1 hbt
              obtain ⟨⟨m0, m1, m2, m3, m4, m5, m6, m7⟩, ⟨t0, t1, t2, t3, t4, t5, t6, t7⟩, -, -⟩ := HIL.out
              go_quiet (fail)
              have HLO := Lib.hid (below_up HLO.out (Below.of_drews _ nq))
              have HIL := Lib.hid (HIL.out.over (Below.of_drews _ nq))
              clear m0 m1 m2 m3 m4 m5 m6 m7 t0 t1 t2 t3 t4 t5 t6 t7
              obtain ⟨⟨m0, m1, m2, m3, m4, m5, m6, m7⟩, ⟨t0, t1, t2, t3, t4, t5, t6, t7⟩, -, -⟩ := HIL.out
              go_wp2_with (first
                | (go_at_call 46; (with_reducible refine (HPT.out _).mono ?_); rintro e X3 ⟨rfl, hb⟩; have HLO := Lib.hid (below_up HLO.out hb); have HIL := Lib.hid (HIL.out.over hb); clear hb; clear m0 m1 m2 m3 m4 m5 m6 m7 t0 t1 t2 t3 t4 t5 t6 t7; (obtain ⟨⟨m0, m1, m2, m3, m4, m5, m6, m7⟩, ⟨t0, t1, t2, t3, t4, t5, t6, t7⟩, -, -⟩ := HIL.out))
                | (go_at_call 47; (with_reducible refine (HHT.out _).mono ?_); rintro e X4 ⟨rfl, hb⟩; have HLO := Lib.hid (below_up HLO.out hb); have HIL := Lib.hid (HIL.out.over hb); clear hb; clear m0 m1 m2 m3 m4 m5 m6 m7 t0 t1 t2 t3 t4 t5 t6 t7; (obtain ⟨⟨m0, m1, m2, m3, m4, m5, m6, m7⟩, ⟨t0, t1, t2, t3, t4, t5, t6, t7⟩, -, -⟩ := HIL.out)))
              go_roundw
              case rel => exact ⟨i + 1, by go_num, HLT.out, HLO.out⟩
              case measure => simp [intOf]; omega
    · have hiI : ¬ (i : Int) < (n : Int) := by omega
      go_wp2
      go_ret
      exact int_new rfl (below_up HB1.out HBW.out)

end Go.Proofs.Ytobplffailbkbaa
