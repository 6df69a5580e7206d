/-
  Texts of the proof, put together: AgFitW, AgRFitL.
-/
import Derived.Test.YtipipookgcdfbaaG39

/-
  The project's Fit, walked: of one parameter at least.
-/
namespace Go.Proofs.Ytipipookgcdfbaa
open Go.RowKit

theorem fit_va {M : Nat} {A : List (List Xt)} (C : List Xt) (h : M ≤ A.length) : fitL (M + 1) true A C = some (A.take M ++ [weaveL (A.drop M) (C.drop M)]) := by
  unfold fitL
  rw [if_neg (by omega), if_pos rfl, if_neg (by omega)]
  rfl
theorem fit_no {M : Nat} {A : List (List Xt)} {va : Bool} (C : List Xt) (h : va = true → A.length < M) (h2 : A.length ≠ M + 1) : fitL (M + 1) va A C = none := by
  unfold fitL
  rw [if_neg (by omega)]
  cases va with
  | true => rw [if_pos rfl, if_pos (by have := h rfl; omega)]
  | false => rw [if_neg (by simp), if_neg h2]
theorem fit_eq {M : Nat} {A : List (List Xt)} (C : List Xt) (h2 : A.length = M + 1) : fitL (M + 1) false A C = some A := by
  unfold fitL
  rw [if_neg (by omega), if_neg (by simp), if_pos h2]

set_option maxRecDepth 100000 in
set_option maxHeartbeats 6400000 in
theorem pfit_va {m : Xm} {pa ba : Option Addr} {M pc bn bc : Nat} {A : List (List Xt)} {C : List Xt} {lv cv : Value} {w : World} (hA : RowsX A lv w) (hC : ToksX C cv w) (hF : FitIn A C) (hM : M ≤ 100000) (hva : m.va = true) (hge : M ≤ A.length) : Calls Try.prog 15 #[macV m (.slice pa (M + 1) pc) (.slice ba bn bc), lv, cv] w (FitPost w (fitL (M + 1) m.va A C)) := by
  obtain ⟨a, n, cap, rfl⟩ := hA.form
  obtain ⟨ca, cn, ccap, rfl⟩ := hC.form
  obtain ⟨hn, hc1, hc2, -⟩ := hA.len
  obtain ⟨hcn, hcc1, hcc2⟩ := hC.len
  unfold maxLen at hc2 hcc2
  unfold macV
  rw [hva, fit_va C hge]
  have hn3 : n ≤ 100000 := by rw [hn]; exact hF.few
  have hgI : (M : Int) ≤ (n : Int) := by omega
  have hgC : (M : Int) ≤ (cap : Int) := by omega
  have hg0 : (0 : Int) ≤ (M : Int) := by omega
  obtain ⟨a', ha', hrun⟩ := rows_from a n cap M (by omega) hc1
  obtain ⟨q, hq⟩ : ∃ q, min M cn = q := ⟨_, rfl⟩
  have hqI : min (M : Int) (cn : Int) = (q : Int) := by omega
  obtain ⟨c', hc', hrun2⟩ := toks_from ca cn ccap q (by omega) hcc1
  have HB : Hid (Below w.heap.size w (w.alloc (.cells #[.string m.n, .bool m.fn, .bool true, .slice pa (M + 1) pc, .slice ba bn bc, .string m.g, .int .i64 m.f, .int .i64 m.t] 38))) := Lib.hid ((Below.refl _ _).alloc (Nat.le_refl _) _)
  have HDR : Hid (RowsX (A.drop M) (.slice a' (n - M) (cap - M)) w) := Lib.hid (hA.drop (by omega) ha')
  have hCd : C.drop q = C.drop M := by
    rcases Nat.le_total M cn with h | h
    · rw [show q = M from by omega]
    · rw [List.drop_of_length_le (by omega), List.drop_of_length_le (by omega)]
  have HDC : Hid (ToksX (C.drop M) (.slice c' (cn - q) (ccap - q)) w) := Lib.hid (by rw [← hCd]; exact hC.drop hc')
  have HJ : Hid (∀ X : World, Below w.heap.size w X → Calls Try.prog 31 #[.slice a' (n - M) (cap - M), .slice c' (cn - q) (ccap - q)] X (ToksHeld X (weaveL (A.drop M) (C.drop M)))) := Lib.hid (fun X hX => joined_any (HDR.out.over hX) (HDC.out.over hX) (drop_len hF.len M) (by rw [List.length_drop]; have := hF.few; omega) (hF.weave M).1 (hF.weave M).2)
  have HTK : Hid (RowsX (A.take M) (.slice a M cap) w) := Lib.hid (hA.take (by omega))
  have HCD : Hid (∀ X : World, Below w.heap.size w X → Calls Try.prog 32 #[.slice a M cap] X (ClonedPost X (A.take M))) := Lib.hid (fun X hX => cloned_any (HTK.out.over hX) (by rw [List.length_take]; have := hF.few; omega) (fun T hT => hF.rows T (List.mem_of_mem_take hT)) (fun T hT => hF.sit T (List.mem_of_mem_take hT)))
  have HML : Hid ((A.take M).length = M) := Lib.hid (by rw [List.length_take]; omega)
  obtain ⟨L, hL⟩ : ∃ L, weaveL (A.drop M) (C.drop M) = L := ⟨_, rfl⟩
  rw [hL] at HJ ⊢
  clear hA hC hF hn hcn ha' hc' hq hCd hL hge hva
  have hM1 : ((M + 1 : Nat) : Int) - 1 = (M : Int) := by omega
  have hM2 : ((M : Int) + 1 == 0) = false := by simp; omega
  have hM3 : IntKind.i64.wrap (M : Int) = (M : Int) := IntWalk.i64_in _ (by omega)
  go_enter Try.func15, Try.ntmps15
  go_wp2_with fail
  go_still_tail 11, (by kernel_rfl)
  change wpList _ _ _ _ _ (World.drew _)
  have HB1 := Lib.hid HB.out.drew
  obtain ⟨w1, hw1⟩ : ∃ w1, (w.alloc (.cells #[.string m.n, .bool m.fn, .bool true, .slice pa (M + 1) pc, .slice ba bn bc, .string m.g, .int .i64 m.f, .int .i64 m.t] 38)).drew = w1 := ⟨_, rfl⟩
  rw [hw1] at HB1 ⊢
  clear hw1
  go_wp2_with (first
    | (go_at_call 31; (with_reducible refine (HJ.out _ HB1.out).mono ?_); rintro e w2 ⟨a2, n2, c2, rfl, -, hz2, hh2, hb2⟩; have HZ2 := Lib.hid hz2; have HX2 := Lib.hid hh2.now.held; have HB2 := Lib.hid (below_up HB1.out hb2); clear hz2 hh2 hb2)
    | (go_at_call 32; (with_reducible refine (HCD.out _ HB2.out).mono ?_); rintro e w3 ⟨a3, n3, c3, rfl, hn3, hC3⟩; (obtain rfl : n3 = M := hn3.trans HML.out); have HC3 := Lib.hid hC3; clear hC3 hn3)
    | (at_builtin; refine wpList_append_sl rfl (.tmp 52) (.tmp 54) 31 rfl _ (CR.pushL (HC3.out.over ((Below.refl _ _).alloc (Nat.le_refl _) _)) ((HC3.out.over ((Below.refl _ _).alloc (Nat.le_refl _) _)).old HX2.out) HZ2.out (src_one _ _ _) (by omega)) ?_; intro b9 n9 c9 w9 h9; have HN9 := Lib.hid h9.1; have HC9 := Lib.hid h9.2.1; clear h9))
  go_ret2
  obtain ⟨g1, g2, -, -⟩ := HC9.out.done
  exact ⟨_, _, _, rfl, g1, g2, below_up HB2.out HC9.out.bel⟩

set_option maxRecDepth 100000 in
set_option maxHeartbeats 6400000 in
theorem pfit_rest {m : Xm} {pa ba : Option Addr} {M pc bn bc : Nat} {A : List (List Xt)} {C : List Xt} {lv cv : Value} {w : World} (hA : RowsX A lv w) (hC : ToksX C cv w) (hF : FitIn A C) (hM : M ≤ 100000) (hva : m.va = true → A.length < M) : Calls Try.prog 15 #[macV m (.slice pa (M + 1) pc) (.slice ba bn bc), lv, cv] w (FitPost w (fitL (M + 1) m.va A C)) := by
  obtain ⟨a, n, cap, rfl⟩ := hA.form
  obtain ⟨ca, cn, ccap, rfl⟩ := hC.form
  obtain ⟨hn, hc1, hc2, -⟩ := hA.len
  unfold maxLen at hc2
  unfold macV
  have hn3 : n ≤ 100000 := by rw [hn]; exact hF.few
  have hM2 : ((M : Int) + 1 == 0) = false := by simp; omega
  have hM3 : IntKind.i64.wrap (M : Int) = (M : Int) := IntWalk.i64_in _ (by omega)
  obtain ⟨va, hv⟩ : ∃ b, m.va = b := ⟨_, rfl⟩
  rw [hv] at hva ⊢
  clear hv
  have HB : Hid (Below w.heap.size w (w.alloc (.cells #[.string m.n, .bool m.fn, .bool va, .slice pa (M + 1) pc, .slice ba bn bc, .string m.g, .int .i64 m.f, .int .i64 m.t] 38))) := Lib.hid ((Below.refl _ _).alloc (Nat.le_refl _) _)
  have HCD : Hid (∀ X : World, Below w.heap.size w X → Calls Try.prog 32 #[.slice a n cap] X (ClonedPost X A)) := Lib.hid (fun X hX => cloned_any (hA.over hX) (by have := hF.few; omega) hF.rows hF.sit)
  by_cases he : n = M + 1
  · obtain rfl : va = false := by
      cases va with
      | true => have := hva rfl; omega
      | false => rfl
    have HE : Hid (fitL (M + 1) false A C = some A) := Lib.hid (fit_eq C (by omega))
    rw [HE.out]
    subst he
    have hq : ((M : Int) + 1 == (M : Int) + 1) = true := by simp
    clear hA hC hF hn hva
    go_enter Try.func15, Try.ntmps15
    go_wp2_with (go_at_call 32; (with_reducible refine (HCD.out _ HB.out).mono ?_); rintro e w3 ⟨a3, n3, c3, rfl, hn3, hC3⟩; have HN3 := Lib.hid hn3; have HC3 := Lib.hid hC3; clear hC3 hn3)
    go_ret2
    exact ⟨_, _, _, rfl, HN3.out, HC3.out.done.2.1, below_up HB.out HC3.out.bel⟩
  · have HE : Hid (fitL (M + 1) va A C = none) := Lib.hid (fit_no C hva (by omega))
    rw [HE.out]
    have hq : ((n : Int) == (M : Int) + 1) = false := by simp; omega
    cases va with
    | true =>
      have hlt : ¬ (M : Int) ≤ (n : Int) := by have := hva rfl; omega
      clear hA hC hF hn hva he
      go_enter Try.func15, Try.ntmps15
      go_wp2
      go_ret2
      exact ⟨rfl, HB.out⟩
    | false =>
      clear hA hC hF hn hva he
      go_enter Try.func15, Try.ntmps15
      go_wp2
      go_ret2
      exact ⟨rfl, HB.out⟩

theorem pfit_any {m : Xm} {pv bv : Value} {A : List (List Xt)} {C : List Xt} {lv cv : Value} {w : World} (hm : MacAt m pv bv w) (hps : m.ps.length ≤ 100000) (hA : RowsX A lv w) (hC : ToksX C cv w) (hF : FitIn A C) : Calls Try.prog 15 #[macV m pv bv, lv, cv] w (FitPost w (fitL m.ps.length m.va A C)) := by
  obtain ⟨pa, N, pc, rfl⟩ := hm.1.form
  obtain ⟨ba, bn, bc, rfl⟩ := hm.2.form
  have hN := hm.1.len.1
  rw [← hN]
  cases N with
  | zero => exact pfit_zero hA hC
  | succ M =>
    by_cases hva : m.va = true ∧ M ≤ A.length
    · exact pfit_va hA hC hF (by omega) hva.1 hva.2
    · exact pfit_rest hA hC hF (by omega) fun h => by
        rcases Nat.lt_or_ge A.length M with hl | hl
        · exact hl
        · exact absurd ⟨h, hl⟩ hva

end Go.Proofs.Ytipipookgcdfbaa

/-
  The document's Fit: what it puts together.
-/
namespace Go.Proofs.Ytipipookgcdfbaa
open Go.RowKit

theorem held_more {W : World} {ls : List (List Xt)} {cs : List Xt} {al : Option Addr} {nl cl : Nat} {ac : Option Addr} {nc cc : Nat} {w w' : World} {P P2 : List (Xt × Value)} {v0 : Value} (hC : CR W ls cs al nl cl ac nc cc w) (hN : HeldIn (NotHot al ac) w (ToksPv P v0)) (hw : ∀ p ∈ P2, HeldIn (fun _ => True) W (SitsA p.1.ss p.2)) {b : Option Addr} {n c : Nat} (hu : Up w 50 8 (.slice b n c) n (xcells P ++ xcells P2) w') : HeldIn (NotHot al ac) w' (ToksPv (P ++ P2) (.slice b n c)) := by
  have hC' := hC.over hu.2
  rw [← xcells_cat] at hu
  refine pv_held hu.1 (fun p hp => ?_) fun g hg => ?_
  · rcases List.mem_append.1 hp with hp | hp
    · exact (hN.sitsP p hp).over (StillB.of_below hu.2)
    · exact hC'.old (hw p hp)
  · have hg1 := (World.ownsRow.lt hu.1 g hg).1
    obtain ⟨⟨V, -, ho, -⟩, ⟨Q, -, hq, -⟩, -⟩ := hC
    refine ⟨fun e => ?_, fun e => ?_⟩
    · have := (World.ownsRow.lt ho g (by rw [e]; rfl)).2
      omega
    · have := (World.ownsRow.lt hq g (by rw [e]; rfl)).2
      omega

/-- Rows of tokens with their slices, as a source. -/
theorem RowsX.pairs {A : List (List Xt)} {a : Option Addr} {n cap : Nat} {w : World} (h : RowsX A (.slice a n cap) w) : ∃ V : List (List Xt × Value), V.map Prod.fst = A ∧ (∀ p ∈ V, (∃ b m c, p.2 = .slice b m c) ∧ (∀ m c, p.2 = .slice none m c → c = 0) ∧ ToksX p.1 p.2 w) ∧ Src w (.slice a n cap) n 1 (V.map Prod.snd) := by
  obtain ⟨hn, h1, h2, hz⟩ := h.len
  obtain ⟨V, hVl, hV⟩ := pick_list (fun k (p : List Xt × Value) => A[k]? = some p.1 ∧ ((∃ b m c, p.2 = .slice b m c) ∧ (∀ m c, p.2 = .slice none m c → c = 0) ∧ ToksX p.1 p.2 w) ∧ ∃ g o, a = some ⟨g, o, none⟩ ∧ w.cell? ⟨g, o + k, none⟩ = some p.2) A.length (fun k hk => by
    obtain ⟨g, o, b, m, c, ha, hg, hc, hz', hx⟩ := h.get (List.getElem?_eq_getElem hk)
    exact ⟨(A[k], .slice b m c), List.getElem?_eq_getElem hk, ⟨⟨b, m, c, rfl⟩, fun m' c' e => by simp only [Value.slice.injEq] at e; rw [← e.2.2]; exact hz' e.1, hx⟩, g, o, ha, hc⟩)
  refine ⟨V, ?_, fun p hp => ?_, ?_⟩
  · apply List.ext_getElem?
    intro k
    rw [List.getElem?_map]
    rcases Nat.lt_or_ge k V.length with hk | hk
    · rw [List.getElem?_eq_getElem hk, Option.map_some]
      exact ((hV k _ (List.getElem?_eq_getElem hk)).1).symm
    · rw [List.getElem?_eq_none hk, List.getElem?_eq_none (by omega)]
      rfl
  · obtain ⟨k, hk⟩ := List.mem_iff_getElem?.1 hp
    exact (hV k p hk).2.1
  · cases a with
    | none =>
      have hc := hz rfl
      subst hc
      have h0 : n = 0 := by omega
      subst h0
      exact .inl ⟨rfl, rfl, by rw [List.map_eq_nil_iff]; exact List.eq_nil_of_length_eq_zero (by omega)⟩
    | some ad =>
      refine .inr ⟨ad, cap, rfl, by rw [List.length_map]; omega, fun j u hj => ?_⟩
      rw [List.getElem?_map, Option.map_eq_some_iff] at hj
      obtain ⟨p, hp, rfl⟩ := hj
      obtain ⟨g, o, e, hc⟩ := (hV j p hp).2.2
      obtain rfl := Option.some.inj e
      rw [addr_off]
      exact hc

/-- Rows copied into a row of its own. -/
theorem CR.copy {W : World} {A : List (List Xt)} {a : Option Addr} {k cap : Nat} {ty : TypeId} (h : RowsX A (.slice a k cap) W) (hk : k ≤ 500000) :
    ∃ v' w', (Builtin.append_ #[31, 31] ty #[.slice (some ⟨W.heap.size, 0, none⟩) 0 0, .slice a k cap]).run Try.prog (W.alloc (.cells #[] 22)) = .ok v' w' ∧ ∃ a' n' c', v' = .slice a' n' c' ∧ n' = k ∧ CR W A [] a' n' c' none 0 0 w' := by
  have hb := (Below.refl W.heap.size W).alloc (Nat.le_refl _) (.cells #[] 22)
  obtain ⟨V, hV, hp, hs⟩ := (h.over hb).pairs
  obtain ⟨i0, hi, hz0, hz1, hz2⟩ := info_parts Try.infoRowT
  obtain ⟨v', w', hr, h2, hg, -⟩ := run_app_at (ty := ty) Try.underlying31 hi hz0 hz1 hz2 rfl (by decide) (by decide) (row_empty 22 1 (Nat.le_refl _)) hs (by
    intro u hu
    obtain ⟨p, hp', rfl⟩ := List.mem_map.1 hu
    obtain ⟨⟨b, m, c, e⟩, -⟩ := hp p hp'
    rw [e]
    rfl) (by omega) hb.size
  obtain ⟨a', c', rfl, -, -, -⟩ := row_form h2
  have hbw : Below W.heap.size W w' := hb.grown hg hb.size fun k hk => by
    simp only [Value.ownBlock, Option.some.injEq] at hk
    omega
  rw [List.nil_append] at h2
  refine ⟨_, w', hr, a', _, c', rfl, by omega, ⟨⟨V, hV, h2, fun p hp' => ⟨(hp p hp').2.1, ?_⟩⟩, ⟨[], rfl, ⟨rfl, .inl ⟨rfl, rfl⟩⟩, fun _ h => by cases h⟩, hbw⟩⟩
  obtain ⟨j, hj⟩ := List.mem_iff_getElem?.1 hp'
  have hx : ToksX p.1 p.2 W := by
    obtain ⟨V0, hV0, hp0, hs0⟩ := h.pairs
    have hl0 : V0.length = A.length := by rw [← hV0, List.length_map]
    have hl : V.length = A.length := by rw [← hV, List.length_map]
    obtain ⟨q, hq⟩ : ∃ q, V0[j]? = some q := ⟨_, List.getElem?_eq_getElem (by have := (List.getElem?_eq_some_iff.1 hj).1; omega)⟩
    have e1 : q.1 = p.1 := by
      have h1 : (V0.map Prod.fst)[j]? = some q.1 := by rw [List.getElem?_map, hq]; rfl
      have h2 : (V.map Prod.fst)[j]? = some p.1 := by rw [List.getElem?_map, hj]; rfl
      rw [hV0] at h1
      rw [hV, h1] at h2
      exact Option.some.inj h2
    have e2 : q.2 = p.2 := by
      have g1 : (V0.map Prod.snd)[j]? = some q.2 := by rw [List.getElem?_map, hq]; rfl
      have g2 : (V.map Prod.snd)[j]? = some p.2 := by rw [List.getElem?_map, hj]; rfl
      have hsb := hs
      rcases hs0 with ⟨-, -, e0⟩ | ⟨ad, c, hv, -, hc0⟩
      · rw [e0] at g1
        cases g1
      · rcases hsb with ⟨hv', -, -⟩ | ⟨ad', c', hv', -, hc1⟩
        · rw [hv] at hv'
          cases hv'
        · rw [hv] at hv'
          simp only [Value.slice.injEq, Option.some.injEq] at hv'
          obtain ⟨rfl, -, -⟩ := hv'
          have k0 := hc0 j _ g1
          have k1 := hc1 j _ g2
          have hblt : (ad.add j).block < W.heap.size := World.block_lt_of_cell? W _ k0
          rw [hb.cell hblt, k0] at k1
          exact Option.some.inj k1
    have := (hp0 q (List.mem_of_getElem? hq)).2.2
    rw [e1, e2] at this
    exact this
  refine (hx.held.old hbw).mono fun g hg' _ => ⟨fun e => ?_, fun e => by cases e⟩
  have := (World.ownsRow.lt h2 g (by rw [e]; rfl)).1
  omega

end Go.Proofs.Ytipipookgcdfbaa
