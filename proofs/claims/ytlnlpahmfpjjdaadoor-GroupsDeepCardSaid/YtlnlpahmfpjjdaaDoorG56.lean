/-
  Texts of the proof, put together: EdC, GrDeepK, GrDeepT, GrDeepS.
-/
import Derived.Test.YtlnlpahmfpjjdaaDoorG44
import Derived.Test.YtlnlpahmfpjjdaaDoorG38
import Derived.Test.YtlnlpahmfpjjdaaDoorG41
import Derived.Test.YtlnlpahmfpjjdaaDoorG48

/-
  A text is pieces, each of which is one line.
-/
namespace Go.Proofs.YtlnlpahmfpjjdaaDoor

/-- Lines of a text. -/
def FL (l : List UInt8) : Acc := linesA (charsL l) l.length
/-- Is its last byte a byte 10 that a \ takes away? -/
def spB (l : List UInt8) : Bool := [92, 10].isSuffixOf l || [63, 63, 47, 10].isSuffixOf l

structure Shut (l : List UInt8) : Prop where
  e : E10 l
  s : spB l = false
  o : opnA (FL l) = false

theorem suf2 {l : List UInt8} (h : 2 ≤ l.length) (h0 : l.getD (l.length - 2) 0 = 92) (h1 : l.getD (l.length - 1) 0 = 10) : spB l = true := by
  unfold spB
  rw [Bool.or_eq_true, List.isSuffixOf_iff_suffix, List.suffix_iff_eq_drop]
  left
  show ([92, 10] : List UInt8) = List.drop (l.length - 2) l
  rw [drop_cons (i := l.length - 2) (by omega), h0, drop_cons (i := l.length - 2 + 1) (by omega), show l.length - 2 + 1 = l.length - 1 from by omega, h1, show l.length - 1 + 1 = l.length from by omega, List.drop_length]
theorem suf4 {l : List UInt8} (h : 4 ≤ l.length) (h0 : l.getD (l.length - 4) 0 = 63) (h1 : l.getD (l.length - 3) 0 = 63) (h2 : l.getD (l.length - 2) 0 = 47) (h3 : l.getD (l.length - 1) 0 = 10) : spB l = true := by
  unfold spB
  rw [Bool.or_eq_true]
  right
  rw [List.isSuffixOf_iff_suffix, List.suffix_iff_eq_drop]
  show ([63, 63, 47, 10] : List UInt8) = List.drop (l.length - 4) l
  rw [drop_cons (i := l.length - 4) (by omega), h0, drop_cons (i := l.length - 4 + 1) (by omega), show l.length - 4 + 1 = l.length - 3 from by omega, h1, drop_cons (i := l.length - 3 + 1) (by omega), show l.length - 3 + 1 = l.length - 2 from by omega, h2, drop_cons (i := l.length - 2 + 1) (by omega), show l.length - 2 + 1 = l.length - 1 from by omega, h3, show l.length - 1 + 1 = l.length from by omega, List.drop_length]
theorem suf_of {l p : List UInt8} (h : p.isSuffixOf l = true) : p.length ≤ l.length ∧ ∀ j, l.getD (l.length - p.length + j) 0 = p.getD j 0 := by
  rw [List.isSuffixOf_iff_suffix] at h
  obtain ⟨t, rfl⟩ := h
  refine ⟨by simp, fun j => ?_⟩
  rw [List.length_append, show t.length + p.length - p.length + j = t.length + j from by omega, get_right]
theorem spB_app {x y : List UInt8} (h : spB y = true) : spB (x ++ y) = true := by
  unfold spB at *
  rw [Bool.or_eq_true, List.isSuffixOf_iff_suffix, List.isSuffixOf_iff_suffix] at *
  rcases h with h | h
  · exact .inl (h.trans (List.suffix_append x y))
  · exact .inr (h.trans (List.suffix_append x y))

theorem tri_92 {c : UInt8} (h : tri c = some 92) : c = 47 := by
  unfold tri at h
  repeat' (split at h)
  all_goals (first | assumption | (exact absurd h (by decide)) | cases h)

/-- The last byte is a character of its own. -/
theorem chs_end10 {l : List UInt8} (h : E10 l) (hs : spB l = false) : ∀ (n i : Nat), l.length - i ≤ n → i < l.length → ∃ P, chs l i = P ++ [⟨10, l.length - 1, l.length⟩]
  | 0, i, hn, hi => by omega
  | n + 1, i, hn, hi => by
    have ht := tk_t l i
    rw [chs_step hi]
    by_cases hlt : (tk l i).1.t < l.length
    · obtain ⟨P, hP⟩ := chs_end10 h hs n _ (by omega) hlt
      exact ⟨_, by rw [hP, ← List.append_assoc]⟩
    · have hte : (tk l i).1.t = l.length := by have := ht.2.2 hi; omega
      have hno : spB l = true → False := fun e => by rw [e] at hs; cases hs
      cases hsp : spl l (one l i) with
      | true =>
        exfalso
        have h1 := spl_true hsp
        have hk : tk l i = (⟨(one l i).c, i, (one l i).t + 1⟩, false) := by unfold tk; rw [if_pos hsp]
        rw [hk] at hte
        simp only at hte
        cases htr : triAt l i with
        | some d =>
          have ho : one l i = ⟨d, i, i + 3⟩ := by unfold one; rw [htr]
          have h2 := triAt_some htr
          rw [ho] at h1 hte
          simp only at h1 hte
          rw [h1.1] at h2
          have h3 := tri_92 h2.2.2.2
          exact hno (suf4 (by omega) (by rw [show l.length - 4 = i from by omega]; exact h2.2.1) (by rw [show l.length - 3 = i + 1 from by omega]; exact h2.2.2.1) (by rw [show l.length - 2 = i + 2 from by omega]; exact h3) h.2)
        | none =>
          have ho : one l i = ⟨l.getD i 0, i, i + 1⟩ := by unfold one; rw [htr]
          rw [ho] at h1 hte
          simp only at h1 hte
          exact hno (suf2 (by omega) (by rw [show l.length - 2 = i from by omega]; exact h1.1) h.2)
      | false =>
        have hk : tk l i = (one l i, true) := by unfold tk; rw [if_neg (by rw [hsp]; simp)]
        rw [hk] at hte ⊢
        simp only at hte
        cases htr : triAt l i with
        | some d =>
          exfalso
          have ho : one l i = ⟨d, i, i + 3⟩ := by unfold one; rw [htr]
          have h2 := triAt_some htr
          have h3 := tri_ne _ _ h2.2.2.2
          rw [ho] at hte
          simp only at hte
          apply h3.2.2.2.2
          rw [show i + 2 = l.length - 1 from by omega]
          exact h.2
        | none =>
          have ho : one l i = ⟨l.getD i 0, i, i + 1⟩ := by unfold one; rw [htr]
          rw [ho] at hte ⊢
          simp only at hte
          refine ⟨[], ?_⟩
          have e10 : l.getD i 0 = 10 := by rw [show i = l.length - 1 from by omega]; exact h.2
          rw [show (⟨l.getD i 0, i, i + 1⟩ : Rn).t = l.length from hte, chs_end (Nat.le_refl _), e10]
          simp only [if_true, List.append_nil, List.nil_append]
          rw [show i = l.length - 1 from by omega, show l.length - 1 + 1 = l.length from by omega]

theorem whole_of {l : List UInt8} (h : E10 l) : Whole l := by
  refine ⟨fun _ => ?_, fun _ => ?_⟩
  · rw [h.2]; decide
  · rw [h.2]
    rintro ⟨-, -, h⟩
    exact absurd h (by decide)

theorem chs_shut {l : List UInt8} (h : E10 l) (hs : spB l = false) : charsL l = chs l 0 ∧ E10 (bytesOf (charsL l)) ∧ rnT (charsL l) ((charsL l).length - 1) = l.length ∧ ∃ P, chs l 0 = P ++ [⟨10, l.length - 1, l.length⟩] := by
  obtain ⟨P, hP⟩ := chs_end10 h hs l.length 0 (by omega) h.1
  have e : charsL l = chs l 0 := by
    unfold charsL
    rw [if_neg (by rintro rfl; exact absurd h.1 (by simp))]
    unfold withNl endsNl
    rw [hP]
    simp
  refine ⟨e, ?_, ?_, P, hP⟩
  · rw [e, hP]
    refine ⟨by simp [bytesOf], ?_⟩
    simp [bytesOf, List.getD]
  · rw [e, hP]
    simp [rnT]

theorem chs_some {a b : List UInt8} (ha : E10 a) (hs : spB a = false) : chs (a ++ b) 0 ≠ [] := by
  obtain ⟨P, hP⟩ := chs_end10 ha hs a.length 0 (by omega) ha.1
  rw [chs_append (whole_of ha), hP]
  simp

theorem last_app {α : Type} (x : List α) {y : List α} (hy : y ≠ []) : (x ++ y).getLast? = y.getLast? := by
  rw [List.getLast?_append]
  cases h : y.getLast? with
  | none => exact absurd (List.getLast?_eq_none_iff.1 h) hy
  | some a => rfl

theorem endsNl_app {x y : List Rn} (d : Nat) (hy : y ≠ []) : endsNl (x ++ y.map (sh d)) = endsNl y := by
  unfold endsNl
  rw [last_app x (by simpa using hy), List.getLast?_map]
  cases y.getLast? with
  | none => rfl
  | some r => rfl

theorem charsL_app {a b : List UInt8} (ha : E10 a) (hs : spB a = false) (hb : chs b 0 ≠ []) : charsL (a ++ b) = charsL a ++ (charsL b).map (sh a.length) := by
  have hb0 : b ≠ [] := by
    rintro rfl
    exact hb (chs_end (Nat.le_refl _))
  have hab : a ++ b ≠ [] := by simp [hb0]
  rw [(chs_shut ha hs).1]
  unfold charsL
  rw [if_neg hab, if_neg hb0, chs_append (whole_of ha)]
  unfold withNl
  rw [endsNl_app _ hb]
  split
  · rfl
  · rw [List.map_append, ← List.append_assoc, List.length_append]
    rfl

theorem FL_app {a b : List UInt8} (h : Shut a) (hb : chs b 0 ≠ []) : FL (a ++ b) = joinA a.length (FL a) (FL b) := by
  have hc := chs_shut h.e h.s
  have hb0 : b ≠ [] := by
    rintro rfl
    exact hb (chs_end (Nat.le_refl _))
  unfold FL
  rw [charsL_app h.e h.s hb, List.length_append]
  refine linesA_app hc.2.1 ?_ hc.2.2.1 h.o
  have := (charsL_count b).2 hb0
  intro e
  rw [e] at this
  simp at this

theorem opnA_join {d : Nat} {a b : Acc} (h : opnA (joinA d a b) = false) : opnA b = false := by
  unfold opnA at *
  cases hb : b.lines.getLast? with
  | none => rfl
  | some l =>
    have hne : b.lines ≠ [] := by intro e; rw [e] at hb; cases hb
    unfold joinA at h
    simp only at h
    rw [last_app _ (by simpa using hne), List.getLast?_map, hb] at h
    exact h

/-- Where a splice begins the walk comes by. -/
theorem chs_reach {l : List UInt8} {i : Nat} (hk : (tk l i).2 = false) (hi : i < l.length) : ∀ (n j : Nat), i - j ≤ n → j ≤ i → ∃ P, chs l j = P ++ chs l i ∧ ∀ r ∈ P, r.f < i
  | 0, j, h, hj => by
    rw [show j = i from by omega]
    exact ⟨[], rfl, fun r hr => (by cases hr)⟩
  | n + 1, j, h, hj => by
    by_cases he : j = i
    · rw [he]
      exact ⟨[], rfl, fun r hr => (by cases hr)⟩
    · have ht := tk_t l j
      by_cases h2 : (tk l j).1.t ≤ i
      · obtain ⟨P, hP, hr⟩ := chs_reach hk hi n _ (by omega) h2
        rw [chs_step (by omega), hP, ← List.append_assoc]
        refine ⟨_, rfl, fun r h => ?_⟩
        rcases List.mem_append.1 h with h | h
        · split at h
          · simp only [List.mem_cons, List.not_mem_nil, or_false] at h
            rw [h, tk_f]
            omega
          · cases h
        · exact hr r h
      · exfalso
        have := tk_inner (l := l) (j := j) (i := i) (by omega) (by omega)
        rw [this] at hk
        cases hk

/-- A byte 10 that stands: no \ takes it away. -/
theorem ten_stands {l : List UInt8} {r : Rn} (hr : r ∈ chs l 0) (hc : r.c = 10) : E10 (l.take r.t) ∧ spB (l.take r.t) = false ∧ r.f + 1 = r.t ∧ r.t ≤ l.length := by
  have hone : ∀ (n i : Nat), l.length - i ≤ n → r ∈ chs l i → r.f + 1 = r.t ∧ l.getD r.f 0 = 10 := by
    intro n
    induction n with
    | zero =>
      intro i h hr
      rw [chs_end (by omega)] at hr
      cases hr
    | succ n ih =>
      intro i h hr
      by_cases hi : i < l.length
      · rw [chs_step hi] at hr
        rcases List.mem_append.1 hr with h1 | h1
        · cases hk : (tk l i).2 with
          | false => rw [hk] at h1; cases h1
          | true =>
            rw [hk] at h1
            simp only [if_true, List.mem_cons, List.not_mem_nil, or_false] at h1
            rw [tk_stands hk] at h1
            simp only at h1
            rw [h1] at hc
            have h2 := (one_ten l i).1 hc
            rw [h1, one_plain (by rw [h2]; decide)]
            exact ⟨rfl, h2⟩
        · have := tk_t l i
          exact ih _ (by omega) h1
      · rw [chs_end (by omega)] at hr
        cases hr
  obtain ⟨h1, h2⟩ := hone _ 0 (Nat.le_refl _) hr
  have hm := chs_mem l _ 0 (Nat.le_refl _) r hr
  have hlen : (l.take r.t).length = r.t := by rw [List.length_take]; omega
  have hg : ∀ j, j < r.t → (l.take r.t).getD j 0 = l.getD j 0 := fun j hj => by simp [List.getD, List.getElem?_take_of_lt hj]
  refine ⟨⟨by omega, by rw [hlen, hg _ (by omega), show r.t - 1 = r.f from by omega]; exact h2⟩, ?_, h1, hm.2.2.2⟩
  rw [Bool.eq_false_iff]
  intro hsp
  have key : ∀ i, i + 2 ≤ r.t → tk l i = (⟨92, i, r.t⟩, false) → False := by
    intro i hi hk
    obtain ⟨P, hP, hPf⟩ := chs_reach (l := l) (i := i) (by rw [hk]) (by omega) i 0 (by omega) (by omega)
    rw [hP, chs_step (l := l) (i := i) (by omega), hk] at hr
    simp only [Bool.false_eq_true, if_false, List.nil_append] at hr
    rcases List.mem_append.1 hr with h3 | h3
    · have := hPf r h3
      omega
    · have := chs_mem l _ r.t (Nat.le_refl _) r h3
      omega
  unfold spB at hsp
  rw [Bool.or_eq_true] at hsp
  rcases hsp with h3 | h3
  · obtain ⟨h4, h5⟩ := suf_of h3
    rw [hlen] at h4 h5
    simp only [List.length_cons, List.length_nil] at h4 h5
    have a0 := h5 0
    rw [hg _ (by omega)] at a0
    refine key (r.t - 2) (by omega) ?_
    have a0' : l.getD (r.t - 2) 0 = 92 := a0
    have ho : one l (r.t - 2) = ⟨92, r.t - 2, r.t - 1⟩ := by
      rw [one_plain (by rw [a0']; decide), a0', show r.t - 2 + 1 = r.t - 1 from by omega]
    unfold tk
    rw [ho, if_pos]
    · simp only
      rw [show r.t - 1 + 1 = r.t from by omega]
    · unfold spl
      simp only
      rw [show r.t - 1 = r.f from by omega, h2, decide_eq_true (show r.f < l.length by omega)]
      rfl
  · obtain ⟨h4, h5⟩ := suf_of h3
    rw [hlen] at h4 h5
    simp only [List.length_cons, List.length_nil] at h4 h5
    have a0 := h5 0
    have a1 := h5 1
    have a2 := h5 2
    rw [hg _ (by omega)] at a0 a1 a2
    refine key (r.t - 4) (by omega) ?_
    have a0' : l.getD (r.t - 4) 0 = 63 := a0
    have a1' : l.getD (r.t - 4 + 1) 0 = 63 := a1
    have a2' : l.getD (r.t - 4 + 2) 0 = 47 := a2
    have htr : triAt l (r.t - 4) = some 92 := by
      unfold triAt
      rw [if_pos ⟨by omega, a0', a1'⟩, a2']
      rfl
    have ho : one l (r.t - 4) = ⟨92, r.t - 4, r.t - 1⟩ := by
      unfold one
      rw [htr]
      simp only
      rw [show r.t - 4 + 3 = r.t - 1 from by omega]
    unfold tk
    rw [ho, if_pos]
    · simp only
      rw [show r.t - 1 + 1 = r.t from by omega]
    · unfold spl
      simp only
      rw [show r.t - 1 = r.f from by omega, h2, decide_eq_true (show r.f < l.length by omega)]
      rfl

/-- The run comes by there. -/
inductive Vis (L : List Rn) : Nat → Nat → Prop
  | here (i : Nat) : Vis L i i
  | next {i j : Nat} : i < L.length → Vis L (i + lenA L i (item ((bytesOf L).drop i))) j → Vis L i j

theorem Vis.le {L : List Rn} {i j : Nat} (h : Vis L i j) : i ≤ j := by
  induction h with
  | here i => exact Nat.le_refl _
  | next _ _ ih => omega
theorem Vis.snoc {L : List Rn} {i j : Nat} (h : Vis L i j) (hj : j < L.length) : Vis L i (j + lenA L j (item ((bytesOf L).drop j))) := by
  induction h with
  | here i => exact .next hj (.here _)
  | next h1 _ ih => exact .next h1 (ih hj)

theorem two_lines {L : List Rn} (sz : Nat) : ∀ (m i : Nat) (a : Acc), L.length - i ≤ m → i ≤ L.length → a.lines.length + 2 ≤ (fromA L sz i a).lines.length → ∃ j, Vis L i j ∧ j + 1 < L.length ∧ item ((bytesOf L).drop j) = .nl
  | 0, i, a, h, hi, h2 => by
    rw [fromA_end (by omega)] at h2
    omega
  | m + 1, i, a, h, hi, h2 => by
    by_cases hlt : i < L.length
    · have hin := lenA_in (L := L) hlt
      rw [fromA_step hlt] at h2
      cases hc : item ((bytesOf L).drop i) with
      | nl =>
        by_cases he : i + 1 < L.length
        · exact ⟨i, .here i, he, hc⟩
        · exfalso
          rw [hc] at h2
          simp only [lenA] at h2
          rw [fromA_end (by omega)] at h2
          simp [stepA, endA] at h2
      | opn =>
        exfalso
        rw [hc] at h2
        simp only [lenA] at h2
        rw [fromA_end (by omega)] at h2
        simp [stepA, endA, tellA] at h2
      | gap n =>
        rw [hc] at hin h2
        obtain ⟨j, h3, h4⟩ := two_lines sz m _ (stepA L sz i a (.gap n)) (by omega) hin.2 h2
        exact ⟨j, .next hlt (by rw [hc]; exact h3), h4⟩
      | tk k n =>
        rw [hc] at hin h2
        have hl : (stepA L sz i a (.tk k n)).lines = a.lines := by
          simp only [stepA, takeA, pushA]
          split <;> rfl
        rw [← hl] at h2
        obtain ⟨j, h3, h4⟩ := two_lines sz m _ _ (by omega) hin.2 h2
        exact ⟨j, .next hlt (by rw [hc]; exact h3), h4⟩
    · rw [fromA_end (by omega)] at h2
      omega

theorem vis_shut {L1 L2 : List Rn} (sz1 : Nat) (hE : E10 (bytesOf L1)) (h2 : L2 ≠ []) : ∀ (m i : Nat) (a : Acc), L1.length - i ≤ m → i < L1.length → Vis (L1 ++ L2) i L1.length → opnA (fromA L1 sz1 i a) = false
  | 0, i, a, h, hi, _ => by omega
  | m + 1, i, a, h, hi, hv => by
    have hlen := bytesOf_len L1
    have h2l : 0 < L2.length := by cases L2 with | nil => exact absurd rfl h2 | cons a b => simp
    have hx : E10 ((bytesOf L1).drop i) := hE.drop (by omega)
    have hB : (bytesOf (L1 ++ L2)).drop i = (bytesOf L1).drop i ++ bytesOf L2 := by rw [bytes_app, List.drop_append_of_le_length (by omega)]
    have hin := lenA_in (L := L1) hi
    generalize hj : L1.length = J at hv
    cases hv with
    | here => omega
    | next h1 hv =>
      rw [hB] at hv
      have hle := hv.le
      by_cases ho1 : item ((bytesOf L1).drop i) = .opn
      · exfalso
        rcases item_opn_app hx ho1 (bytesOf L2) with ⟨h3, -⟩ | ⟨n, hn, h3⟩
        · rw [h3] at hle
          simp only [lenA, List.length_append] at hle
          omega
        · rw [h3] at hle
          have := comN_in _ n hn
          simp only [lenA, List.length_drop, hlen] at hle
          omega
      · rw [item_app hx ho1] at hv
        rw [fromA_step hi]
        have hlA : lenA (L1 ++ L2) i (item ((bytesOf L1).drop i)) = lenA L1 i (item ((bytesOf L1).drop i)) := by
          cases hc : item ((bytesOf L1).drop i) with
          | nl => rfl
          | gap n => rfl
          | opn => exact absurd hc ho1
          | tk k n => rfl
        rw [hlA] at hv
        by_cases hend : i + lenA L1 i (item ((bytesOf L1).drop i)) = L1.length
        · have hnl := item_last hE hi ho1 hend
          rw [hend, fromA_end (Nat.le_refl _), hnl]
          exact opnA_end _ _ _
        · subst hj
          exact vis_shut sz1 hE h2 m _ _ (by omega) (by omega) hv

theorem ord_pairs {n : Nat} : ∀ {a : Nat} {L : List Rn}, Ord n a L → L.Pairwise (fun x y => x.t ≤ y.f) ∧ ∀ x ∈ L, a ≤ x.f
  | _, [], _ => ⟨List.Pairwise.nil, fun x h => by cases h⟩
  | a, r :: q, h => by
    obtain ⟨h1, h2, h3, h4, h5⟩ := h
    obtain ⟨p1, p2⟩ := ord_pairs h5
    refine ⟨List.Pairwise.cons p2 p1, fun x hx => ?_⟩
    rcases List.mem_cons.1 hx with rfl | hx
    · exact h1
    · have := p2 x hx
      omega

/-- A text of two lines and more is two pieces, the first of them shut. -/
theorem two_pieces {l : List UInt8} (h : 2 ≤ (FL l).lines.length) : ∃ A B, l = A ++ B ∧ Shut A ∧ chs B 0 ≠ [] := by
  obtain ⟨j, hv, hj, hnl⟩ := two_lines (L := charsL l) l.length (charsL l).length 0 acc0 (by omega) (Nat.zero_le _) (by rw [show acc0.lines.length = 0 from rfl]; exact h)
  have hb : begN ((bytesOf (charsL l)).drop j) = 2 := by
    rcases begN_five ((bytesOf (charsL l)).drop j) with h1 | h1 | h1 | h1 | h1
    · rw [item_tk h1] at hnl; cases hnl
    · exact h1
    · rw [item_sp h1] at hnl; cases hnl
    · rw [item_rem h1] at hnl; cases hnl
    · cases hq : comN (((bytesOf (charsL l)).drop j).drop 2) with
      | none => rw [item_opn h1 hq] at hnl; cases hnl
      | some q => rw [item_com h1 hq] at hnl; cases hnl
  have h10 := begN_two hb
  rw [getD_drop, Nat.add_zero] at h10
  have hl0 : l ≠ [] := by
    rintro rfl
    exact absurd hj (by simp [charsL])
  have hcl : ∃ e, charsL l = chs l 0 ++ e ∧ e.length ≤ 1 := by
    unfold charsL
    rw [if_neg hl0]
    unfold withNl
    split
    · exact ⟨[], by simp, by simp⟩
    · exact ⟨_, rfl, by simp⟩
  obtain ⟨e, he, hel⟩ := hcl
  have hjc : j < (chs l 0).length := by
    rw [he, List.length_append] at hj
    omega
  obtain ⟨r, hr⟩ : ∃ r, (chs l 0)[j]? = some r := ⟨_, List.getElem?_eq_getElem hjc⟩
  have hrL : (charsL l)[j]? = some r := by rw [he, List.getElem?_append_left hjc]; exact hr
  have hrc : r.c = 10 := by
    have : (bytesOf (charsL l)).getD j 0 = r.c := by simp [bytesOf, List.getD, hrL]
    rw [← this]
    exact h10
  obtain ⟨hA1, hA2, hrt, hrl⟩ := ten_stands (List.mem_of_getElem? hr) hrc
  have hcA := chs_shut hA1 hA2
  obtain ⟨P, hP⟩ := hcA.2.2.2
  have hlen : (l.take r.t).length = r.t := by rw [List.length_take]; omega
  rw [hlen] at hP
  have hsplit : chs l 0 = chs (l.take r.t) 0 ++ (chs (l.drop r.t) 0).map (sh r.t) := by
    have := chs_append (whole_of hA1) (b := l.drop r.t)
    rw [List.take_append_drop, hlen] at this
    exact this
  have hord := (ord_pairs (chs_ord l _ 0 (Nat.le_refl _))).1
  rw [List.pairwise_iff_getElem] at hord
  have hPl : P.length = j := by
    have hPlt : P.length < (chs l 0).length := by rw [hsplit, hP]; simp
    have hPg : (chs l 0)[P.length] = ⟨10, r.t - 1, r.t⟩ := by
      have : (chs l 0)[P.length]? = some ⟨10, r.t - 1, r.t⟩ := by
        rw [hsplit, hP, List.append_assoc, List.getElem?_append_right (Nat.le_refl _)]
        simp
      rw [List.getElem?_eq_getElem hPlt] at this
      exact Option.some.inj this
    have hjg : (chs l 0)[j] = r := by
      rw [List.getElem?_eq_getElem hjc] at hr
      exact Option.some.inj hr
    rcases Nat.lt_trichotomy P.length j with h3 | h3 | h3
    · have := hord _ _ hPlt hjc h3
      rw [hPg, hjg] at this
      simp only at this
      omega
    · exact h3
    · have := hord _ _ hjc hPlt h3
      rw [hPg, hjg] at this
      simp only at this
      omega
  have hL1 : (charsL (l.take r.t)).length = j + 1 := by rw [hcA.1, hP, List.length_append, hPl]; rfl
  have hbare : chs (l.drop r.t) 0 ≠ [] := by
    intro hbr
    rw [hbr, List.map_nil, List.append_nil] at hsplit
    have : charsL l = chs l 0 := by
      unfold charsL
      rw [if_neg hl0]
      unfold withNl endsNl
      rw [hsplit, hP]
      simp
    rw [this, hsplit, ← hcA.1, hL1] at hj
    omega
  have happ := charsL_app (b := l.drop r.t) hA1 hA2 hbare
  rw [List.take_append_drop, hlen] at happ
  refine ⟨l.take r.t, l.drop r.t, (List.take_append_drop _ _).symm, ⟨hA1, hA2, ?_⟩, hbare⟩
  have hL2 : (charsL (l.drop r.t)).map (sh r.t) ≠ [] := by
    intro h0
    rw [happ, h0, List.append_nil, hL1] at hj
    omega
  have hv2 := hv.snoc (by omega)
  rw [hnl] at hv2
  rw [happ] at hv2
  have hv3 : Vis (charsL (l.take r.t) ++ (charsL (l.drop r.t)).map (sh r.t)) 0 (charsL (l.take r.t)).length := by
    rw [hL1]
    exact hv2
  exact vis_shut (l.take r.t).length hcA.2.1 hL2 _ 0 acc0 (Nat.le_refl _) (by omega) hv3

end Go.Proofs.YtlnlpahmfpjjdaaDoor

/-
  The kinds of a text that is made of pieces, each of which is shut.
-/
namespace Go.Proofs.YtlnlpahmfpjjdaaDoor

theorem kindL_sh (d : Nat) (T : List Tk) : kindL ((T.map (shTk d)).map (xtOf fB)) = kindL (T.map (xtOf fB)) := by
  cases T with
  | nil => rfl
  | cons t0 r =>
    have hh : hashX (xtOf fB (shTk d t0)) = hashX (xtOf fB t0) := rfl
    cases r with
    | nil =>
      show (if hashX (xtOf fB (shTk d t0)) = true then 1 else 0) = (if hashX (xtOf fB t0) = true then 1 else 0)
      rw [hh]
    | cons t1 r =>
      show (if hashX (xtOf fB (shTk d t0)) = true then (if (xtOf fB t1).k = 1 then wKind (xtOf fB t1).x else 14) else 0) = (if hashX (xtOf fB t0) = true then (if (xtOf fB t1).k = 1 then wKind (xtOf fB t1).x else 14) else 0)
      rw [hh]
theorem lnK_sh (d : Nat) (ln : Ln) : lnK (shLn d ln) = lnK ln := by
  unfold lnK
  have e : (shLn d ln).toks = ln.toks.map (shTk d) := rfl
  rw [e, kindL_sh]
  have e2 : decide ((ln.toks.map (shTk d)).map (xtOf fB) ≠ []) = decide (ln.toks.map (xtOf fB) ≠ []) := by
    cases ln.toks <;> rfl
  rw [e2]

/-- The kinds of a text's lines. -/
def ksT (l : List UInt8) : List (Nat × Bool) := ksOf (FL l).lines
theorem ksT_app {a b : List UInt8} (h : Shut a) (hb : chs b 0 ≠ []) : ksT (a ++ b) = ksT a ++ ksT b := by
  unfold ksT ksOf
  rw [FL_app h hb]
  unfold joinA
  simp only [List.map_append, List.map_map]
  congr 1
  exact List.map_congr_left fun ln _ => lnK_sh a.length ln

theorem chs_flat {y : List UInt8} (hy : chs y 0 ≠ []) : ∀ (ps : List (List UInt8)), (∀ p ∈ ps, Shut p) → chs (ps.flatten ++ y) 0 ≠ []
  | [], _ => hy
  | p :: r, h => by
    rw [List.flatten_cons, List.append_assoc]
    exact chs_some (h p List.mem_cons_self).e (h p List.mem_cons_self).s
theorem ksT_flat {y : List UInt8} (hy : chs y 0 ≠ []) : ∀ (ps : List (List UInt8)), (∀ p ∈ ps, Shut p) → ksT (ps.flatten ++ y) = ps.flatMap ksT ++ ksT y
  | [], _ => rfl
  | p :: r, h => by
    have hr : ∀ p ∈ r, Shut p := fun q hq => h q (List.mem_cons_of_mem _ hq)
    rw [List.flatten_cons, List.append_assoc, ksT_app (h p List.mem_cons_self) (chs_flat hy r hr), ksT_flat hy r hr, List.flatMap_cons, List.append_assoc]

/-- The pieces. -/
def pcIf : List UInt8 := [35, 105, 102, 100, 101, 102, 32, 65, 10, 120, 10]
def pcElif : List UInt8 := [35, 101, 108, 105, 102, 32, 49, 10]
def pcEnd : List UInt8 := [35, 101, 110, 100, 105, 102, 10]
def pcY : List UInt8 := [121, 10]
theorem shut_if : Shut pcIf := ⟨⟨by decide, by decide⟩, by decide, by decide +kernel⟩
theorem shut_elif : Shut pcElif := ⟨⟨by decide, by decide⟩, by decide, by decide +kernel⟩
theorem shut_end : Shut pcEnd := ⟨⟨by decide, by decide⟩, by decide, by decide +kernel⟩
theorem chs_y : chs pcY 0 ≠ [] := by decide +kernel
theorem wk_ifdef : wKind ⟨(#[105, 102, 100, 101, 102] : Array UInt8)⟩ = 3 := wKind_word 3 (by omega) (by omega)
theorem wk_elif : wKind ⟨(#[101, 108, 105, 102] : Array UInt8)⟩ = 5 := wKind_word 5 (by omega) (by omega)
theorem lines_if : (FL pcIf).lines = [⟨[⟨5, [35], false, 0, 1⟩, ⟨1, [105, 102, 100, 101, 102], false, 1, 6⟩, ⟨1, [65], true, 7, 8⟩], 0, 9, false⟩, ⟨[⟨1, [120], false, 9, 10⟩], 9, 11, false⟩] := by rfl
theorem lines_end : (FL pcEnd).lines = [⟨[⟨5, [35], false, 0, 1⟩, ⟨1, [101, 110, 100, 105, 102], false, 1, 6⟩], 0, 7, false⟩] := by rfl
theorem lines_y : (FL pcY).lines = [⟨[⟨1, [121], false, 0, 1⟩], 0, 2, false⟩] := by rfl
theorem ks_if : ksT pcIf = [(3, true), (0, true)] := by
  unfold ksT ksOf
  rw [lines_if, List.map_cons, List.map_cons, List.map_nil, lnK_dir (ln := ⟨_, 0, 9, false⟩) rfl rfl rfl rfl, lnK_text (ln := ⟨_, 9, 11, false⟩) rfl rfl, show wKind ⟨([105, 102, 100, 101, 102] : List UInt8).toArray⟩ = 3 from wk_ifdef]
theorem ks_elif : ksT pcElif = [(5, true)] := by
  obtain ⟨t2, h⟩ : ∃ t2, (FL pcElif).lines = [⟨[⟨5, [35], false, 0, 1⟩, ⟨1, [101, 108, 105, 102], false, 1, 5⟩, t2], 0, 8, false⟩] := ⟨_, rfl⟩
  unfold ksT ksOf
  rw [h, List.map_cons, List.map_nil, lnK_dir (ln := ⟨_, 0, 8, false⟩) rfl rfl rfl rfl, show wKind ⟨([101, 108, 105, 102] : List UInt8).toArray⟩ = 5 from wk_elif]
theorem ks_end : ksT pcEnd = [(7, true)] := by
  unfold ksT ksOf
  rw [lines_end, List.map_cons, List.map_nil, lnK_dir (ln := ⟨_, 0, 7, false⟩) rfl rfl rfl rfl, show wKind ⟨([101, 110, 100, 105, 102] : List UInt8).toArray⟩ = 7 from wk_endif]
theorem ks_y : ksT pcY = [(0, true)] := by
  unfold ksT ksOf
  rw [lines_y, List.map_cons, List.map_nil, lnK_text (ln := ⟨_, 0, 2, false⟩) rfl rfl]

/-- The text: n conditions, each with m more arms, within one another. -/
def openP (m n : Nat) : List (List UInt8) := (List.replicate n (pcIf :: List.replicate m pcElif)).flatten
def endP (n : Nat) : List (List UInt8) := List.replicate n pcEnd
def deepK (m n : Nat) : List (Nat × Bool) := (List.replicate n ((3, true) :: (0, true) :: List.replicate m (5, true))).flatten ++ (List.replicate n (7, true) ++ [(0, true)])
theorem shut_pieces (m n k : Nat) : ∀ p ∈ openP m n ++ endP k, Shut p := by
  intro p hp
  rcases List.mem_append.1 hp with h | h
  · obtain ⟨x, hx, hpx⟩ := List.mem_flatten.1 h
    rw [List.eq_of_mem_replicate hx] at hpx
    rcases List.mem_cons.1 hpx with rfl | h
    · exact shut_if
    · rw [List.eq_of_mem_replicate h]
      exact shut_elif
  · rw [List.eq_of_mem_replicate h]
    exact shut_end
theorem ks_rep (p : List UInt8) (k : Nat × Bool) (h : ksT p = [k]) : ∀ m, (List.replicate m p).flatMap ksT = List.replicate m k
  | 0 => rfl
  | m + 1 => by rw [List.replicate_succ, List.flatMap_cons, ks_rep p k h m, h]; rfl
theorem ks_open (m : Nat) : ∀ n, (openP m n).flatMap ksT = (List.replicate n ((3, true) :: (0, true) :: List.replicate m (5, true))).flatten
  | 0 => rfl
  | n + 1 => by
    have ih := ks_open m n
    unfold openP at ih ⊢
    rw [List.replicate_succ, List.replicate_succ, List.flatten_cons, List.flatten_cons, List.flatMap_append, ih, List.flatMap_cons, ks_if, ks_rep _ _ ks_elif]
    rfl
theorem deep_ks (m n : Nat) : ksT ((openP m n ++ endP n).flatten ++ pcY) = deepK m n := by
  rw [ksT_flat chs_y _ (shut_pieces m n n), List.flatMap_append, ks_open, ks_y]
  unfold endP deepK
  rw [ks_rep _ _ ks_end, List.append_assoc]

end Go.Proofs.YtlnlpahmfpjjdaaDoor

/-
  What is built of conditions within one another, over lists.
-/
namespace Go.Proofs.YtlnlpahmfpjjdaaDoor

theorem runB_app : ∀ (a b : List (Nat × Bool)) (s : Bs) (i : Nat), runB s i (a ++ b) = runB (runB s i a) (i + a.length) b
  | [], _, _, _ => rfl
  | (k, ne) :: r, b, s, i => by
    rw [List.cons_append, runB, runB, runB_app r b, List.length_cons, show i + 1 + r.length = i + (r.length + 1) from by omega]

def txI (p : Nat) : Itm := .mk 0 (p : Int) []
/-- A condition that begins at the line p, with j more arms. -/
def frA (p : Nat) : Nat → Fr
  | 0 => ⟨p, [], p, [txI (p + 1)], false⟩
  | j + 1 => ⟨p, (frA p j).dn ++ [(((frA p j).la : Int), (frA p j).cu)], p + 2 + j, [], false⟩
theorem frA_ln (p : Nat) : ∀ j, (frA p j).ln = p
  | 0 => rfl
  | _ + 1 => rfl
theorem frA_en (p : Nat) : ∀ j, (frA p j).en = false
  | 0 => rfl
  | _ + 1 => rfl
theorem frA_len (p : Nat) : ∀ j, (frA p j).dn.length = j
  | 0 => rfl
  | j + 1 => by
    show ((frA p j).dn ++ [_]).length = j + 1
    rw [List.length_append, frA_len p j]
    rfl
theorem run_arms (ba : List Itm) (r : List Fr) (bad : List Nat) (p : Nat) : ∀ m j, runB ⟨ba, frA p j :: r, bad⟩ (p + 2 + j) (List.replicate m (5, true)) = ⟨ba, frA p (j + m) :: r, bad⟩
  | 0, j => rfl
  | m + 1, j => by
    rw [List.replicate_succ, runB]
    have h1 : stepB ⟨ba, frA p j :: r, bad⟩ (p + 2 + j) 5 true = ⟨ba, frA p (j + 1) :: r, bad⟩ := by
      unfold stepB
      rw [if_neg (by omega), if_neg (by simp), if_neg (fun h => by have h2 : (frA p j).en = true := h.2; rw [frA_en] at h2; cases h2), if_pos (.inl rfl)]
      show (⟨ba, ⟨(frA p j).ln, _, _, _, _⟩ :: r, bad⟩ : Bs) = _
      rw [frA_ln]
      rfl
    rw [h1, show p + 2 + j + 1 = p + 2 + (j + 1) from by omega, run_arms ba r bad p m (j + 1), show j + 1 + m = j + (m + 1) from by omega]
def stD (m : Nat) : Nat → List Fr
  | 0 => []
  | n + 1 => frA (n * (m + 2)) m :: stD m n
def opK (m n : Nat) : List (Nat × Bool) := (List.replicate n ((3, true) :: (0, true) :: List.replicate m (5, true))).flatten
theorem opK_snoc (m n : Nat) : opK m (n + 1) = opK m n ++ ((3, true) :: (0, true) :: List.replicate m (5, true)) := by
  unfold opK
  rw [List.replicate_succ', List.flatten_append]
  simp
theorem opK_len (m : Nat) : ∀ n, (opK m n).length = n * (m + 2)
  | 0 => by simp [opK]
  | n + 1 => by
    rw [opK_snoc, List.length_append, opK_len m n, List.length_cons, List.length_cons, List.length_replicate, Nat.succ_mul]
theorem run_opens (m : Nat) : ∀ n, runB bs0 0 (opK m n) = ⟨[], stD m n, []⟩
  | 0 => rfl
  | n + 1 => by
    rw [opK_snoc, runB_app, run_opens m n, opK_len, Nat.zero_add, runB, runB]
    have h1 : stepB ⟨[], stD m n, []⟩ (n * (m + 2)) 3 true = ⟨[], ⟨n * (m + 2), [], n * (m + 2), [], false⟩ :: stD m n, []⟩ := rfl
    have h2 : stepB ⟨[], ⟨n * (m + 2), [], n * (m + 2), [], false⟩ :: stD m n, []⟩ (n * (m + 2) + 1) 0 true = ⟨[], frA (n * (m + 2)) 0 :: stD m n, []⟩ := rfl
    rw [h1, h2, show n * (m + 2) + 1 + 1 = n * (m + 2) + 2 + 0 from by omega, run_arms, Nat.zero_add]
    rfl

theorem st_close1 (s : Bs) : (closeB s).st.length = s.st.length - 1 := by
  have h := congrArg List.length (close_st s)
  rw [List.length_map, List.length_tail, List.length_map] at h
  exact h
theorem run_ends : ∀ n (s : Bs) i, s.st.length = n → runB s i (List.replicate n (7, true)) = shutB n s
  | 0, _, _, _ => rfl
  | n + 1, s, i, h => by
    have hne : s.st ≠ [] := by intro e; rw [e] at h; cases h
    have h1 : stepB s i 7 true = closeB s := by
      unfold stepB
      rw [if_neg (by omega), if_neg (fun e => hne e.2.2), if_neg (by omega), if_neg (by omega), if_pos rfl]
    rw [List.replicate_succ, runB, h1, run_ends n (closeB s) (i + 1) (by rw [st_close1, h]; rfl)]
    rfl

def addCu (f : Fr) (l : List Itm) : Fr := { f with cu := f.cu ++ l }
def itD (m i : Nat) (l : List Itm) : Itm := frItem (addCu (frA (i * (m + 2)) m) l)
/-- k conditions within one another, from the i-th on. -/
def twD (m : Nat) : Nat → Nat → List Itm
  | 0, _ => []
  | k + 1, i => [itD m i (twD m k (i + 1))]
theorem stD_len (m : Nat) : ∀ n, (stD m n).length = n
  | 0 => rfl
  | n + 1 => by rw [stD, List.length_cons, stD_len m n]
theorem shut_deep (m : Nat) : ∀ n k, shutB (n + 1) ⟨[], addCu (frA (n * (m + 2)) m) (twD m k (n + 1)) :: stD m n, []⟩ = ⟨twD m (n + 1 + k) 0, [], []⟩
  | 0, k => by
    show (⟨[] ++ [frItem _], [], []⟩ : Bs) = _
    rw [show 0 + 1 + k = k + 1 from by omega]
    rfl
  | n + 1, k => by
    have h1 : closeB ⟨[], addCu (frA ((n + 1) * (m + 2)) m) (twD m k (n + 1 + 1)) :: stD m (n + 1), []⟩ = ⟨[], addCu (frA (n * (m + 2)) m) (twD m (k + 1) (n + 1)) :: stD m n, []⟩ := rfl
    rw [shutB, h1, shut_deep m n (k + 1), show n + 1 + (k + 1) = n + 1 + 1 + k from by omega]
theorem shut_all (m n : Nat) : shutB n ⟨[], stD m n, []⟩ = ⟨twD m n 0, [], []⟩ := by
  cases n with
  | zero => rfl
  | succ n =>
    have h := shut_deep m n 0
    have e : addCu (frA (n * (m + 2)) m) (twD m 0 (n + 1)) = frA (n * (m + 2)) m := by
      show (⟨_, _, _, (frA (n * (m + 2)) m).cu ++ [], _⟩ : Fr) = _
      rw [List.append_nil]
    rw [e] at h
    exact h
/-- The whole: what is built. -/
theorem run_deep (m n : Nat) : runB bs0 0 (deepK m n) = ⟨twD m n 0 ++ [txI (n * (m + 2) + n)], [], []⟩ := by
  have e : deepK m n = opK m n ++ (List.replicate n (7, true) ++ [(0, true)]) := rfl
  rw [e, runB_app, run_opens, runB_app, opK_len, Nat.zero_add, run_ends n _ _ (stD_len m n), shut_all, List.length_replicate]
  rfl
theorem build_deep (m n : Nat) : (buildL (deepK m n)).1 = twD m n 0 ++ [txI (n * (m + 2) + n)] := by
  unfold buildL
  simp only
  rw [run_deep]
  rfl
theorem tells_none {lines : List Ln} (hb : (runB bs0 0 (ksOf lines)).bad = []) (hs : (runB bs0 0 (ksOf lines)).st = []) : tells lines = [] := by
  rw [← doc_tells, hb, hs]
  unfold docD
  rw [List.flatMap_eq_nil_iff]
  intro i _
  rfl

/-- How deep. -/
theorem deep_text (d : Nat) (p : Nat) (l : List Itm) : deepF d (txI p :: l) = deepF d l := by
  cases d <;> rfl
theorem deep_nil (d : Nat) : deepF d [] = 0 := by cases d <;> rfl
theorem frA_cu (p : Nat) : ∀ j, (frA p j).cu = [] ∨ (frA p j).cu = [txI (p + 1)]
  | 0 => .inr rfl
  | _ + 1 => .inl rfl
theorem deep_cu (d p j : Nat) (l : List Itm) : deepF d ((frA p j).cu ++ l) = deepF d l := by
  rcases frA_cu p j with h | h
  · rw [h]; rfl
  · rw [h]; exact deep_text d _ l
theorem deep_dn0 (D : List Itm → Nat) (hD : ∀ p j, D (frA p j).cu = 0) (p : Nat) : ∀ j, ((frA p j).dn).foldl (fun n a => max n (1 + D a.2)) 0 ≤ 1
  | 0 => Nat.zero_le _
  | j + 1 => by
    show (((frA p j).dn) ++ [_]).foldl _ 0 ≤ 1
    rw [List.foldl_append]
    have := deep_dn0 D hD p j
    show max _ (1 + D (frA p j).cu) ≤ 1
    rw [hD]
    omega
theorem cu_deep (d p j : Nat) : deepF d (frA p j).cu = 0 := by
  have := deep_cu d p j []
  rw [List.append_nil, deep_nil] at this
  exact this
theorem deep_tw (m : Nat) : ∀ k d i, k ≤ d → deepF d (twD m k i) = k
  | 0, d, i, _ => deep_nil d
  | k + 1, 0, i, h => by omega
  | k + 1, d + 1, i, h => by
    show deepI (deepF d) 0 (itD m i (twD m k (i + 1))) = k + 1
    show (((frA (i * (m + 2)) m).dn ++ [(((frA (i * (m + 2)) m).la : Int), (frA (i * (m + 2)) m).cu ++ twD m k (i + 1))] : List (Int × List Itm))).foldl (fun n a => max n (1 + deepF d a.2)) 0 = k + 1
    rw [List.foldl_append]
    have h1 := deep_dn0 (deepF d) (cu_deep d) (i * (m + 2)) m
    show max _ (1 + deepF d ((frA (i * (m + 2)) m).cu ++ twD m k (i + 1))) = k + 1
    rw [deep_cu, deep_tw m k d (i + 1) (by omega)]
    omega
theorem deep_all (m n p : Nat) : deepF n (twD m n 0 ++ [txI p]) = n := by
  cases n with
  | zero => rfl
  | succ n =>
    have h := deep_tw m (n + 1) (n + 1) 0 (Nat.le_refl _)
    show deepI (deepF n) ((twD m (n + 1) 0).foldl (deepI (deepF n)) 0) (txI p) = n + 1
    rw [show (twD m (n + 1) 0).foldl (deepI (deepF n)) 0 = n + 1 from h]
    rfl
theorem fits_text {d : Nat} {l : List Itm} (h : ∀ it ∈ l, it.arms = []) : Fits d l := by
  cases d with
  | zero => exact h
  | succ d => exact fun it hit a ha => by rw [h it hit] at ha; cases ha
theorem fits_app {d : Nat} {a b : List Itm} (ha : Fits d a) (hb : Fits d b) : Fits d (a ++ b) := by
  cases d with
  | zero => exact fun it hit => (List.mem_append.1 hit).elim (ha it) (hb it)
  | succ d => exact fun it hit => (List.mem_append.1 hit).elim (ha it) (hb it)
theorem cu_text (p j : Nat) : ∀ it ∈ (frA p j).cu, it.arms = [] := by
  rcases frA_cu p j with h | h
  · rw [h]; exact fun it hit => by cases hit
  · rw [h]
    intro it hit
    rw [List.mem_singleton.1 hit]
    rfl
theorem dn_fits (d p : Nat) : ∀ j, ∀ a ∈ (frA p j).dn, Fits d a.2
  | 0 => fun a ha => by cases ha
  | j + 1 => fun a ha => by
    rcases List.mem_append.1 (show a ∈ (frA p j).dn ++ [_] from ha) with h | h
    · exact dn_fits d p j a h
    · rw [List.mem_singleton.1 h]
      exact fits_text (cu_text p j)
theorem fits_tw (m : Nat) : ∀ k i, Fits k (twD m k i)
  | 0, i => fun it hit => by cases hit
  | k + 1, i => fun it hit a ha => by
    rw [List.mem_singleton.1 (show it ∈ [itD m i (twD m k (i + 1))] from hit)] at ha
    rcases List.mem_append.1 (show a ∈ (frA (i * (m + 2)) m).dn ++ [_] from ha) with h | h
    · exact dn_fits k _ m a h
    · rw [List.mem_singleton.1 h]
      exact fits_app (fits_text (cu_text _ m)) (fits_tw m k (i + 1))
theorem fits_all (m n p : Nat) : Fits n (twD m n 0 ++ [txI p]) := fits_app (fits_tw m n 0) (fits_text fun it hit => by rw [List.mem_singleton.1 hit]; rfl)
theorem mx_all (m n p : Nat) : mxD (evIts 0 (twD m n 0 ++ [txI p])) 0 = n := by rw [mx_deep (fits_all m n p), deep_all]

end Go.Proofs.YtlnlpahmfpjjdaaDoor

/-
  GroupsDeep's text, and what is read of what is built.
-/
namespace Go.Proofs.YtlnlpahmfpjjdaaDoor
open Go.RowKit

def opT (m n : Nat) : List UInt8 := (openP m n).flatten
def elT (j : Nat) : List UInt8 := (List.replicate j pcElif).flatten
def enT (j : Nat) : List UInt8 := (endP j).flatten
theorem elT_succ (j : Nat) : elT (j + 1) = elT j ++ pcElif := by unfold elT; rw [List.replicate_succ', List.flatten_append]; simp
theorem enT_succ (j : Nat) : enT (j + 1) = enT j ++ pcEnd := by unfold enT endP; rw [List.replicate_succ', List.flatten_append]; simp
theorem opT_succ (m n : Nat) : opT m (n + 1) = opT m n ++ pcIf ++ elT m := by
  unfold opT openP elT
  rw [List.replicate_succ', List.flatten_append, List.flatten_append]
  simp
theorem elT_len : ∀ j, (elT j).length = j * 8
  | 0 => rfl
  | j + 1 => by rw [elT_succ, List.length_append, elT_len j]; show j * 8 + 8 = _; omega
theorem enT_len : ∀ j, (enT j).length = j * 7
  | 0 => rfl
  | j + 1 => by rw [enT_succ, List.length_append, enT_len j]; show j * 7 + 7 = _; omega
theorem opT_len (m : Nat) (hm : m ≤ 10) : ∀ n, (opT m n).length ≤ n * 100
  | 0 => Nat.le_refl _
  | n + 1 => by
    have := opT_len m hm n
    rw [opT_succ, List.length_append, List.length_append, elT_len]
    have e : pcIf.length = 11 := rfl
    omega
/-- A text, byte by byte. -/
def TxtIs (v : Value) (l : List UInt8) : Prop := ∃ S : ByteArray, v = .string S ∧ S.data.toList = l ∧ S.size = l.length
theorem txtIs_app {S : ByteArray} {l : List UInt8} (h : S.data.toList = l) (a : Array UInt8) {l' : List UInt8} (e : l' = l ++ a.toList) : TxtIs (.string (S ++ ⟨a⟩)) l' := by
  refine ⟨_, rfl, by rw [append_data, h, e], ?_⟩
  rw [← len_byte, append_data, h, e]

theorem deep_lines {m n : Nat} {S : ByteArray} (h : S.data.toList = opT m n ++ enT n ++ pcY) : ksOf (linesA (charsL S.data.toList) S.size).lines = deepK m n := by
  have e : linesA (charsL S.data.toList) S.size = FL S.data.toList := by unfold FL; rw [len_byte]
  rw [e]
  have h2 := deep_ks m n
  unfold ksT at h2
  rw [List.flatten_append] at h2
  rw [h]
  exact h2
theorem deep_built {m n : Nat} {lines : List Ln} (h : ksOf lines = deepK m n) : (buildL (ksOf lines)).1 = twD m n 0 ++ [txI (n * (m + 2) + n)] ∧ tells lines = [] := by
  refine ⟨by rw [h, build_deep], tells_none ?_ ?_⟩
  · rw [h, run_deep]
  · rw [h, run_deep]

theorem its_front {d : Nat} {l r : List Itm} {a : Option Addr} {n c k : Nat} {w : World} (h : ItsAt d (l ++ r) (.slice a n c) w) (hk : k = l.length) : ItsAt d l (.slice a k c) w := by
  have key : ∀ R : RelI, ItsOf R (l ++ r) (.slice a n c) w → ItsOf R l (.slice a k c) w := fun R h => by
    obtain ⟨a', cap, hv, h1, h2, h3⟩ := h
    simp only [Value.slice.injEq] at hv
    obtain ⟨rfl, rfl, rfl⟩ := hv
    rw [List.length_append] at h1
    exact ⟨a, c, by rw [hk], by omega, h2, fun k it hit => h3 k it (by rw [List.getElem?_append_left (List.getElem?_eq_some_iff.1 hit).1]; exact hit)⟩
  cases d with
  | zero => exact key _ h
  | succ d => exact key _ h

/-- The last item: a line of text. -/
theorem its_last {d t p : Nat} {l : List Itm} {a : Option Addr} {n c : Nat} {w : World} (h : ItsAt d (l ++ [txI p]) (.slice a n c) w) (ht : t = l.length) : n = t + 1 ∧ n ≤ c ∧ c ≤ maxLen ∧ ∃ g o, a = some ⟨g, o, none⟩ ∧ g < w.heap.size ∧ w.cell? ⟨g, o + t * 3, none⟩ = some (.int .i64 0) := by
  obtain ⟨a', n', c', hv, hn, h1, h2⟩ := itsAt_form _ _ _ _ h
  simp only [Value.slice.injEq] at hv
  obtain ⟨rfl, rfl, rfl⟩ := hv
  rw [List.length_append, List.length_singleton] at hn
  refine ⟨by omega, h1, h2, ?_⟩
  have hg : (l ++ [txI p])[t]? = some (txI p) := by rw [ht, List.getElem?_append_right (Nat.le_refl _), Nat.sub_self]; rfl
  have key : ∀ R : RelI, ItsOf R (l ++ [txI p]) (.slice a n c) w → ∃ g o, a = some ⟨g, o, none⟩ ∧ g < w.heap.size ∧ w.cell? ⟨g, o + t * 3, none⟩ = some (.int .i64 0) := fun R h => by
    obtain ⟨g, o, aa, an, ac, ha, hlt, -, -, -, ⟨c0, -, -⟩, -⟩ := h.get hg
    exact ⟨g, o, ha, hlt, c0⟩
  cases d with
  | zero => exact key _ h
  | succ d => exact key _ h

theorem twD_len (m k i : Nat) : (twD m k i).length = if k = 0 then 0 else 1 := by cases k <;> rfl

/-- One condition down: its arms, the last one's items. -/
theorem tw_down {m k i d : Nat} {a : Option Addr} {n c : Nat} {w : World} (h : ItsAt d (twD m (k + 1) i) (.slice a n c) w) : n = 1 ∧ 1 ≤ c ∧ c ≤ maxLen ∧
    ∃ g o g2 o2 ac ia im ic d', a = some ⟨g, o, none⟩ ∧ g < w.heap.size ∧ w.cell? ⟨g, o + 2, none⟩ = some (.slice (some ⟨g2, o2, none⟩) (m + 1) ac) ∧ m + 1 ≤ ac ∧ ac ≤ maxLen ∧ g2 < w.heap.size ∧ w.cell? ⟨g2, o2 + m * 2 + 1, none⟩ = some (.slice ia im ic) ∧ im ≤ ic ∧ ic ≤ maxLen ∧ ItsAt d' ((frA (i * (m + 2)) m).cu ++ twD m k (i + 1)) (.slice ia im ic) w := by
  obtain ⟨g, o, n', cap', aa, an, ac, rfl, rfl, rfl, h4, h5, h6, h7, h8, h9, ⟨-, -, c2⟩, h11, h12⟩ := ItsAt.head (it := itD m i (twD m k (i + 1))) (L := []) h
  obtain ⟨a', n2, c', hv, hn, h1, h2⟩ := itsAt_form _ _ _ _ h
  simp only [Value.slice.injEq] at hv
  have hn2 : n' + 1 = 1 := by rw [hv.2.1, hn]; rfl
  have hlen : (itD m i (twD m k (i + 1))).arms.length = m + 1 := by
    show ((frA (i * (m + 2)) m).dn ++ [_]).length = m + 1
    rw [List.length_append, frA_len]
    rfl
  obtain ⟨e', rfl, ha⟩ := h12 (by intro e; rw [e] at hlen; cases hlen)
  rw [hlen] at h7
  have hx : (itD m i (twD m k (i + 1))).arms[m]? = some (((frA (i * (m + 2)) m).la : Int), (frA (i * (m + 2)) m).cu ++ twD m k (i + 1)) := by
    show ((frA (i * (m + 2)) m).dn ++ [_])[m]? = _
    rw [List.getElem?_append_right (by rw [frA_len]; exact Nat.le_refl _), frA_len, Nat.sub_self]
    rfl
  obtain ⟨g2, o2, ia, im, ic, rfl, hg2, ⟨-, d1⟩, hr⟩ := ha.get (itsAt_form e') hx
  obtain ⟨a3, n3, c3, hv3, -, k1, k2⟩ := itsAt_form _ _ _ _ hr
  simp only [Value.slice.injEq] at hv3
  obtain ⟨rfl, rfl, rfl⟩ := hv3
  subst h7
  exact ⟨hn2, by omega, h5, g, o, g2, o2, ac, ia, im, ic, e', rfl, h6, c2, h8, h9, hg2, d1, k1, k2, hr⟩
/-- A line of text in front. -/
theorem text_head {d p : Nat} {l : List Itm} {a : Option Addr} {n c : Nat} {w : World} (h : ItsAt d (txI p :: l) (.slice a n c) w) : ∃ g o n' c', a = some ⟨g, o, none⟩ ∧ n = n' + 1 ∧ c = c' + 1 ∧ n' ≤ c' ∧ c' + 1 ≤ maxLen ∧ g < w.heap.size ∧ w.cell? ⟨g, o, none⟩ = some (.int .i64 0) ∧ ∀ o', (n' = 0 ∨ o' = o + 3) → ItsAt d l (.slice (some ⟨g, o', none⟩) n' c') w := by
  obtain ⟨g, o, n', cap', aa, an, ac, rfl, rfl, rfl, h4, h5, h6, h7, h8, h9, ⟨c0, -, -⟩, h11, h12⟩ := h.head
  exact ⟨g, o, n', cap', rfl, rfl, rfl, h4, h5, h6, c0, h11⟩

end Go.Proofs.YtlnlpahmfpjjdaaDoor
