/-
  Texts of the proof, put together: EdC.
-/
import Derived.Test.YtpnboieppkjfnaaGreatG03

/-
  A text is pieces, each of which is one line.
-/
namespace Go.Proofs.YtpnboieppkjfnaaGreat

/-- Lines of a text. -/
def FL (l : List UInt8) : Acc := linesA (charsL l) l.length
/-- Is its last byte a byte 10 that a \ takes away? -/
def spB (l : List UInt8) : Bool := [92, 10].isSuffixOf l || [63, 63, 47, 10].isSuffixOf l

structure Shut (l : List UInt8) : Prop where
  e : E10 l
  s : spB l = false
  o : opnA (FL l) = false

theorem suf2 {l : List UInt8} (h : 2 ≤ l.length) (h0 : l.getD (l.length - 2) 0 = 92) (h1 : l.getD (l.length - 1) 0 = 10) : spB l = true := by
  unfold spB
  rw [Bool.or_eq_true, List.isSuffixOf_iff_suffix, List.suffix_iff_eq_drop]
  left
  show ([92, 10] : List UInt8) = List.drop (l.length - 2) l
  rw [drop_cons (i := l.length - 2) (by omega), h0, drop_cons (i := l.length - 2 + 1) (by omega), show l.length - 2 + 1 = l.length - 1 from by omega, h1, show l.length - 1 + 1 = l.length from by omega, List.drop_length]
theorem suf4 {l : List UInt8} (h : 4 ≤ l.length) (h0 : l.getD (l.length - 4) 0 = 63) (h1 : l.getD (l.length - 3) 0 = 63) (h2 : l.getD (l.length - 2) 0 = 47) (h3 : l.getD (l.length - 1) 0 = 10) : spB l = true := by
  unfold spB
  rw [Bool.or_eq_true]
  right
  rw [List.isSuffixOf_iff_suffix, List.suffix_iff_eq_drop]
  show ([63, 63, 47, 10] : List UInt8) = List.drop (l.length - 4) l
  rw [drop_cons (i := l.length - 4) (by omega), h0, drop_cons (i := l.length - 4 + 1) (by omega), show l.length - 4 + 1 = l.length - 3 from by omega, h1, drop_cons (i := l.length - 3 + 1) (by omega), show l.length - 3 + 1 = l.length - 2 from by omega, h2, drop_cons (i := l.length - 2 + 1) (by omega), show l.length - 2 + 1 = l.length - 1 from by omega, h3, show l.length - 1 + 1 = l.length from by omega, List.drop_length]
theorem suf_of {l p : List UInt8} (h : p.isSuffixOf l = true) : p.length ≤ l.length ∧ ∀ j, l.getD (l.length - p.length + j) 0 = p.getD j 0 := by
  rw [List.isSuffixOf_iff_suffix] at h
  obtain ⟨t, rfl⟩ := h
  refine ⟨by simp, fun j => ?_⟩
  rw [List.length_append, show t.length + p.length - p.length + j = t.length + j from by omega, get_right]
theorem spB_app {x y : List UInt8} (h : spB y = true) : spB (x ++ y) = true := by
  unfold spB at *
  rw [Bool.or_eq_true, List.isSuffixOf_iff_suffix, List.isSuffixOf_iff_suffix] at *
  rcases h with h | h
  · exact .inl (h.trans (List.suffix_append x y))
  · exact .inr (h.trans (List.suffix_append x y))

theorem tri_92 {c : UInt8} (h : tri c = some 92) : c = 47 := by
  unfold tri at h
  repeat' (split at h)
  all_goals (first | assumption | (exact absurd h (by decide)) | cases h)

/-- The last byte is a character of its own. -/
theorem chs_end10 {l : List UInt8} (h : E10 l) (hs : spB l = false) : ∀ (n i : Nat), l.length - i ≤ n → i < l.length → ∃ P, chs l i = P ++ [⟨10, l.length - 1, l.length⟩]
  | 0, i, hn, hi => by omega
  | n + 1, i, hn, hi => by
    have ht := tk_t l i
    rw [chs_step hi]
    by_cases hlt : (tk l i).1.t < l.length
    · obtain ⟨P, hP⟩ := chs_end10 h hs n _ (by omega) hlt
      exact ⟨_, by rw [hP, ← List.append_assoc]⟩
    · have hte : (tk l i).1.t = l.length := by have := ht.2.2 hi; omega
      have hno : spB l = true → False := fun e => by rw [e] at hs; cases hs
      cases hsp : spl l (one l i) with
      | true =>
        exfalso
        have h1 := spl_true hsp
        have hk : tk l i = (⟨(one l i).c, i, (one l i).t + 1⟩, false) := by unfold tk; rw [if_pos hsp]
        rw [hk] at hte
        simp only at hte
        cases htr : triAt l i with
        | some d =>
          have ho : one l i = ⟨d, i, i + 3⟩ := by unfold one; rw [htr]
          have h2 := triAt_some htr
          rw [ho] at h1 hte
          simp only at h1 hte
          rw [h1.1] at h2
          have h3 := tri_92 h2.2.2.2
          exact hno (suf4 (by omega) (by rw [show l.length - 4 = i from by omega]; exact h2.2.1) (by rw [show l.length - 3 = i + 1 from by omega]; exact h2.2.2.1) (by rw [show l.length - 2 = i + 2 from by omega]; exact h3) h.2)
        | none =>
          have ho : one l i = ⟨l.getD i 0, i, i + 1⟩ := by unfold one; rw [htr]
          rw [ho] at h1 hte
          simp only at h1 hte
          exact hno (suf2 (by omega) (by rw [show l.length - 2 = i from by omega]; exact h1.1) h.2)
      | false =>
        have hk : tk l i = (one l i, true) := by unfold tk; rw [if_neg (by rw [hsp]; simp)]
        rw [hk] at hte ⊢
        simp only at hte
        cases htr : triAt l i with
        | some d =>
          exfalso
          have ho : one l i = ⟨d, i, i + 3⟩ := by unfold one; rw [htr]
          have h2 := triAt_some htr
          have h3 := tri_ne _ _ h2.2.2.2
          rw [ho] at hte
          simp only at hte
          apply h3.2.2.2.2
          rw [show i + 2 = l.length - 1 from by omega]
          exact h.2
        | none =>
          have ho : one l i = ⟨l.getD i 0, i, i + 1⟩ := by unfold one; rw [htr]
          rw [ho] at hte ⊢
          simp only at hte
          refine ⟨[], ?_⟩
          have e10 : l.getD i 0 = 10 := by rw [show i = l.length - 1 from by omega]; exact h.2
          rw [show (⟨l.getD i 0, i, i + 1⟩ : Rn).t = l.length from hte, chs_end (Nat.le_refl _), e10]
          simp only [if_true, List.append_nil, List.nil_append]
          rw [show i = l.length - 1 from by omega, show l.length - 1 + 1 = l.length from by omega]

theorem whole_of {l : List UInt8} (h : E10 l) : Whole l := by
  refine ⟨fun _ => ?_, fun _ => ?_⟩
  · rw [h.2]; decide
  · rw [h.2]
    rintro ⟨-, -, h⟩
    exact absurd h (by decide)

theorem chs_shut {l : List UInt8} (h : E10 l) (hs : spB l = false) : charsL l = chs l 0 ∧ E10 (bytesOf (charsL l)) ∧ rnT (charsL l) ((charsL l).length - 1) = l.length ∧ ∃ P, chs l 0 = P ++ [⟨10, l.length - 1, l.length⟩] := by
  obtain ⟨P, hP⟩ := chs_end10 h hs l.length 0 (by omega) h.1
  have e : charsL l = chs l 0 := by
    unfold charsL
    rw [if_neg (by rintro rfl; exact absurd h.1 (by simp))]
    unfold withNl endsNl
    rw [hP]
    simp
  refine ⟨e, ?_, ?_, P, hP⟩
  · rw [e, hP]
    refine ⟨by simp [bytesOf], ?_⟩
    simp [bytesOf, List.getD]
  · rw [e, hP]
    simp [rnT]

theorem chs_some {a b : List UInt8} (ha : E10 a) (hs : spB a = false) : chs (a ++ b) 0 ≠ [] := by
  obtain ⟨P, hP⟩ := chs_end10 ha hs a.length 0 (by omega) ha.1
  rw [chs_append (whole_of ha), hP]
  simp

theorem last_app {α : Type} (x : List α) {y : List α} (hy : y ≠ []) : (x ++ y).getLast? = y.getLast? := by
  rw [List.getLast?_append]
  cases h : y.getLast? with
  | none => exact absurd (List.getLast?_eq_none_iff.1 h) hy
  | some a => rfl

theorem endsNl_app {x y : List Rn} (d : Nat) (hy : y ≠ []) : endsNl (x ++ y.map (sh d)) = endsNl y := by
  unfold endsNl
  rw [last_app x (by simpa using hy), List.getLast?_map]
  cases y.getLast? with
  | none => rfl
  | some r => rfl

theorem charsL_app {a b : List UInt8} (ha : E10 a) (hs : spB a = false) (hb : chs b 0 ≠ []) : charsL (a ++ b) = charsL a ++ (charsL b).map (sh a.length) := by
  have hb0 : b ≠ [] := by
    rintro rfl
    exact hb (chs_end (Nat.le_refl _))
  have hab : a ++ b ≠ [] := by simp [hb0]
  rw [(chs_shut ha hs).1]
  unfold charsL
  rw [if_neg hab, if_neg hb0, chs_append (whole_of ha)]
  unfold withNl
  rw [endsNl_app _ hb]
  split
  · rfl
  · rw [List.map_append, ← List.append_assoc, List.length_append]
    rfl

theorem FL_app {a b : List UInt8} (h : Shut a) (hb : chs b 0 ≠ []) : FL (a ++ b) = joinA a.length (FL a) (FL b) := by
  have hc := chs_shut h.e h.s
  have hb0 : b ≠ [] := by
    rintro rfl
    exact hb (chs_end (Nat.le_refl _))
  unfold FL
  rw [charsL_app h.e h.s hb, List.length_append]
  refine linesA_app hc.2.1 ?_ hc.2.2.1 h.o
  have := (charsL_count b).2 hb0
  intro e
  rw [e] at this
  simp at this

theorem opnA_join {d : Nat} {a b : Acc} (h : opnA (joinA d a b) = false) : opnA b = false := by
  unfold opnA at *
  cases hb : b.lines.getLast? with
  | none => rfl
  | some l =>
    have hne : b.lines ≠ [] := by intro e; rw [e] at hb; cases hb
    unfold joinA at h
    simp only at h
    rw [last_app _ (by simpa using hne), List.getLast?_map, hb] at h
    exact h

/-- Where a splice begins the walk comes by. -/
theorem chs_reach {l : List UInt8} {i : Nat} (hk : (tk l i).2 = false) (hi : i < l.length) : ∀ (n j : Nat), i - j ≤ n → j ≤ i → ∃ P, chs l j = P ++ chs l i ∧ ∀ r ∈ P, r.f < i
  | 0, j, h, hj => by
    rw [show j = i from by omega]
    exact ⟨[], rfl, fun r hr => (by cases hr)⟩
  | n + 1, j, h, hj => by
    by_cases he : j = i
    · rw [he]
      exact ⟨[], rfl, fun r hr => (by cases hr)⟩
    · have ht := tk_t l j
      by_cases h2 : (tk l j).1.t ≤ i
      · obtain ⟨P, hP, hr⟩ := chs_reach hk hi n _ (by omega) h2
        rw [chs_step (by omega), hP, ← List.append_assoc]
        refine ⟨_, rfl, fun r h => ?_⟩
        rcases List.mem_append.1 h with h | h
        · split at h
          · simp only [List.mem_cons, List.not_mem_nil, or_false] at h
            rw [h, tk_f]
            omega
          · cases h
        · exact hr r h
      · exfalso
        have := tk_inner (l := l) (j := j) (i := i) (by omega) (by omega)
        rw [this] at hk
        cases hk

/-- A byte 10 that stands: no \ takes it away. -/
theorem ten_stands {l : List UInt8} {r : Rn} (hr : r ∈ chs l 0) (hc : r.c = 10) : E10 (l.take r.t) ∧ spB (l.take r.t) = false ∧ r.f + 1 = r.t ∧ r.t ≤ l.length := by
  have hone : ∀ (n i : Nat), l.length - i ≤ n → r ∈ chs l i → r.f + 1 = r.t ∧ l.getD r.f 0 = 10 := by
    intro n
    induction n with
    | zero =>
      intro i h hr
      rw [chs_end (by omega)] at hr
      cases hr
    | succ n ih =>
      intro i h hr
      by_cases hi : i < l.length
      · rw [chs_step hi] at hr
        rcases List.mem_append.1 hr with h1 | h1
        · cases hk : (tk l i).2 with
          | false => rw [hk] at h1; cases h1
          | true =>
            rw [hk] at h1
            simp only [if_true, List.mem_cons, List.not_mem_nil, or_false] at h1
            rw [tk_stands hk] at h1
            simp only at h1
            rw [h1] at hc
            have h2 := (one_ten l i).1 hc
            rw [h1, one_plain (by rw [h2]; decide)]
            exact ⟨rfl, h2⟩
        · have := tk_t l i
          exact ih _ (by omega) h1
      · rw [chs_end (by omega)] at hr
        cases hr
  obtain ⟨h1, h2⟩ := hone _ 0 (Nat.le_refl _) hr
  have hm := chs_mem l _ 0 (Nat.le_refl _) r hr
  have hlen : (l.take r.t).length = r.t := by rw [List.length_take]; omega
  have hg : ∀ j, j < r.t → (l.take r.t).getD j 0 = l.getD j 0 := fun j hj => by simp [List.getD, List.getElem?_take_of_lt hj]
  refine ⟨⟨by omega, by rw [hlen, hg _ (by omega), show r.t - 1 = r.f from by omega]; exact h2⟩, ?_, h1, hm.2.2.2⟩
  rw [Bool.eq_false_iff]
  intro hsp
  have key : ∀ i, i + 2 ≤ r.t → tk l i = (⟨92, i, r.t⟩, false) → False := by
    intro i hi hk
    obtain ⟨P, hP, hPf⟩ := chs_reach (l := l) (i := i) (by rw [hk]) (by omega) i 0 (by omega) (by omega)
    rw [hP, chs_step (l := l) (i := i) (by omega), hk] at hr
    simp only [Bool.false_eq_true, if_false, List.nil_append] at hr
    rcases List.mem_append.1 hr with h3 | h3
    · have := hPf r h3
      omega
    · have := chs_mem l _ r.t (Nat.le_refl _) r h3
      omega
  unfold spB at hsp
  rw [Bool.or_eq_true] at hsp
  rcases hsp with h3 | h3
  · obtain ⟨h4, h5⟩ := suf_of h3
    rw [hlen] at h4 h5
    simp only [List.length_cons, List.length_nil] at h4 h5
    have a0 := h5 0
    rw [hg _ (by omega)] at a0
    refine key (r.t - 2) (by omega) ?_
    have a0' : l.getD (r.t - 2) 0 = 92 := a0
    have ho : one l (r.t - 2) = ⟨92, r.t - 2, r.t - 1⟩ := by
      rw [one_plain (by rw [a0']; decide), a0', show r.t - 2 + 1 = r.t - 1 from by omega]
    unfold tk
    rw [ho, if_pos]
    · simp only
      rw [show r.t - 1 + 1 = r.t from by omega]
    · unfold spl
      simp only
      rw [show r.t - 1 = r.f from by omega, h2, decide_eq_true (show r.f < l.length by omega)]
      rfl
  · obtain ⟨h4, h5⟩ := suf_of h3
    rw [hlen] at h4 h5
    simp only [List.length_cons, List.length_nil] at h4 h5
    have a0 := h5 0
    have a1 := h5 1
    have a2 := h5 2
    rw [hg _ (by omega)] at a0 a1 a2
    refine key (r.t - 4) (by omega) ?_
    have a0' : l.getD (r.t - 4) 0 = 63 := a0
    have a1' : l.getD (r.t - 4 + 1) 0 = 63 := a1
    have a2' : l.getD (r.t - 4 + 2) 0 = 47 := a2
    have htr : triAt l (r.t - 4) = some 92 := by
      unfold triAt
      rw [if_pos ⟨by omega, a0', a1'⟩, a2']
      rfl
    have ho : one l (r.t - 4) = ⟨92, r.t - 4, r.t - 1⟩ := by
      unfold one
      rw [htr]
      simp only
      rw [show r.t - 4 + 3 = r.t - 1 from by omega]
    unfold tk
    rw [ho, if_pos]
    · simp only
      rw [show r.t - 1 + 1 = r.t from by omega]
    · unfold spl
      simp only
      rw [show r.t - 1 = r.f from by omega, h2, decide_eq_true (show r.f < l.length by omega)]
      rfl

/-- The run comes by there. -/
inductive Vis (L : List Rn) : Nat → Nat → Prop
  | here (i : Nat) : Vis L i i
  | next {i j : Nat} : i < L.length → Vis L (i + lenA L i (item ((bytesOf L).drop i))) j → Vis L i j

theorem Vis.le {L : List Rn} {i j : Nat} (h : Vis L i j) : i ≤ j := by
  induction h with
  | here i => exact Nat.le_refl _
  | next _ _ ih => omega
theorem Vis.snoc {L : List Rn} {i j : Nat} (h : Vis L i j) (hj : j < L.length) : Vis L i (j + lenA L j (item ((bytesOf L).drop j))) := by
  induction h with
  | here i => exact .next hj (.here _)
  | next h1 _ ih => exact .next h1 (ih hj)

theorem two_lines {L : List Rn} (sz : Nat) : ∀ (m i : Nat) (a : Acc), L.length - i ≤ m → i ≤ L.length → a.lines.length + 2 ≤ (fromA L sz i a).lines.length → ∃ j, Vis L i j ∧ j + 1 < L.length ∧ item ((bytesOf L).drop j) = .nl
  | 0, i, a, h, hi, h2 => by
    rw [fromA_end (by omega)] at h2
    omega
  | m + 1, i, a, h, hi, h2 => by
    by_cases hlt : i < L.length
    · have hin := lenA_in (L := L) hlt
      rw [fromA_step hlt] at h2
      cases hc : item ((bytesOf L).drop i) with
      | nl =>
        by_cases he : i + 1 < L.length
        · exact ⟨i, .here i, he, hc⟩
        · exfalso
          rw [hc] at h2
          simp only [lenA] at h2
          rw [fromA_end (by omega)] at h2
          simp [stepA, endA] at h2
      | opn =>
        exfalso
        rw [hc] at h2
        simp only [lenA] at h2
        rw [fromA_end (by omega)] at h2
        simp [stepA, endA, tellA] at h2
      | gap n =>
        rw [hc] at hin h2
        obtain ⟨j, h3, h4⟩ := two_lines sz m _ (stepA L sz i a (.gap n)) (by omega) hin.2 h2
        exact ⟨j, .next hlt (by rw [hc]; exact h3), h4⟩
      | tk k n =>
        rw [hc] at hin h2
        have hl : (stepA L sz i a (.tk k n)).lines = a.lines := by
          simp only [stepA, takeA, pushA]
          split <;> rfl
        rw [← hl] at h2
        obtain ⟨j, h3, h4⟩ := two_lines sz m _ _ (by omega) hin.2 h2
        exact ⟨j, .next hlt (by rw [hc]; exact h3), h4⟩
    · rw [fromA_end (by omega)] at h2
      omega

theorem vis_shut {L1 L2 : List Rn} (sz1 : Nat) (hE : E10 (bytesOf L1)) (h2 : L2 ≠ []) : ∀ (m i : Nat) (a : Acc), L1.length - i ≤ m → i < L1.length → Vis (L1 ++ L2) i L1.length → opnA (fromA L1 sz1 i a) = false
  | 0, i, a, h, hi, _ => by omega
  | m + 1, i, a, h, hi, hv => by
    have hlen := bytesOf_len L1
    have h2l : 0 < L2.length := by cases L2 with | nil => exact absurd rfl h2 | cons a b => simp
    have hx : E10 ((bytesOf L1).drop i) := hE.drop (by omega)
    have hB : (bytesOf (L1 ++ L2)).drop i = (bytesOf L1).drop i ++ bytesOf L2 := by rw [bytes_app, List.drop_append_of_le_length (by omega)]
    have hin := lenA_in (L := L1) hi
    generalize hj : L1.length = J at hv
    cases hv with
    | here => omega
    | next h1 hv =>
      rw [hB] at hv
      have hle := hv.le
      by_cases ho1 : item ((bytesOf L1).drop i) = .opn
      · exfalso
        rcases item_opn_app hx ho1 (bytesOf L2) with ⟨h3, -⟩ | ⟨n, hn, h3⟩
        · rw [h3] at hle
          simp only [lenA, List.length_append] at hle
          omega
        · rw [h3] at hle
          have := comN_in _ n hn
          simp only [lenA, List.length_drop, hlen] at hle
          omega
      · rw [item_app hx ho1] at hv
        rw [fromA_step hi]
        have hlA : lenA (L1 ++ L2) i (item ((bytesOf L1).drop i)) = lenA L1 i (item ((bytesOf L1).drop i)) := by
          cases hc : item ((bytesOf L1).drop i) with
          | nl => rfl
          | gap n => rfl
          | opn => exact absurd hc ho1
          | tk k n => rfl
        rw [hlA] at hv
        by_cases hend : i + lenA L1 i (item ((bytesOf L1).drop i)) = L1.length
        · have hnl := item_last hE hi ho1 hend
          rw [hend, fromA_end (Nat.le_refl _), hnl]
          exact opnA_end _ _ _
        · subst hj
          exact vis_shut sz1 hE h2 m _ _ (by omega) (by omega) hv

theorem ord_pairs {n : Nat} : ∀ {a : Nat} {L : List Rn}, Ord n a L → L.Pairwise (fun x y => x.t ≤ y.f) ∧ ∀ x ∈ L, a ≤ x.f
  | _, [], _ => ⟨List.Pairwise.nil, fun x h => by cases h⟩
  | a, r :: q, h => by
    obtain ⟨h1, h2, h3, h4, h5⟩ := h
    obtain ⟨p1, p2⟩ := ord_pairs h5
    refine ⟨List.Pairwise.cons p2 p1, fun x hx => ?_⟩
    rcases List.mem_cons.1 hx with rfl | hx
    · exact h1
    · have := p2 x hx
      omega

/-- A text of two lines and more is two pieces, the first of them shut. -/
theorem two_pieces {l : List UInt8} (h : 2 ≤ (FL l).lines.length) : ∃ A B, l = A ++ B ∧ Shut A ∧ chs B 0 ≠ [] := by
  obtain ⟨j, hv, hj, hnl⟩ := two_lines (L := charsL l) l.length (charsL l).length 0 acc0 (by omega) (Nat.zero_le _) (by rw [show acc0.lines.length = 0 from rfl]; exact h)
  have hb : begN ((bytesOf (charsL l)).drop j) = 2 := by
    rcases begN_five ((bytesOf (charsL l)).drop j) with h1 | h1 | h1 | h1 | h1
    · rw [item_tk h1] at hnl; cases hnl
    · exact h1
    · rw [item_sp h1] at hnl; cases hnl
    · rw [item_rem h1] at hnl; cases hnl
    · cases hq : comN (((bytesOf (charsL l)).drop j).drop 2) with
      | none => rw [item_opn h1 hq] at hnl; cases hnl
      | some q => rw [item_com h1 hq] at hnl; cases hnl
  have h10 := begN_two hb
  rw [getD_drop, Nat.add_zero] at h10
  have hl0 : l ≠ [] := by
    rintro rfl
    exact absurd hj (by simp [charsL])
  have hcl : ∃ e, charsL l = chs l 0 ++ e ∧ e.length ≤ 1 := by
    unfold charsL
    rw [if_neg hl0]
    unfold withNl
    split
    · exact ⟨[], by simp, by simp⟩
    · exact ⟨_, rfl, by simp⟩
  obtain ⟨e, he, hel⟩ := hcl
  have hjc : j < (chs l 0).length := by
    rw [he, List.length_append] at hj
    omega
  obtain ⟨r, hr⟩ : ∃ r, (chs l 0)[j]? = some r := ⟨_, List.getElem?_eq_getElem hjc⟩
  have hrL : (charsL l)[j]? = some r := by rw [he, List.getElem?_append_left hjc]; exact hr
  have hrc : r.c = 10 := by
    have : (bytesOf (charsL l)).getD j 0 = r.c := by simp [bytesOf, List.getD, hrL]
    rw [← this]
    exact h10
  obtain ⟨hA1, hA2, hrt, hrl⟩ := ten_stands (List.mem_of_getElem? hr) hrc
  have hcA := chs_shut hA1 hA2
  obtain ⟨P, hP⟩ := hcA.2.2.2
  have hlen : (l.take r.t).length = r.t := by rw [List.length_take]; omega
  rw [hlen] at hP
  have hsplit : chs l 0 = chs (l.take r.t) 0 ++ (chs (l.drop r.t) 0).map (sh r.t) := by
    have := chs_append (whole_of hA1) (b := l.drop r.t)
    rw [List.take_append_drop, hlen] at this
    exact this
  have hord := (ord_pairs (chs_ord l _ 0 (Nat.le_refl _))).1
  rw [List.pairwise_iff_getElem] at hord
  have hPl : P.length = j := by
    have hPlt : P.length < (chs l 0).length := by rw [hsplit, hP]; simp
    have hPg : (chs l 0)[P.length] = ⟨10, r.t - 1, r.t⟩ := by
      have : (chs l 0)[P.length]? = some ⟨10, r.t - 1, r.t⟩ := by
        rw [hsplit, hP, List.append_assoc, List.getElem?_append_right (Nat.le_refl _)]
        simp
      rw [List.getElem?_eq_getElem hPlt] at this
      exact Option.some.inj this
    have hjg : (chs l 0)[j] = r := by
      rw [List.getElem?_eq_getElem hjc] at hr
      exact Option.some.inj hr
    rcases Nat.lt_trichotomy P.length j with h3 | h3 | h3
    · have := hord _ _ hPlt hjc h3
      rw [hPg, hjg] at this
      simp only at this
      omega
    · exact h3
    · have := hord _ _ hjc hPlt h3
      rw [hPg, hjg] at this
      simp only at this
      omega
  have hL1 : (charsL (l.take r.t)).length = j + 1 := by rw [hcA.1, hP, List.length_append, hPl]; rfl
  have hbare : chs (l.drop r.t) 0 ≠ [] := by
    intro hbr
    rw [hbr, List.map_nil, List.append_nil] at hsplit
    have : charsL l = chs l 0 := by
      unfold charsL
      rw [if_neg hl0]
      unfold withNl endsNl
      rw [hsplit, hP]
      simp
    rw [this, hsplit, ← hcA.1, hL1] at hj
    omega
  have happ := charsL_app (b := l.drop r.t) hA1 hA2 hbare
  rw [List.take_append_drop, hlen] at happ
  refine ⟨l.take r.t, l.drop r.t, (List.take_append_drop _ _).symm, ⟨hA1, hA2, ?_⟩, hbare⟩
  have hL2 : (charsL (l.drop r.t)).map (sh r.t) ≠ [] := by
    intro h0
    rw [happ, h0, List.append_nil, hL1] at hj
    omega
  have hv2 := hv.snoc (by omega)
  rw [hnl] at hv2
  rw [happ] at hv2
  have hv3 : Vis (charsL (l.take r.t) ++ (charsL (l.drop r.t)).map (sh r.t)) 0 (charsL (l.take r.t)).length := by
    rw [hL1]
    exact hv2
  exact vis_shut (l.take r.t).length hcA.2.1 hL2 _ 0 acc0 (Nat.le_refl _) (by omega) hv3

end Go.Proofs.YtpnboieppkjfnaaGreat
