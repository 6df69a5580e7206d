/-
  Lines told and lexed again, over lists.
-/
import Derived.Test.YtpnboieppkjfnaaBackTk
namespace Go.Proofs.Ytpnboieppkjfnaa
open Go.RowKit

/-- No backslash, no question, and no comment begins. -/
def Cl (l : List UInt8) : Prop := ∀ i, i < l.length → l.getD i 0 ≠ 92 ∧ l.getD i 0 ≠ 63 ∧ ¬ (l.getD i 0 = 47 ∧ (l.getD (i + 1) 0 = 47 ∨ l.getD (i + 1) 0 = 42))

theorem Cl.snoc {l : List UInt8} (h : Cl l) : Cl (l ++ [10]) := by
  intro i hi
  rcases Nat.lt_or_ge i l.length with h1 | h1
  · obtain ⟨a, b, c⟩ := h i h1
    rw [getD_app h1]
    refine ⟨a, b, ?_⟩
    rcases Nat.lt_or_ge (i + 1) l.length with h2 | h2
    · rw [getD_app h2]
      exact c
    · have : i + 1 = l.length := by omega
      rw [this, getD_last]
      rintro ⟨-, e | e⟩ <;> (revert e; decide)
  · have : i = l.length := by simp at hi; omega
    rw [this, getD_last]
    refine ⟨by decide, by decide, ?_⟩
    rintro ⟨e, -⟩
    revert e
    decide

theorem Cl.pl {l : List UInt8} (h : Cl l) : Pl l := fun i hi => ⟨triAt_not (h i hi).2.1, (h i hi).1⟩

/-- A token that may be told. -/
def TkB (t : Tk) : Prop := 0 < t.x.length ∧ (∀ c ∈ t.x, c ≠ 92 ∧ c ≠ 63) ∧ (t.k ≠ 6 → ∀ r, item (t.x ++ 32 :: r) = .tk t.k t.x.length)

/-- What is told of tokens. -/
def tbText : List Tk → List UInt8
  | [] => []
  | t :: r => t.x ++ 32 :: tbText r
theorem tbText_snoc (T : List Tk) (t : Tk) : tbText (T ++ [t]) = tbText T ++ t.x ++ [32] := by
  induction T with
  | nil => simp [tbText]
  | cons q r ih =>
    show q.x ++ 32 :: tbText (r ++ [t]) = _
    rw [ih]
    simp [tbText]
theorem tbText_take {T : List Tk} {k : Nat} {t : Tk} (h : T[k]? = some t) : tbText (T.take (k + 1)) = tbText (T.take k) ++ t.x ++ [32] := by
  rw [List.take_add_one, h]
  exact tbText_snoc _ _
theorem tbText_le : ∀ (T : List Tk) (k : Nat), (tbText (T.take k)).length ≤ (tbText T).length
  | [], k => by simp
  | t :: r, 0 => by simp [tbText]
  | t :: r, k + 1 => by
    have := tbText_le r k
    simp only [List.take_succ_cons, tbText, List.length_append, List.length_cons]
    omega
theorem tbText_count : ∀ (T : List Tk), T.length ≤ (tbText T).length
  | [] => Nat.le_refl _
  | t :: r => by
    have := tbText_count r
    simp only [tbText, List.length_append, List.length_cons]
    omega

def LnB (n : Nat) (ln : Ln) : Prop := ln.o = false ∧ (∀ t ∈ ln.toks, TkB t) ∧ (tbText ln.toks).length ≤ 2 * n
def InvB (n i : Nat) (a : Acc) : Prop := (∀ t ∈ a.toks, TkB t) ∧ (tbText a.toks).length ≤ 2 * i ∧ ∀ ln ∈ a.lines, LnB n ln

theorem Cl.no45 {l : List UInt8} (h : Cl l) {i : Nat} (hi : i < l.length) : begN (l.drop i) ≠ 4 ∧ begN (l.drop i) ≠ 5 := by
  have g0 := getD_drop l i 0
  have g1 := getD_drop l i 1
  rw [Nat.add_zero] at g0
  have hc := (h i hi).2.2
  refine ⟨fun e => ?_, fun e => ?_⟩
  · have := begN_four e
    rw [g0, g1] at this
    exact hc ⟨this.1, .inl this.2⟩
  · have := begN_fiveC e
    rw [g0, g1] at this
    exact hc ⟨this.1, .inr this.2⟩

/-- A token of such a text. -/
theorem Cl.tk {l : List UInt8} (h : Cl l) {i : Nat} (hi : i < l.length) (hb : begN (l.drop i) = 1) {k n : Nat} (ht : tok (l.drop i) = (k, n)) (sp : Bool) (f t : Nat) : TkB ⟨k, (l.drop i).take n, sp, f, t⟩ ∧ ((l.drop i).take n).length = n := by
  have h10 : (l.drop i).getD 0 0 ≠ 10 := by
    intro e
    have := begN_two' e
    omega
  have hin := tok_in (l := l.drop i) (by rw [List.length_drop]; omega) h10
  rw [ht] at hin
  obtain ⟨hn0, hnl, -⟩ := hin
  simp only at hn0 hnl
  have hlen : ((l.drop i).take n).length = n := by rw [List.length_take]; omega
  refine ⟨⟨by simp only; omega, fun c hc => ?_, fun h6 r => ?_⟩, hlen⟩
  · have hc2 : c ∈ l := List.mem_of_mem_drop (List.mem_of_mem_take hc)
    obtain ⟨j, hj, rfl⟩ := List.getElem_of_mem hc2
    have e : l.getD j 0 = l[j] := by simp [List.getD, hj]
    have := h j hj
    rw [e] at this
    exact ⟨this.1, this.2.1⟩
  · have ht2 := tok_loc ht h6 (by rw [List.length_drop]; omega) r
    have g0 : ((l.drop i).take n ++ 32 :: r).getD 0 0 = (l.drop i).getD 0 0 := getD_cut hn0 hnl
    have hnw : isWhi ((l.drop i).getD 0 0) = false := by
      unfold begN at hb
      split at hb
      · omega
      · split at hb
        · omega
        · rename_i hw
          simpa using hw
    have hcm : ¬ (((l.drop i).take n ++ 32 :: r).getD 0 0 = 47 ∧ (((l.drop i).take n ++ 32 :: r).getD 1 0 = 47 ∨ ((l.drop i).take n ++ 32 :: r).getD 1 0 = 42)) := by
      rw [g0]
      rcases Nat.lt_or_ge 1 n with h1 | h1
      · rw [getD_cut h1 hnl]
        have g0 := getD_drop l i 0
        have g1 := getD_drop l i 1
        rw [Nat.add_zero] at g0
        rw [g0, g1]
        exact (h i hi).2.2
      · have e1 : n = 1 := by omega
        subst e1
        rw [getD_cut32 hnl]
        rintro ⟨-, e | e⟩ <;> (revert e; decide)
    have hb2 : begN ((l.drop i).take n ++ 32 :: r) = 1 := begN_no (by rw [g0]; exact h10) (by rw [g0]; exact hnw) (fun e => hcm ⟨e.1, .inl e.2⟩) (fun e => hcm ⟨e.1, .inr e.2⟩)
    rw [item_tk hb2, ht2]
    simp only
    rw [hlen]

theorem inv_from {L : List Rn} {sz : Nat} (h : Cl (bytesOf L)) : ∀ (m i : Nat) (a : Acc), L.length - i ≤ m → i ≤ L.length → InvB L.length i a → ∀ ln ∈ (fromA L sz i a).lines, LnB L.length ln
  | m, i, a, hm, hi, hI => by
    by_cases hlt : i < L.length
    · obtain ⟨m, rfl⟩ : ∃ m', m = m' + 1 := ⟨m - 1, by omega⟩
      have hlb : i < (bytesOf L).length := by rw [bytesOf_len]; exact hlt
      have hlen := lenA_in hlt
      obtain ⟨n4, n5⟩ := h.no45 hlb
      rw [fromA_step hlt]
      refine inv_from h m _ _ (by omega) (by omega) ?_
      obtain ⟨h1, h2, h3⟩ := hI
      rcases begN_five ((bytesOf L).drop i) with hb | hb | hb | hb | hb
      · rw [item_tk hb] at hlen ⊢
        obtain ⟨⟨k, n⟩, ht⟩ : ∃ x, tok ((bytesOf L).drop i) = x := ⟨_, rfl⟩
        rw [ht] at hlen ⊢
        simp only [lenA] at hlen ⊢
        simp only [stepA]
        obtain ⟨hT, hTn⟩ := h.tk hlb hb ht a.sp (rnF L i) (rnT L (i + n - 1))
        have key : ∀ a' : Acc, a'.toks = a.toks → a'.lines = a.lines → a'.sp = a.sp → InvB L.length (i + n) (pushA L a' k i n) := by
          intro a' e1 e2 e3
          refine ⟨fun t ht => ?_, ?_, ?_⟩
          · unfold pushA at ht
            simp only [e1, e3] at ht
            rcases List.mem_append.1 ht with ht | ht
            · exact h1 t ht
            · simp only [List.mem_cons, List.not_mem_nil, or_false] at ht
              rw [ht]
              exact hT
          · unfold pushA
            simp only [e1]
            rw [tbText_snoc, List.length_append, List.length_append, hTn]
            simp only [List.length_cons, List.length_nil]
            omega
          · unfold pushA
            simp only [e2]
            exact h3
        unfold takeA
        split
        · exact key _ rfl rfl rfl
        · exact key _ rfl rfl rfl
      · rw [item_nl hb]
        simp only [lenA, stepA, endA]
        refine ⟨(by intro t ht; cases ht), Nat.zero_le _, fun ln hln => ?_⟩
        rcases List.mem_append.1 hln with hln | hln
        · exact h3 ln hln
        · simp only [List.mem_cons, List.not_mem_nil, or_false] at hln
          subst hln
          exact ⟨rfl, h1, by simp only; omega⟩
      · rw [item_sp hb]
        simp only [lenA, stepA]
        exact ⟨h1, by simp only; omega, h3⟩
      · exact absurd hb n4
      · exact absurd hb n5
    · rw [fromA_end (by omega)]
      exact hI.2.2

/-- The lines of a text without comments. -/
theorem tb_first {l : List UInt8} (h : Cl l) : ∀ ln ∈ (linesA (charsL l) l.length).lines, LnB (l.length + 1) ln := by
  by_cases h0 : 0 < l.length
  · by_cases h10 : l.getD (l.length - 1) 0 = 10
    · rw [charsL_shut h.pl h0 h10]
      intro ln hln
      have hb : Cl (bytesOf (plRow l 0)) := by rw [plRow_bytes]; exact h
      obtain ⟨a, b, c⟩ := inv_from (sz := l.length) hb _ 0 acc0 (Nat.le_refl _) (Nat.zero_le _) ⟨(by intro t ht; cases ht), Nat.le_refl _, (by intro t ht; cases ht)⟩ ln hln
      rw [plRow_len] at c
      exact ⟨a, b, by omega⟩
    · rw [charsL_open h.pl h0 h10]
      intro ln hln
      have hb : Cl (bytesOf (sgRow l)) := by rw [sgRow_bytes]; exact h.snoc
      obtain ⟨a, b, c⟩ := inv_from (sz := l.length) hb _ 0 acc0 (Nat.le_refl _) (Nat.zero_le _) ⟨(by intro t ht; cases ht), Nat.le_refl _, (by intro t ht; cases ht)⟩ ln hln
      rw [sgRow_len] at c
      exact ⟨a, b, c⟩
  · have : l = [] := List.eq_nil_of_length_eq_zero (by omega)
    subst this
    intro ln hln
    exact absurd hln (by simp [charsL, linesA, runA, acc0])

/-- The same tokens, with space ahead of all but the first. -/
def BackT : Bool → List Tk → List Tk → Prop
  | _, [], U => U = []
  | b, t :: r, U => ∃ u V, U = u :: V ∧ u.k = t.k ∧ u.x = t.x ∧ u.sp = b ∧ BackT true r V

theorem BackT.get : ∀ {b : Bool} {T U : List Tk}, BackT b T U → U.length = T.length ∧ ∀ (j : Nat) (t u : Tk), T[j]? = some t → U[j]? = some u → u.k = t.k ∧ u.x = t.x ∧ u.sp = (if j = 0 then b else true)
  | b, [], U, h => by
    have : U = [] := h
    subst this
    exact ⟨rfl, fun j t u h => by simp at h⟩
  | b, t :: r, U, h => by
    obtain ⟨u, V, rfl, h1, h2, h3, h4⟩ := h
    obtain ⟨hl, hg⟩ := BackT.get h4
    refine ⟨by simp [hl], fun j t' u' ht hu => ?_⟩
    cases j with
    | zero =>
      simp only [List.getElem?_cons_zero, Option.some.injEq] at ht hu
      subst ht hu
      exact ⟨h1, h2, h3⟩
    | succ j =>
      obtain ⟨a, b, c⟩ := hg j t' u' (by simpa using ht) (by simpa using hu)
      refine ⟨a, b, ?_⟩
      rw [c]
      split <;> simp

theorem tb_from {s : List UInt8} : ∀ (T : List Tk) (i : Nat) (a : Acc), (∀ t ∈ T, TkB t ∧ t.k ≠ 6) → (s ++ [10]).drop i = tbText T ++ [10] → i ≤ s.length → (T ≠ [] → a.sp = true ∨ a.sp = false) → a.lines = [] → a.diags = [] → a.fr = 0 →
    ∃ U, BackT a.sp T U ∧ (fromA (sgRow s) s.length i a).lines = [⟨a.toks ++ U, 0, s.length, false⟩] ∧ (fromA (sgRow s) s.length i a).diags = []
  | [], i, a, _, hd, hi, _, h1, h2, h3 => by
    have hlen := sgRow_len s
    have hd : (s ++ [10]).drop i = [10] := hd
    have hl := congrArg List.length hd
    rw [List.length_drop] at hl
    simp at hl
    refine ⟨[], rfl, ?_⟩
    rw [fromA_step (by omega), sgRow_bytes, hd, show item [10] = .nl from rfl]
    simp only [lenA, stepA]
    rw [fromA_end (by omega)]
    simp only [endA, h1, h3, toA]
    rw [if_neg (by omega), List.append_nil]
    exact ⟨rfl, h2⟩
  | t :: r, i, a, hT, hd, hi, _, h1, h2, h3 => by
    have hlen := sgRow_len s
    obtain ⟨⟨hx0, hxb, hit⟩, h6⟩ := hT t List.mem_cons_self
    have hd : (s ++ [10]).drop i = t.x ++ 32 :: (tbText r ++ [10]) := by rw [hd]; simp [tbText]
    have hit2 := hit h6 (tbText r ++ [10])
    have hl := congrArg List.length hd
    rw [List.length_drop] at hl
    simp only [List.length_append, List.length_cons, List.length_nil] at hl
    have e1 : (s ++ [10]).drop (i + t.x.length) = 32 :: (tbText r ++ [10]) := by rw [← List.drop_drop, hd, List.drop_left]
    have e2 : (s ++ [10]).drop (i + t.x.length + 1) = tbText r ++ [10] := by rw [← List.drop_drop, e1]; rfl
    rw [fromA_step (by omega), sgRow_bytes, hd, hit2]
    simp only [lenA, stepA]
    have hbad : ∀ c, badN t.k c = false := by
      intro c
      unfold badN
      rw [decide_eq_false h6]
      rfl
    have he : takeA (sgRow s) a t.k i t.x.length = { a with sp := false, toks := a.toks ++ [⟨t.k, t.x, a.sp, rnF (sgRow s) i, rnT (sgRow s) (i + t.x.length - 1)⟩] } := by
      unfold takeA pushA
      rw [hbad, sgRow_bytes, hd]
      simp only [Bool.false_eq_true, if_false]
      rw [List.take_left]
    rw [he, fromA_step (by omega), sgRow_bytes, e1]
    have hsp : item (32 :: (tbText r ++ [10])) = .gap 1 := item_sp rfl
    rw [hsp]
    simp only [lenA, stepA]
    obtain ⟨U, hU, hl2, hd2⟩ := tb_from (s := s) r (i + t.x.length + 1) { a with sp := true, toks := a.toks ++ [⟨t.k, t.x, a.sp, rnF (sgRow s) i, rnT (sgRow s) (i + t.x.length - 1)⟩] } (fun q hq => hT q (List.mem_cons_of_mem _ hq)) e2 (by omega) (fun _ => .inl rfl) h1 h2 h3
    refine ⟨⟨t.k, t.x, a.sp, rnF (sgRow s) i, rnT (sgRow s) (i + t.x.length - 1)⟩ :: U, ⟨_, U, rfl, rfl, rfl, rfl, hU⟩, ?_, hd2⟩
    rw [hl2, List.append_assoc]
    rfl

theorem tbText_mem {T : List Tk} (h : ∀ t ∈ T, TkB t) : ∀ c ∈ tbText T, c ≠ 92 ∧ c ≠ 63 := by
  induction T with
  | nil => intro c hc; cases hc
  | cons t r ih =>
    intro c hc
    have hc : c ∈ t.x ++ 32 :: tbText r := hc
    rcases List.mem_append.1 hc with h1 | h1
    · exact (h t List.mem_cons_self).2.1 c h1
    · rcases List.mem_cons.1 h1 with rfl | h1
      · decide
      · exact ih (fun q hq => h q (List.mem_cons_of_mem _ hq)) c h1
theorem tbText_last : ∀ {T : List Tk}, T ≠ [] → ∃ x, tbText T = x ++ [32]
  | [t], _ => ⟨t.x, rfl⟩
  | t :: u :: r, _ => by
    obtain ⟨x, hx⟩ := tbText_last (T := u :: r) (by simp)
    exact ⟨t.x ++ 32 :: x, by show t.x ++ 32 :: tbText (u :: r) = _; rw [hx]; simp⟩

/-- Told, and lexed again. -/
theorem tb_again {T : List Tk} (hT : ∀ t ∈ T, TkB t ∧ t.k ≠ 6) (h0 : T ≠ []) : ∃ U, BackT false T U ∧ (linesA (charsL (tbText T)) (tbText T).length).lines = [⟨U, 0, (tbText T).length, false⟩] ∧ (linesA (charsL (tbText T)) (tbText T).length).diags = [] := by
  obtain ⟨x, hx⟩ := tbText_last h0
  have hl : 0 < (tbText T).length := by rw [hx]; simp
  have h10 : (tbText T).getD ((tbText T).length - 1) 0 ≠ 10 := by
    have e : (tbText T).getD ((tbText T).length - 1) 0 = 32 := by
      rw [hx]
      simp [List.getD]
    rw [e]
    decide
  have hpl : Pl (tbText T) := fun i hi => by
    have hm : (tbText T).getD i 0 ∈ tbText T := by
      have : (tbText T).getD i 0 = (tbText T)[i] := by simp [List.getD, hi]
      rw [this]
      exact List.getElem_mem hi
    have := tbText_mem (fun t ht => (hT t ht).1) _ hm
    exact ⟨triAt_not this.2, this.1⟩
  rw [charsL_open hpl hl h10]
  exact tb_from T 0 acc0 hT rfl (Nat.zero_le _) (fun _ => .inr rfl) rfl rfl rfl

end Go.Proofs.Ytpnboieppkjfnaa
