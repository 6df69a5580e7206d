/-
  Texts of the proof, put together: PlL, EdG, ReS.
-/
import Derived.Test.YtpnboieppkjfnaaGreatG25
import Derived.Test.YtpnboieppkjfnaaGreatG13
import Derived.Test.YtpnboieppkjfnaaGreatG43
import Derived.Test.YtpnboieppkjfnaaGreatG46

/-
  Texts without spliced lines and trigraphs, over lists; signs in a row.
-/
namespace Go.Proofs.YtpnboieppkjfnaaGreat
open Go.RowKit

/-- No byte of a text begins a trigraph, or is a backslash. -/
def Pl (l : List UInt8) : Prop := ∀ i, i < l.length → triAt l i = none ∧ l.getD i 0 ≠ 92
def plRow : List UInt8 → Nat → List Rn
  | [], _ => []
  | c :: r, k => ⟨c, k, k + 1⟩ :: plRow r (k + 1)

theorem plRow_len : ∀ (l : List UInt8) (k : Nat), (plRow l k).length = l.length
  | [], _ => rfl
  | _ :: r, k => by simp [plRow, plRow_len r (k + 1)]
theorem plRow_bytes : ∀ (l : List UInt8) (k : Nat), bytesOf (plRow l k) = l
  | [], _ => rfl
  | c :: r, k => by
    show c :: bytesOf (plRow r (k + 1)) = _
    rw [plRow_bytes r]
theorem plRow_get : ∀ (l : List UInt8) (k i : Nat), i < l.length → (plRow l k)[i]? = some ⟨l.getD i 0, k + i, k + i + 1⟩
  | [], _, i, h => by simp at h
  | c :: r, k, 0, _ => rfl
  | c :: r, k, i + 1, h => by
    have := plRow_get r (k + 1) i (by simpa using h)
    simp only [plRow, List.getElem?_cons_succ, this]
    congr 2
    · omega
    · omega

theorem chs_ofPl {l : List UInt8} (h : Pl l) : ∀ (n i : Nat), l.length - i ≤ n → chs l i = plRow (l.drop i) i
  | 0, i, hn => by
    rw [chs_end (by omega), List.drop_eq_nil_of_le (by omega)]
    rfl
  | n + 1, i, hn => by
    by_cases hi : i < l.length
    · have ht := tk_byte (h i hi).1 (h i hi).2
      rw [chs_step hi, ht, drop_cons hi]
      show [_] ++ chs l (i + 1) = _
      rw [chs_ofPl h n (i + 1) (by omega)]
      rfl
    · rw [chs_end (by omega), List.drop_eq_nil_of_le (by omega)]
      rfl

/-- A text that ends without a line's end: its bytes, and one. -/
theorem charsL_open {l : List UInt8} (h : Pl l) (h0 : 0 < l.length) (h10 : l.getD (l.length - 1) 0 ≠ 10) : charsL l = plRow l 0 ++ [⟨10, l.length, l.length⟩] := by
  have hc := chs_ofPl h l.length 0 (by omega)
  rw [List.drop_zero] at hc
  unfold charsL
  rw [if_neg (by rintro rfl; simp at h0), hc]
  unfold withNl endsNl
  rw [List.getLast?_eq_getElem?, plRow_len, plRow_get l 0 _ (by omega)]
  simp only [decide_eq_true_eq]
  rw [if_neg h10]
/-- One that ends with a line's end: its bytes. -/
theorem charsL_shut {l : List UInt8} (h : Pl l) (h0 : 0 < l.length) (h10 : l.getD (l.length - 1) 0 = 10) : charsL l = plRow l 0 := by
  have hc := chs_ofPl h l.length 0 (by omega)
  rw [List.drop_zero] at hc
  unfold charsL
  rw [if_neg (by rintro rfl; simp at h0), hc]
  unfold withNl endsNl
  rw [List.getLast?_eq_getElem?, plRow_len, plRow_get l 0 _ (by omega)]
  simp only [decide_eq_true_eq]
  rw [if_pos h10]

/-- The signs of the law. -/
def SG : List UInt8 := [91, 93, 40, 41, 123, 125, 46, 38, 42, 43, 45, 126, 33, 47, 37, 60, 62, 61, 94, 124, 63, 58, 59, 44, 35]
theorem SG_all : ∀ c ∈ SG, c ≠ 10 ∧ isWhi c = false ∧ isLet c = false ∧ isDig c = false ∧ c ≠ 34 ∧ c ≠ 39 ∧ c ≠ 92 ∧ isPun [c] = true := by decide
theorem PL_one : ∀ p ∈ PL, oneL p = some 5 := by decide +kernel

/-- Signs in a row, none of which begin a comment. -/
def Sg (s : List UInt8) : Prop := (∀ c ∈ s, c ∈ SG) ∧ ∀ i, i + 1 < s.length → ¬ (s.getD i 0 = 47 ∧ (s.getD (i + 1) 0 = 47 ∨ s.getD (i + 1) 0 = 42)) ∧ ¬ (s.getD i 0 = 63 ∧ s.getD (i + 1) 0 = 63)

theorem Sg.get {s : List UInt8} (h : Sg s) {i : Nat} (hi : i < s.length) : s.getD i 0 ∈ SG := by
  have : s.getD i 0 = s[i] := by simp [List.getD, hi]
  rw [this]
  exact h.1 _ (List.getElem_mem hi)
theorem getD_app {s : List UInt8} {i : Nat} (hi : i < s.length) : (s ++ [10]).getD i 0 = s.getD i 0 := by simp [List.getD, List.getElem?_append_left hi]
theorem getD_last (s : List UInt8) : (s ++ [10]).getD s.length 0 = 10 := by simp [List.getD]

theorem Sg.pl {s : List UInt8} (h : Sg s) : Pl s := by
  intro i hi
  refine ⟨?_, (SG_all _ (h.get hi)).2.2.2.2.2.2.1⟩
  by_cases h1 : i + 1 < s.length
  · by_cases h2 : s.getD i 0 = 63
    · exact triAt_not2 fun h3 => (h.2 i h1).2 ⟨h2, h3⟩
    · exact triAt_not h2
  · unfold triAt
    rw [if_neg (fun h2 => by omega)]

/-- What begins at a sign. -/
theorem Sg.item {s : List UInt8} (h : Sg s) {i : Nat} (hi : i < s.length) : item ((s ++ [10]).drop i) = .tk 5 (punctN ((s ++ [10]).drop i)) ∧ 0 < punctN ((s ++ [10]).drop i) := by
  have g0 := getD_drop (s ++ [10]) i 0
  have g1 := getD_drop (s ++ [10]) i 1
  rw [Nat.add_zero, getD_app hi] at g0
  obtain ⟨c10, cw, cl, cd, c34, c39, c92, cp⟩ := SG_all _ (h.get hi)
  have hnext : ((s ++ [10]).getD (i + 1) 0 = 10 ∧ i + 1 = s.length) ∨ (i + 1 < s.length ∧ (s ++ [10]).getD (i + 1) 0 = s.getD (i + 1) 0) := by
    rcases Nat.lt_or_ge (i + 1) s.length with h1 | h1
    · exact .inr ⟨h1, getD_app h1⟩
    · have : i + 1 = s.length := by omega
      rw [this]
      exact .inl ⟨getD_last s, rfl⟩
  have hp : 0 < punctN ((s ++ [10]).drop i) := by
    have := pun_ge (l := (s ++ [10]).drop i) (n := 1) (by rw [List.length_drop]; simp; omega) (by rw [drop_cons (by simp; omega), getD_app hi]; exact cp)
    omega
  have hb : begN ((s ++ [10]).drop i) = 1 := by
    unfold begN
    rw [g0, g1, if_neg c10, if_neg (by rw [cw]; simp), if_neg, if_neg]
    · rintro ⟨e, e1⟩
      rcases hnext with ⟨e2, -⟩ | ⟨h1, e2⟩
      · rw [e2] at e1; revert e1; decide
      · rw [e2] at e1; exact (h.2 i h1).1 ⟨e, .inr e1⟩
    · rintro ⟨e, e1⟩
      rcases hnext with ⟨e2, -⟩ | ⟨h1, e2⟩
      · rw [e2] at e1; revert e1; decide
      · rw [e2] at e1; exact (h.2 i h1).1 ⟨e, .inl e1⟩
  have hl0 : lettN ((s ++ [10]).drop i) = 0 := by
    unfold lettN
    rw [g0]
    rw [if_neg, if_neg]
    · rintro ⟨e | e | e, -⟩ <;> (rw [e] at cl; revert cl; decide)
    · rintro ⟨e, -⟩
      rw [e] at cl
      revert cl
      decide
  have hc : conN ((s ++ [10]).drop i) = none := by
    unfold conN
    rw [hl0, g0, if_neg c34, if_neg c39]
  have hd1 : isDig ((s ++ [10]).getD (i + 1) 0) = false := by
    rcases hnext with ⟨e2, -⟩ | ⟨h1, e2⟩
    · rw [e2]; rfl
    · rw [e2]; exact (SG_all _ (h.get h1)).2.2.2.1
  have ht : tok ((s ++ [10]).drop i) = (5, punctN ((s ++ [10]).drop i)) := by
    unfold tok
    rw [hc]
    show (if _ then _ else _) = _
    rw [g0, g1, cl, cd, hd1, if_neg (by simp), if_neg (by simp), if_pos hp]
  rw [item_tk hb, ht]
  exact ⟨rfl, hp⟩

end Go.Proofs.YtpnboieppkjfnaaGreat

/-
  Plain texts: lines of theirs end with their bytes 10 alone; an edit costs no more than the lines that it touches, and three.
-/
namespace Go.Proofs.YtpnboieppkjfnaaGreat

/-- No backslash, no comment's beginning, no two question marks. -/
def Pn (l : List UInt8) : Prop := ∀ i, i < l.length → l.getD i 0 ≠ 92 ∧ (0 < i → ¬ (l.getD (i - 1) 0 = 47 ∧ l.getD i 0 = 42) ∧ ¬ (l.getD (i - 1) 0 = 63 ∧ l.getD i 0 = 63))

theorem Pn.mid {a x b : List UInt8} (h : Pn (a ++ (x ++ b))) : Pn x := by
  intro i hi
  have h1 := h (a.length + i) (by rw [List.length_append, List.length_append]; omega)
  rw [get_right, get_left hi] at h1
  refine ⟨h1.1, fun h0 => ?_⟩
  have h2 := h1.2 (by omega)
  rw [show a.length + i - 1 = a.length + (i - 1) from by omega, get_right, get_left (by omega)] at h2
  exact h2
theorem Pn.drop {l : List UInt8} (h : Pn l) (a : Nat) : Pn (l.drop a) := by
  refine Pn.mid (a := l.take a) (b := []) ?_
  rw [List.append_nil, List.take_append_drop]
  exact h
theorem Pn.take {l : List UInt8} (h : Pn l) (a : Nat) : Pn (l.take a) := by
  refine Pn.mid (a := []) (b := l.drop a) ?_
  rw [List.nil_append, List.take_append_drop]
  exact h

theorem Pn.pl {l : List UInt8} (h : Pn l) : Pl l := by
  intro i hi
  refine ⟨?_, (h i hi).1⟩
  cases ht : triAt l i with
  | none => rfl
  | some d =>
    have h1 := triAt_some ht
    have h2 := ((h (i + 1) (by omega)).2 (by omega)).2
    exact absurd ⟨h1.2.1, h1.2.2.1⟩ h2
theorem Pn.nos {l : List UInt8} (h : Pn l) : spB l = false := by
  cases hs : spB l with
  | false => rfl
  | true =>
    exfalso
    unfold spB at hs
    rw [Bool.or_eq_true] at hs
    rcases hs with hs | hs
    · have h1 := suf_of hs
      have h2 := h1.2 0
      simp at h1 h2
      exact (h (l.length - 2) (by omega)).1 h2
    · have h1 := suf_of hs
      have h2 := h1.2 0
      have h3 := h1.2 1
      have h0 := h1.1
      simp at h0 h2 h3
      have h4 := ((h (l.length - 4 + 1) (by omega)).2 (by omega)).2
      rw [Nat.add_sub_cancel] at h4
      exact h4 ⟨h2, h3⟩

theorem Pn.bytes {l : List UInt8} (h : Pn l) (h0 : l ≠ []) : bytesOf (charsL l) = l ∨ bytesOf (charsL l) = l ++ [10] := by
  have hl : 0 < l.length := by rw [List.length_pos_iff]; exact h0
  by_cases h10 : l.getD (l.length - 1) 0 = 10
  · left
    rw [charsL_shut h.pl hl h10, plRow_bytes]
  · right
    rw [charsL_open h.pl hl h10, bytes_app, plRow_bytes]
    rfl
theorem Pn.no_item {l : List UInt8} (h : Pn l) (h0 : l ≠ []) (i : Nat) : item ((bytesOf (charsL l)).drop i) ≠ .opn := by
  intro ho
  have h5 : begN ((bytesOf (charsL l)).drop i) = 5 := by
    rcases begN_five ((bytesOf (charsL l)).drop i) with h1 | h1 | h1 | h1 | h1
    · rw [item_tk h1] at ho; cases ho
    · rw [item_nl h1] at ho; cases ho
    · rw [item_sp h1] at ho; cases ho
    · rw [item_rem h1] at ho; cases ho
    · exact h1
  have h6 := begN_fiveC h5
  rw [getD_drop, getD_drop] at h6
  have key : ∀ e, e = [] ∨ e = [10] → (l ++ e).getD (i + 0) 0 = 47 → (l ++ e).getD (i + 1) 0 = 42 → False := by
    intro e he e1 e2
    rcases Nat.lt_or_ge (i + 1) l.length with h7 | h7
    · rw [get_left (by omega)] at e1
      rw [get_left h7] at e2
      exact ((h (i + 1) h7).2 (by omega)).1 ⟨by simpa using e1, e2⟩
    · obtain ⟨j, hj⟩ : ∃ j, i + 1 = l.length + j := ⟨i + 1 - l.length, by omega⟩
      rw [hj, get_right] at e2
      rcases he with rfl | rfl
      · simp at e2
      · cases j with
        | zero => simp at e2
        | succ j => simp at e2
  rcases h.bytes h0 with hb | hb
  · rw [hb] at h6
    exact key [] (.inl rfl) (by rw [List.append_nil]; exact h6.1) (by rw [List.append_nil]; exact h6.2)
  · rw [hb] at h6
    exact key [10] (.inr rfl) h6.1 h6.2

theorem no_open {L : List Rn} (sz : Nat) (hE : E10 (bytesOf L)) (hn : ∀ i, item ((bytesOf L).drop i) ≠ .opn) : ∀ (m i : Nat) (a : Acc), L.length - i ≤ m → i < L.length → opnA (fromA L sz i a) = false
  | 0, i, a, h, hi => by omega
  | m + 1, i, a, h, hi => by
    have hin := lenA_in (L := L) hi
    rw [fromA_step hi]
    by_cases hend : i + lenA L i (item ((bytesOf L).drop i)) = L.length
    · have hnl := item_last hE hi (hn i) hend
      rw [hend, fromA_end (Nat.le_refl _), hnl]
      simp only [stepA, opnA_end]
    · exact no_open sz hE hn m _ _ (by omega) (by omega)
theorem Pn.shut {l : List UInt8} (h : Pn l) : opnA (FL l) = false := by
  by_cases h0 : l = []
  · subst h0
    rfl
  · have h1 := charsL_e10 h0
    exact no_open l.length h1 (h.no_item h0) _ 0 acc0 (Nat.le_refl _) (by have := h1.1; rw [bytesOf_len] at this; exact this)

theorem one_nl {T : List UInt8} (h : OneL T) (hp : Pn T) : T.count 10 ≤ 1 := by
  have h0 := h.ne
  by_cases hm : (10 : UInt8) ∈ T.dropLast
  · exfalso
    obtain ⟨j, hj, he⟩ := List.getElem_of_mem hm
    rw [List.length_dropLast] at hj
    rw [List.getElem_dropLast] at he
    have hA : E10 (T.take (j + 1)) := by
      refine ⟨by rw [List.length_take]; omega, ?_⟩
      rw [List.length_take, Nat.min_eq_left (by omega), Nat.add_sub_cancel]
      simp only [List.getD, List.getElem?_take, List.getElem?_eq_getElem (show j < T.length by omega), he]
      simp
    have hB0 : T.drop (j + 1) ≠ [] := by
      intro e
      have := congrArg List.length e
      rw [List.length_drop] at this
      simp at this
      omega
    have hA0 : T.take (j + 1) ≠ [] := by
      intro e
      rw [e] at hA
      exact absurd hA.1 (by simp)
    have hb : chs (T.drop (j + 1)) 0 ≠ [] := by
      intro e
      have h1 := bare_spB _ 0 (Nat.le_refl _) (by rw [List.length_pos_iff]; exact hB0) e
      rw [(hp.drop _).nos] at h1
      cases h1
    have h1 := FL_app ⟨hA, (hp.take _).nos, (hp.take _).shut⟩ hb
    rw [List.take_append_drop] at h1
    unfold OneL at h
    rw [h1] at h
    have h2 := FL_some _ hA0 (charsL_e10 hA0)
    have h3 := FL_some _ hB0 (charsL_e10 hB0)
    unfold joinA at h
    simp only [List.length_append, List.length_map] at h
    have h4 := List.length_pos_iff.2 h2
    have h5 := List.length_pos_iff.2 h3
    omega
  · rw [← List.dropLast_concat_getLast h0, List.count_append, List.count_eq_zero_of_not_mem hm, List.count_singleton]
    split <;> omega

theorem pcs_nl : ∀ {Ps : List (List UInt8)}, Pcs Ps → Ps.length ≤ Ps.flatten.count 10 + 1
  | [], _ => Nat.zero_le _
  | [T], _ => by simp
  | T :: U :: r, h => by
    have h1 := pcs_nl h.2.2.2
    have h2 := h.2.1.e
    have h3 : 0 < T.count 10 := by
      rw [List.count_pos_iff]
      have := get_mem (p := T) (j := T.length - 1) (by have := h2.1; omega)
      rw [h2.2] at this
      exact this
    rw [List.flatten_cons, List.count_append, List.length_cons]
    omega

theorem seg_count (F : List UInt8) {a a' b b' : Nat} (ha : a ≤ a') (hb : b' ≤ b) : ((F.take b').drop a').count 10 ≤ ((F.take b).drop a).count 10 := by
  have e1 : (F.take b').drop a' = ((F.take b').drop a).drop (a' - a) := by
    rw [List.drop_drop]
    congr 1
    omega
  have e2 : (F.take b').drop a = ((F.take b).drop a).take (b' - a) := by
    rw [show F.take b' = (F.take b).take b' from by rw [List.take_take, Nat.min_eq_left hb], List.drop_take]
  rw [e1, e2]
  exact ((List.drop_sublist _ _).trans (List.take_sublist _ _)).count_le _
theorem pre_seg {Ts : List (List UInt8)} {i : Nat} {T : List UInt8} (h : Ts[i]? = some T) : (Ts.flatten.take (pre Ts (i + 1))).drop (pre Ts i) = T := by
  rw [← flat_take, List.take_add_one, h]
  unfold pre
  rw [List.flatten_append, List.drop_left']
  · simp
  · rfl
theorem seg_one {Ts : List (List UInt8)} (hp : Pcs Ts) (hn : Pn Ts.flatten) {i a b : Nat} (ha : pre Ts i ≤ a) (hb : b ≤ pre Ts (i + 1)) : ((Ts.flatten.take b).drop a).count 10 ≤ 1 := by
  cases hT : Ts[i]? with
  | some T =>
    have h1 := seg_count Ts.flatten ha hb
    rw [pre_seg hT] at h1
    have h2 : Pn T := by
      rw [← pre_seg hT]
      exact (hn.take _).drop _
    exact Nat.le_trans h1 (one_nl (hp.one T (List.mem_of_getElem? hT)) h2)
  | none =>
    rw [List.getElem?_eq_none_iff] at hT
    have h1 : Ts.flatten.length ≤ pre Ts i := by
      rw [← pre_all]
      exact pre_mono hT
    rw [List.drop_of_length_le (by rw [List.length_take]; omega)]
    simp

/-- What an edit of a plain text costs. -/
theorem work_plain {Ts : List (List UInt8)} {fr te : Nat} {l ins : List UInt8} {k : Nat} (he : Ed Ts fr te l) (hi : l = Ts.flatten.take fr ++ (ins ++ Ts.flatten.drop te)) (h1 : Pn Ts.flatten) (h2 : Pn l) (h : WorkOk Ts fr te l k) : k ≤ ins.count 10 + 3 := by
  obtain ⟨E, f, n, n', Ps, ho, rfl, rfl, rfl, rfl, ht, hl, hP, hPf, rfl, -, -⟩ := work_rows he h
  obtain ⟨t1, t2, -, t4, t5⟩ := ht
  obtain ⟨l1, l2, -, l4⟩ := hl
  have hpart : ∀ f m, Pn (partN E f m) := fun f m => by
    unfold partN seg
    exact (h2.drop _).take _
  have hn : n = E.n0 := by
    rcases Nat.lt_or_ge E.n0 n with h3 | h3
    · have := t4 _ (Nat.le_refl _) h3
      rw [(hpart _ _).nos] at this
      cases this
    · omega
  subst hn
  have hf : f = E.lf := by
    rcases t5 with h3 | h3
    · exact h3.1
    · rw [(hpart _ _).nos] at h3
      cases h3.2
  subst hf
  have hn' : n' = E.n0 := by
    rcases l4 with h3 | h3
    · exact h3
    · rw [(hpart _ _).shut] at h3
      cases h3
  subst hn'
  have h3 := pcs_nl hP
  rw [hPf, (part_is ho he hi (Nat.le_refl _) (Nat.le_refl _) (n0_le E)).2, List.count_append, List.count_append] at h3
  have hfe := he.to_le
  have h4 : ((E.Ts.flatten.take E.fr).drop (pre E.Ts E.lf)).count 10 ≤ 1 := by
    refine seg_one he.pcs h1 (Nat.le_refl _) ?_
    have h5 := he.le
    have e1 := lf_eq E
    by_cases hx : ixN E.Ts E.fr < E.Ts.length
    · have h6 := ix_lt he.pcs hx
      rw [show E.lf = ixN E.Ts E.fr from by omega]
      omega
    · have h7 : E.fr ≤ pre E.Ts E.Ts.length := by rw [pre_all]; omega
      exact Nat.le_trans h7 (pre_mono (by omega))
  have h5 : ((E.Ts.flatten.drop E.te).take (pre E.Ts E.n0 - E.te)).count 10 ≤ 1 := by
    rw [← List.drop_take]
    have e1 := n0_eq E
    have h6 : pre E.Ts (E.n0 - 1) ≤ E.te := by
      refine ix_pre he.pcs ?_
      omega
    exact seg_one he.pcs h1 h6 (pre_mono (by omega))
  omega

/-- How many lines have a byte of a span, or touch its beginning. -/
def tchN (R : List Ln) (fr te : Nat) : Nat := R.countP fun x => (decide (x.f ≤ fr) && decide (fr ≤ x.t)) || (decide (x.f < te) && decide (fr < x.t))

theorem tch_ge (fr te : Nat) : ∀ (Ts : List (List UInt8)) (p : Nat), (∀ T ∈ Ts, OneL T) → (∀ T ∈ Ts, Pn T) → ((Ts.flatten.take (te - p)).drop (fr - p)).count 10 ≤ tchN ((rows p Ts).map Prod.fst) fr te
  | [], p, _, _ => by simp
  | T :: r, p, h1, h2 => by
    have ih := tch_ge fr te r (p + T.length) (fun T hT => h1 T (List.mem_cons_of_mem _ hT)) (fun T hT => h2 T (List.mem_cons_of_mem _ hT))
    have hT := lnOf_at (h1 T List.mem_cons_self)
    have e : tchN ((rows p (T :: r)).map Prod.fst) fr te = tchN ((rows (p + T.length) r).map Prod.fst) fr te + (if ((decide (p ≤ fr) && decide (fr ≤ p + T.length)) || (decide (p < te) && decide (fr < p + T.length))) = true then 1 else 0) := by
      unfold tchN
      rw [rows, List.map_cons, List.countP_cons]
      simp only [shLn, hT.1, hT.2.1, Nat.add_zero]
    have hc := one_nl (h1 T List.mem_cons_self) (h2 T List.mem_cons_self)
    rw [e, List.flatten_cons, List.take_append, List.drop_append, List.count_append]
    have hA : ((T.take (te - p)).drop (fr - p)).count 10 ≤ (if ((decide (p ≤ fr) && decide (fr ≤ p + T.length)) || (decide (p < te) && decide (fr < p + T.length))) = true then 1 else 0) := by
      by_cases hx : p < te ∧ fr < p + T.length
      · rw [if_pos (by simp [hx.1, hx.2])]
        exact Nat.le_trans (((List.drop_sublist _ _).trans (List.take_sublist _ _)).count_le _) hc
      · rw [List.drop_of_length_le (by rw [List.length_take]; omega)]
        simp
    have hB : ((r.flatten.take (te - p - T.length)).drop (fr - p - (T.take (te - p)).length)).count 10 ≤ tchN ((rows (p + T.length) r).map Prod.fst) fr te := by
      rw [show te - p - T.length = te - (p + T.length) from by omega]
      by_cases hx : p + T.length ≤ te
      · rw [List.length_take, Nat.min_eq_right (by omega), show fr - p - T.length = fr - (p + T.length) from by omega]
        exact ih
      · rw [show te - (p + T.length) = 0 from by omega]
        simp
    omega

/-- Bytes 10 of a span are of lines that it touches. -/
theorem touched_ge {l : List UInt8} (h : Pn l) (fr te : Nat) : ((l.take te).drop fr).count 10 ≤ tchN (FL l).lines fr te := by
  obtain ⟨Ts, h1, rfl⟩ := pieces_of l.length l (Nat.le_refl _)
  rw [(FL_rows h1).1]
  have := tch_ge fr te Ts 0 h1.one fun T hT => by
    obtain ⟨i, hi, rfl⟩ := List.getElem_of_mem hT
    rw [← pre_seg (List.getElem?_eq_getElem hi)]
    exact (h.take _).drop _
  simpa using this

end Go.Proofs.YtpnboieppkjfnaaGreat

/-
  plain and touched of the law, walked.
-/
namespace Go.Proofs.YtpnboieppkjfnaaGreat
open Go.RowKit

def PlainPost (s : ByteArray) (w : World) (e : Ending) (w' : World) : Prop := ∃ b : Bool, e = .returned (.bool b) ∧ (b = true → Pn s.data.toList) ∧ w = w'
/-- Nothing ahead of the place forbids it. -/
def PnTo (l : List UInt8) (n : Nat) : Prop := ∀ i, i < n → l.getD i 0 ≠ 92 ∧ (0 < i → ¬ (l.getD (i - 1) 0 = 47 ∧ l.getD i 0 = 42) ∧ ¬ (l.getD (i - 1) 0 = 63 ∧ l.getD i 0 = 63))

theorem byte_at (s : ByteArray) (k : Nat) (h : k < s.size) : s[k] = s.data.toList.getD k 0 := by
  have hl : k < s.data.toList.length := by rw [len_byte]; exact h
  rw [List.getD, List.getElem?_eq_getElem hl]
  simp
  rfl
theorem pair_at (s : ByteArray) (k : Nat) (h0 : 0 < k) (h : k < s.size) : (s.extract (k - 1) (k + 1)).toList = [s.data.toList.getD (k - 1) 0, s.data.toList.getD k 0] := by
  have hl : s.data.toList.length = s.size := len_byte s
  rw [ByteArray.toList_eq]
  simp only [ByteArray.data_extract, Array.toList_extract, List.extract_eq_take_drop]
  rw [drop_cons (i := k - 1) (by omega), show k - 1 + 1 = k from by omega, drop_cons (i := k) (by omega), show k + 1 - (k - 1) = 2 from by omega]
  rfl
theorem pn_on {s : ByteArray} {k : Nat} (hk : k < s.size) (hp : PnTo s.data.toList k) (h1 : ¬ (s[k].toNat : Int) = 92) (h2 : 0 < k → ¬ (s.extract (k - 1) (k + 1)).toList = [47, 42] ∧ ¬ (s.extract (k - 1) (k + 1)).toList = [63, 63]) : PnTo s.data.toList (k + 1) := by
  intro i hi
  rcases Nat.lt_or_ge i k with h | h
  · exact hp i h
  · obtain rfl : i = k := by omega
    refine ⟨fun e => h1 ?_, fun h0 => ?_⟩
    · rw [byte_at s i hk, e]
      rfl
    · have h3 := h2 h0
      rw [pair_at s i h0 hk] at h3
      exact ⟨fun e => h3.1 (by rw [e.1, e.2]), fun e => h3.2 (by rw [e.1, e.2])⟩
theorem PnTo.all {s : ByteArray} (h : PnTo s.data.toList s.size) : Pn s.data.toList := fun i hi => h i (by rw [← len_byte]; exact hi)

set_option maxRecDepth 100000 in
theorem plain6_any (s : ByteArray) (hs : s.size ≤ 1000000) (w : World) : Calls Tryz.prog 14 #[.string s] w (PlainPost s w) := by
  go_enter Tryz.func14, Tryz.ntmps14
  go_wp2
  go_loop [3] (fun i => ∃ k : Nat, i = .int .i64 (k : Int) ∧ k ≤ s.size ∧ PnTo s.data.toList k) (fun i => s.size - (intOf i).toNat)
  case atStart => exact ⟨0, rfl, Nat.zero_le _, fun i h => absurd h (Nat.not_lt_zero _)⟩
  case round =>
    obtain ⟨k, rfl, hk, hp⟩ := hrel
    have HP := Lib.hid hp
    clear hp
    by_cases hlt : k < s.size
    · have hki : (k : Int) < (s.size : Int) := by omega
      have hk0 : (0 : Int) ≤ (k : Int) := by omega
      by_cases h0 : k = 0
      · subst h0
        go_wp2
        · go_ret
          exact ⟨false, rfl, (fun h => by cases h), rfl⟩
        · rename_i g1 g0
          exact ⟨⟨1, rfl, hlt, pn_on hlt HP.out g1 fun h => absurd h (Nat.lt_irrefl _)⟩, by simp [intOf]; omega⟩
      · have hk1 : (0 : Int) < (k : Int) := by omega
        go_wp2
        · go_ret
          exact ⟨false, rfl, (fun h => by cases h), rfl⟩
        · go_ret
          exact ⟨false, rfl, (fun h => by cases h), rfl⟩
        · go_ret
          exact ⟨false, rfl, (fun h => by cases h), rfl⟩
        · rename_i g5 g4 g3 g2 g1 g0
          refine ⟨⟨k + 1, by go_num, hlt, pn_on hlt HP.out g5 fun _ => ⟨g3, fun e => ?_⟩⟩, by simp [intOf]; omega⟩
          have := g0.2.2
          rw [e] at this
          cases this
    · have hke : k = s.size := by omega
      have hki : ¬ (k : Int) < (s.size : Int) := by omega
      have HA : Hid (Pn s.data.toList) := Lib.hid (PnTo.all (hke ▸ HP.out))
      clear hke
      go_wp2
      go_ret
      exact ⟨true, rfl, fun _ => HA.out, rfl⟩

theorem tch_take {R : List Ln} {k : Nat} {x : Ln} (h : R[k]? = some x) (fr te : Nat) : tchN (R.take (k + 1)) fr te = tchN (R.take k) fr te + if ((decide (x.f ≤ fr) && decide (fr ≤ x.t)) || (decide (x.f < te) && decide (fr < x.t))) = true then 1 else 0 := by
  unfold tchN
  rw [List.take_add_one, h, Option.toList, List.countP_append, List.countP_singleton]
theorem tch_le (R : List Ln) (fr te : Nat) : tchN R fr te ≤ R.length := List.countP_le_length

set_option maxRecDepth 100000 in
set_option maxHeartbeats 6400000 in
theorem touched6_any (s : ByteArray) (hs : s.size ≤ 65536) (fr te : Nat) (w : World) : Calls Tryz.prog 15 #[.string s, .int .i64 (fr : Int), .int .i64 (te : Int)] w (NatBel (tchN (FL s.data.toList).lines fr te) w) := by
  have hmany := FL_many (l := s.data.toList) (by rw [len_byte]; exact hs)
  have HRL := Lib.hid (rlines_is ⟨#[102]⟩ s hs w)
  obtain ⟨R, hR⟩ : ∃ R, FL s.data.toList = R := ⟨_, rfl⟩
  rw [hR] at hmany HRL ⊢
  clear hR
  go_enter Tryz.func15, Tryz.ntmps15
  go_wp2_with (go_at_call 19; (with_reducible refine HRL.out.mono ?_); rintro e w1 ⟨la, n, lc, da, m, dc, rfl, hl, hd, hb, hn⟩)
  subst hn
  obtain ⟨la2, lc2, hv, h1, h2, h3⟩ := LRow.at hl
  simp only [Value.slice.injEq] at hv
  obtain ⟨rfl, -, rfl⟩ := hv
  unfold maxLen at h2
  have HB := Lib.hid hb
  have HC := Lib.hid h3
  obtain ⟨n, hn⟩ : ∃ n, R.lines.length = n := ⟨_, rfl⟩
  have HN := Lib.hid hn
  rw [hn] at h1 hmany ⊢
  have hnc : (n : Int) ≤ (lc : Int) := by omega
  clear hl hd hb h3 hn h1
  go_loop [9, 10] (fun c i => ∃ k : Nat, i = .int .i64 (k : Int) ∧ k ≤ n ∧ c = .int .i64 (tchN (R.lines.take k) fr te : Int)) (fun _ i => n - (intOf i).toNat)
  case atStart => exact ⟨0, rfl, Nat.zero_le _, rfl⟩
  case round =>
    obtain ⟨k, rfl, hk, rfl⟩ := hrel
    have hcn : tchN (R.lines.take k) fr te ≤ 70000 := Nat.le_trans (tch_le _ _ _) (by rw [List.length_take]; omega)
    by_cases hlt : k < n
    · obtain ⟨x, hx⟩ : ∃ x, R.lines[k]? = some x := ⟨_, List.getElem?_eq_getElem (by rw [HN.out]; exact hlt)⟩
      obtain ⟨g, tv, rfl, hg, k0, k1, k2, k3, -⟩ := HC.out k x hx
      have HST := Lib.hid (tch_take hx fr te)
      have hkn : (k : Int) < (n : Int) := by omega
      have hk0 : (0 : Int) ≤ (k : Int) := by omega
      obtain ⟨c, hc⟩ : ∃ c, tchN (R.lines.take k) fr te = c := ⟨_, rfl⟩
      rw [hc] at HST hcn ⊢
      clear hx hc
      by_cases g1 : x.f ≤ fr <;> by_cases g2 : fr ≤ x.t <;> by_cases g3 : x.f < te <;> by_cases g4 : fr < x.t
      all_goals first
        | (exfalso; omega)
        | (have hst := HST.out
           simp [g1, g2, g3, g4] at hst
           have HST2 := Lib.hid hst
           clear hst
           go_wp2
           go_round
           case rel => exact ⟨k + 1, by go_num, hlt, by first | (rw [HST2.out]; done) | (rw [HST2.out]; go_num)⟩
           case measure => simp [intOf]; omega)
    · have hke : k = n := by omega
      have hkn : ¬ (k : Int) < (n : Int) := by omega
      have HF : Hid (NatBel (tchN R.lines fr te) w (.returned (.int .i64 (tchN (R.lines.take k) fr te : Int))) w1) := Lib.hid ⟨by rw [hke, ← HN.out, List.take_length], HB.out⟩
      obtain ⟨c, hc⟩ : ∃ c, tchN (R.lines.take k) fr te = c := ⟨_, rfl⟩
      rw [hc] at HF hcn ⊢
      clear hke hc
      go_wp2
      go_ret
      exact HF.out

end Go.Proofs.YtpnboieppkjfnaaGreat
