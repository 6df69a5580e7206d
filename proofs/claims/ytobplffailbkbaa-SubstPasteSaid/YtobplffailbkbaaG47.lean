/-
  Texts of the proof, put together: PlL, LongL, BackTk.
-/
import Derived.Test.YtobplffailbkbaaG10
import Derived.Test.YtobplffailbkbaaG03
import Derived.Test.YtobplffailbkbaaG19

/-
  Texts without spliced lines and trigraphs, over lists; signs in a row.
-/
namespace Go.Proofs.Ytobplffailbkbaa
open Go.RowKit

/-- No byte of a text begins a trigraph, or is a backslash. -/
def Pl (l : List UInt8) : Prop := ∀ i, i < l.length → triAt l i = none ∧ l.getD i 0 ≠ 92
def plRow : List UInt8 → Nat → List Rn
  | [], _ => []
  | c :: r, k => ⟨c, k, k + 1⟩ :: plRow r (k + 1)

theorem plRow_len : ∀ (l : List UInt8) (k : Nat), (plRow l k).length = l.length
  | [], _ => rfl
  | _ :: r, k => by simp [plRow, plRow_len r (k + 1)]
theorem plRow_bytes : ∀ (l : List UInt8) (k : Nat), bytesOf (plRow l k) = l
  | [], _ => rfl
  | c :: r, k => by
    show c :: bytesOf (plRow r (k + 1)) = _
    rw [plRow_bytes r]
theorem plRow_get : ∀ (l : List UInt8) (k i : Nat), i < l.length → (plRow l k)[i]? = some ⟨l.getD i 0, k + i, k + i + 1⟩
  | [], _, i, h => by simp at h
  | c :: r, k, 0, _ => rfl
  | c :: r, k, i + 1, h => by
    have := plRow_get r (k + 1) i (by simpa using h)
    simp only [plRow, List.getElem?_cons_succ, this]
    congr 2
    · omega
    · omega

theorem chs_ofPl {l : List UInt8} (h : Pl l) : ∀ (n i : Nat), l.length - i ≤ n → chs l i = plRow (l.drop i) i
  | 0, i, hn => by
    rw [chs_end (by omega), List.drop_eq_nil_of_le (by omega)]
    rfl
  | n + 1, i, hn => by
    by_cases hi : i < l.length
    · have ht := tk_byte (h i hi).1 (h i hi).2
      rw [chs_step hi, ht, drop_cons hi]
      show [_] ++ chs l (i + 1) = _
      rw [chs_ofPl h n (i + 1) (by omega)]
      rfl
    · rw [chs_end (by omega), List.drop_eq_nil_of_le (by omega)]
      rfl

/-- A text that ends without a line's end: its bytes, and one. -/
theorem charsL_open {l : List UInt8} (h : Pl l) (h0 : 0 < l.length) (h10 : l.getD (l.length - 1) 0 ≠ 10) : charsL l = plRow l 0 ++ [⟨10, l.length, l.length⟩] := by
  have hc := chs_ofPl h l.length 0 (by omega)
  rw [List.drop_zero] at hc
  unfold charsL
  rw [if_neg (by rintro rfl; simp at h0), hc]
  unfold withNl endsNl
  rw [List.getLast?_eq_getElem?, plRow_len, plRow_get l 0 _ (by omega)]
  simp only [decide_eq_true_eq]
  rw [if_neg h10]
/-- One that ends with a line's end: its bytes. -/
theorem charsL_shut {l : List UInt8} (h : Pl l) (h0 : 0 < l.length) (h10 : l.getD (l.length - 1) 0 = 10) : charsL l = plRow l 0 := by
  have hc := chs_ofPl h l.length 0 (by omega)
  rw [List.drop_zero] at hc
  unfold charsL
  rw [if_neg (by rintro rfl; simp at h0), hc]
  unfold withNl endsNl
  rw [List.getLast?_eq_getElem?, plRow_len, plRow_get l 0 _ (by omega)]
  simp only [decide_eq_true_eq]
  rw [if_pos h10]

/-- The signs of the law. -/
def SG : List UInt8 := [91, 93, 40, 41, 123, 125, 46, 38, 42, 43, 45, 126, 33, 47, 37, 60, 62, 61, 94, 124, 63, 58, 59, 44, 35]
theorem SG_all : ∀ c ∈ SG, c ≠ 10 ∧ isWhi c = false ∧ isLet c = false ∧ isDig c = false ∧ c ≠ 34 ∧ c ≠ 39 ∧ c ≠ 92 ∧ isPun [c] = true := by decide
theorem PL_one : ∀ p ∈ PL, oneL p = some 5 := by decide +kernel

/-- Signs in a row, none of which begin a comment. -/
def Sg (s : List UInt8) : Prop := (∀ c ∈ s, c ∈ SG) ∧ ∀ i, i + 1 < s.length → ¬ (s.getD i 0 = 47 ∧ (s.getD (i + 1) 0 = 47 ∨ s.getD (i + 1) 0 = 42)) ∧ ¬ (s.getD i 0 = 63 ∧ s.getD (i + 1) 0 = 63)

theorem Sg.get {s : List UInt8} (h : Sg s) {i : Nat} (hi : i < s.length) : s.getD i 0 ∈ SG := by
  have : s.getD i 0 = s[i] := by simp [List.getD, hi]
  rw [this]
  exact h.1 _ (List.getElem_mem hi)
theorem getD_app {s : List UInt8} {i : Nat} (hi : i < s.length) : (s ++ [10]).getD i 0 = s.getD i 0 := by simp [List.getD, List.getElem?_append_left hi]
theorem getD_last (s : List UInt8) : (s ++ [10]).getD s.length 0 = 10 := by simp [List.getD]

theorem Sg.pl {s : List UInt8} (h : Sg s) : Pl s := by
  intro i hi
  refine ⟨?_, (SG_all _ (h.get hi)).2.2.2.2.2.2.1⟩
  by_cases h1 : i + 1 < s.length
  · by_cases h2 : s.getD i 0 = 63
    · exact triAt_not2 fun h3 => (h.2 i h1).2 ⟨h2, h3⟩
    · exact triAt_not h2
  · unfold triAt
    rw [if_neg (fun h2 => by omega)]

/-- What begins at a sign. -/
theorem Sg.item {s : List UInt8} (h : Sg s) {i : Nat} (hi : i < s.length) : item ((s ++ [10]).drop i) = .tk 5 (punctN ((s ++ [10]).drop i)) ∧ 0 < punctN ((s ++ [10]).drop i) := by
  have g0 := getD_drop (s ++ [10]) i 0
  have g1 := getD_drop (s ++ [10]) i 1
  rw [Nat.add_zero, getD_app hi] at g0
  obtain ⟨c10, cw, cl, cd, c34, c39, c92, cp⟩ := SG_all _ (h.get hi)
  have hnext : ((s ++ [10]).getD (i + 1) 0 = 10 ∧ i + 1 = s.length) ∨ (i + 1 < s.length ∧ (s ++ [10]).getD (i + 1) 0 = s.getD (i + 1) 0) := by
    rcases Nat.lt_or_ge (i + 1) s.length with h1 | h1
    · exact .inr ⟨h1, getD_app h1⟩
    · have : i + 1 = s.length := by omega
      rw [this]
      exact .inl ⟨getD_last s, rfl⟩
  have hp : 0 < punctN ((s ++ [10]).drop i) := by
    have := pun_ge (l := (s ++ [10]).drop i) (n := 1) (by rw [List.length_drop]; simp; omega) (by rw [drop_cons (by simp; omega), getD_app hi]; exact cp)
    omega
  have hb : begN ((s ++ [10]).drop i) = 1 := by
    unfold begN
    rw [g0, g1, if_neg c10, if_neg (by rw [cw]; simp), if_neg, if_neg]
    · rintro ⟨e, e1⟩
      rcases hnext with ⟨e2, -⟩ | ⟨h1, e2⟩
      · rw [e2] at e1; revert e1; decide
      · rw [e2] at e1; exact (h.2 i h1).1 ⟨e, .inr e1⟩
    · rintro ⟨e, e1⟩
      rcases hnext with ⟨e2, -⟩ | ⟨h1, e2⟩
      · rw [e2] at e1; revert e1; decide
      · rw [e2] at e1; exact (h.2 i h1).1 ⟨e, .inl e1⟩
  have hl0 : lettN ((s ++ [10]).drop i) = 0 := by
    unfold lettN
    rw [g0]
    rw [if_neg, if_neg]
    · rintro ⟨e | e | e, -⟩ <;> (rw [e] at cl; revert cl; decide)
    · rintro ⟨e, -⟩
      rw [e] at cl
      revert cl
      decide
  have hc : conN ((s ++ [10]).drop i) = none := by
    unfold conN
    rw [hl0, g0, if_neg c34, if_neg c39]
  have hd1 : isDig ((s ++ [10]).getD (i + 1) 0) = false := by
    rcases hnext with ⟨e2, -⟩ | ⟨h1, e2⟩
    · rw [e2]; rfl
    · rw [e2]; exact (SG_all _ (h.get h1)).2.2.2.1
  have ht : tok ((s ++ [10]).drop i) = (5, punctN ((s ++ [10]).drop i)) := by
    unfold tok
    rw [hc]
    show (if _ then _ else _) = _
    rw [g0, g1, cl, cd, hd1, if_neg (by simp), if_neg (by simp), if_pos hp]
  rw [item_tk hb, ht]
  exact ⟨rfl, hp⟩

end Go.Proofs.Ytobplffailbkbaa

/-
  Signs in a row, lexed: over lists.
-/
namespace Go.Proofs.Ytobplffailbkbaa
open Go.RowKit

/-- A token of signs, cut as long as there is one. -/
def TkG (s : List UInt8) (t : Tk) : Prop := t.k = 5 ∧ t.sp = false ∧ 0 < punctN ((s ++ [10]).drop t.f) ∧ t.f + punctN ((s ++ [10]).drop t.f) ≤ s.length ∧ t.x = (s.drop t.f).take (punctN ((s ++ [10]).drop t.f))
def SgT (s : List UInt8) (i : Nat) (T : List Tk) : Prop := (∀ t ∈ T, TkG s t) ∧ (T.map Tk.x).flatten = s.take i

def sgRow (s : List UInt8) : List Rn := plRow s 0 ++ [⟨10, s.length, s.length⟩]
theorem sgRow_bytes (s : List UInt8) : bytesOf (sgRow s) = s ++ [10] := by
  have := plRow_bytes s 0
  unfold sgRow bytesOf at *
  rw [List.map_append, this]
  rfl
theorem sgRow_len (s : List UInt8) : (sgRow s).length = s.length + 1 := by simp [sgRow, plRow_len]
theorem sgRow_f {s : List UInt8} {i : Nat} (h : i < s.length) : rnF (sgRow s) i = i := by
  unfold rnF sgRow
  rw [List.getElem?_append_left (by rw [plRow_len]; exact h), plRow_get s 0 i h]
  simp
theorem sgRow_nl (s : List UInt8) : Nl (bytesOf (sgRow s)) := by
  rw [sgRow_bytes]
  exact ⟨by simp, by simp [List.getD]⟩

theorem sg_from {s : List UInt8} (h : Sg s) : ∀ (m i : Nat) (a : Acc), s.length - i ≤ m → i ≤ s.length → a.lines = [] → a.diags = [] → a.sp = false → a.fr = 0 → SgT s i a.toks →
    ∃ T, SgT s s.length T ∧ (fromA (sgRow s) s.length i a).lines = [⟨T, 0, s.length, false⟩] ∧ (fromA (sgRow s) s.length i a).diags = []
  | m, i, a, hm, hi, h1, h2, h3, h4, h5 => by
    have hlen := sgRow_len s
    by_cases hlt : i < s.length
    · obtain ⟨m, rfl⟩ : ∃ m', m = m' + 1 := ⟨m - 1, by omega⟩
      obtain ⟨hit, hp⟩ := h.item hlt
      obtain ⟨n, hn⟩ : ∃ n, punctN ((s ++ [10]).drop i) = n := ⟨_, rfl⟩
      rw [hn] at hit hp
      have hsh := item_short (L := sgRow s) (i := i) (it := .tk 5 n) (sgRow_nl s) (by omega) (by rw [sgRow_bytes]; exact hit) (by simp) (by simp)
      simp only [It.len] at hsh
      rw [fromA_step (by omega), sgRow_bytes, hit]
      simp only [lenA, stepA]
      have hbad : badN 5 ((bytesOf (sgRow s)).getD i 0) = false := by unfold badN; rfl
      have hx : ((s ++ [10]).drop i).take n = (s.drop i).take n := by
        rw [List.drop_append_of_le_length hi, List.take_append_of_le_length (by rw [List.length_drop]; omega)]
      have he : takeA (sgRow s) a 5 i n = { a with sp := false, toks := a.toks ++ [⟨5, (s.drop i).take n, false, i, rnT (sgRow s) (i + n - 1)⟩] } := by
        unfold takeA pushA
        rw [hbad, sgRow_bytes, sgRow_f hlt]
        simp only [Bool.false_eq_true, if_false]
        rw [hx, h3]
      rw [he]
      refine sg_from h m (i + n) _ (by omega) (by omega) h1 h2 rfl h4 ⟨fun t ht => ?_, ?_⟩
      · rcases List.mem_append.1 ht with ht | ht
        · exact h5.1 t ht
        · simp only [List.mem_cons, List.not_mem_nil, or_false] at ht
          subst ht
          exact ⟨rfl, rfl, by rw [hn]; exact hp, by rw [hn]; show i + n ≤ _; omega, by rw [hn]⟩
      · rw [List.map_append, List.flatten_append, h5.2]
        simp only [List.map_cons, List.map_nil, List.flatten_cons, List.flatten_nil, List.append_nil]
        rw [List.take_add]
    · have hie : i = s.length := by omega
      subst hie
      have hit : item ((bytesOf (sgRow s)).drop s.length) = .nl := item_nl (begN_two' (by rw [getD_drop, Nat.add_zero, sgRow_bytes]; exact getD_last s))
      rw [fromA_step (by omega), hit]
      simp only [lenA, stepA]
      rw [fromA_end (by omega)]
      refine ⟨a.toks, h5, ?_, h2⟩
      simp only [endA, h1, h4, toA]
      rw [if_neg (by omega)]
      rfl

theorem sg_lines {s : List UInt8} (h : Sg s) (h0 : 0 < s.length) : ∃ T, SgT s s.length T ∧ (linesA (charsL s) s.length).lines = [⟨T, 0, s.length, false⟩] ∧ (linesA (charsL s) s.length).diags = [] := by
  have hg := h.get (i := s.length - 1) (by omega)
  rw [charsL_open h.pl h0 (SG_all _ hg).1]
  have hf := sg_from h s.length 0 acc0 (by omega) (by omega) rfl rfl rfl rfl ⟨(by intro t ht; cases ht), rfl⟩
  have e : linesA (sgRow s) s.length = fromA (sgRow s) s.length 0 acc0 := rfl
  have e2 : plRow s 0 ++ [⟨10, s.length, s.length⟩] = sgRow s := rfl
  rw [e2, e]
  exact hf

/-- Each alone is itself. -/
theorem TkG.one {s : List UInt8} {t : Tk} (h : TkG s t) : oneL t.x = some 5 ∧ t.x.length = punctN ((s ++ [10]).drop t.f) := by
  obtain ⟨-, -, hp, hle, hx⟩ := h
  have ht := pun_take hp
  have hl : t.x.length = punctN ((s ++ [10]).drop t.f) := by
    rw [hx, List.length_take, List.length_drop]
    omega
  rw [List.drop_append_of_le_length (by omega), List.take_append_of_le_length (by rw [List.length_drop]; rw [List.drop_append_of_le_length (by omega)] at hle; omega)] at ht
  rw [List.drop_append_of_le_length (by omega)] at hx
  rw [← hx] at ht
  exact ⟨PL_one _ (isPun_mem ht), hl⟩

theorem tok_five {l : List UInt8} (h : (tok l).1 = 5) : 0 < punctN l ∧ (tok l).2 = punctN l := by
  unfold tok at h ⊢
  cases hc : conN l with
  | some x =>
    rw [hc] at h
    have := (conN_in hc).2.2.1
    simp only at h
    omega
  | none =>
    rw [hc] at h
    simp only at h ⊢
    split at h
    · cases h
    · rename_i h1
      rw [if_neg h1]
      split at h
      · cases h
      · rename_i h2
        rw [if_neg h2]
        split at h
        · rename_i h3
          rw [if_pos h3]
          exact ⟨h3, rfl⟩
        · cases h

/-- No longer one begins there. -/
theorem TkG.longest {s : List UInt8} {t : Tk} (h : TkG s t) {k : Nat} (hk : t.x.length < k) (hs : t.f + k ≤ s.length) : oneL ((s.drop t.f).take k) ≠ some 5 := by
  intro ho
  obtain ⟨-, hl⟩ := h.one
  obtain ⟨q, hq⟩ : ∃ q, (s.drop t.f).take k = q := ⟨_, rfl⟩
  have hql : q.length = k := by rw [← hq, List.length_take, List.length_drop]; omega
  rw [hq] at ho
  unfold oneL at ho
  split at ho
  · split at ho
    · rename_i h2
      split at ho
      · cases ho
      · simp only [Option.some.injEq] at ho
        obtain ⟨h3, h4⟩ := tok_five ho
        rw [h2, hql] at h4
        have ht := pun_take h3
        rw [← h4, ← hql, List.take_left] at ht
        have hge := pun_ge (l := (s ++ [10]).drop t.f) (n := k) (by rw [List.length_drop]; simp; omega) (by
          rw [List.drop_append_of_le_length (by omega), List.take_append_of_le_length (by rw [List.length_drop]; omega), hq]
          exact ht)
        omega
    · cases ho
  · cases ho

end Go.Proofs.Ytobplffailbkbaa

/-
  A token told with a blank behind it, over lists: it is the same token, whatever follows.
-/
namespace Go.Proofs.Ytobplffailbkbaa
open Go.RowKit

theorem getD_front {x r : List UInt8} {j : Nat} (h : j < x.length) : (x ++ r).getD j 0 = x.getD j 0 := by simp [List.getD, List.getElem?_append_left h]
theorem getD_behind (x r : List UInt8) : (x ++ 32 :: r).getD x.length 0 = 32 := by simp [List.getD]
theorem getD_take {l : List UInt8} {n j : Nat} (h : j < n) : (l.take n).getD j 0 = l.getD j 0 := by simp [List.getD, List.getElem?_take_of_lt h]
theorem getD_cut {l r : List UInt8} {n j : Nat} (h : j < n) (hn : n ≤ l.length) : (l.take n ++ r).getD j 0 = l.getD j 0 := by
  rw [getD_front (by rw [List.length_take]; omega), getD_take h]
theorem getD_cut32 {l r : List UInt8} {n : Nat} (hn : n ≤ l.length) : (l.take n ++ 32 :: r).getD n 0 = 32 := by
  have h := getD_behind (l.take n) r
  rw [List.length_take, Nat.min_eq_left hn] at h
  exact h

theorem qN_loc (q : UInt8) : ∀ (t : Bool) (l : List UInt8) (n : Nat) (r : List UInt8), qN q t l = some n → qN q t (l.take n ++ r) = some n
  | _, [], _, _, h => by cases h
  | t, c :: l, n, r, h => by
    unfold qN at h
    split at h
    · cases h
    · rename_i h10
      have go : ∀ t', (qN q t' l).map (· + 1) = some n → ∃ m, n = m + 1 ∧ (qN q t' (l.take m ++ r)).map (· + 1) = some n := by
        intro t' h1
        rw [Option.map_eq_some_iff] at h1
        obtain ⟨m, hm, rfl⟩ := h1
        exact ⟨m, rfl, by rw [qN_loc q t' l m r hm]; rfl⟩
      cases t with
      | true =>
        rw [if_pos rfl] at h
        obtain ⟨m, rfl, e⟩ := go _ h
        show qN q true (c :: (l.take m ++ r)) = _
        unfold qN
        rw [if_neg h10, if_pos rfl]
        exact e
      | false =>
        rw [if_neg (by simp)] at h
        by_cases h92 : c = 92
        · rw [if_pos h92] at h
          obtain ⟨m, rfl, e⟩ := go _ h
          show qN q false (c :: (l.take m ++ r)) = _
          unfold qN
          rw [if_neg h10, if_neg (by simp), if_pos h92]
          exact e
        · rw [if_neg h92] at h
          by_cases hq : c = q
          · rw [if_pos hq] at h
            cases h
            show qN q false (c :: r) = _
            unfold qN
            rw [if_neg h10, if_neg (by simp), if_neg h92, if_pos hq]
          · rw [if_neg hq] at h
            obtain ⟨m, rfl, e⟩ := go _ h
            show qN q false (c :: (l.take m ++ r)) = _
            unfold qN
            rw [if_neg h10, if_neg (by simp), if_neg h92, if_neg hq]
            exact e

theorem wordN_loc : ∀ (l r : List UInt8), wordN (l.take (wordN l) ++ 32 :: r) = wordN l
  | [], r => by
    show wordN (32 :: r) = 0
    unfold wordN
    rw [if_neg (by decide)]
  | c :: l, r => by
    by_cases h : isWord c = true
    · have e : wordN (c :: l) = wordN l + 1 := by
        show (if isWord c = true then _ else _) = _
        rw [if_pos h]
      rw [e]
      show (if isWord c = true then wordN (l.take (wordN l) ++ 32 :: r) + 1 else 0) = _
      rw [if_pos h, wordN_loc l r]
    · have e : wordN (c :: l) = 0 := by
        show (if isWord c = true then _ else _) = _
        rw [if_neg h]
      rw [e]
      show wordN (32 :: r) = 0
      unfold wordN
      rw [if_neg (by decide)]
theorem numC_32 (p : UInt8) : numC p 32 = false := by
  unfold numC
  rw [show isWord 32 = false from rfl, show isSign 32 = false from rfl]
  simp
theorem numN_loc : ∀ (p : UInt8) (l r : List UInt8), numN p (l.take (numN p l) ++ 32 :: r) = numN p l
  | p, [], r => by
    show numN p (32 :: r) = 0
    unfold numN
    rw [if_neg (by rw [numC_32]; simp)]
  | p, c :: l, r => by
    by_cases h : numC p c = true
    · have e : numN p (c :: l) = numN c l + 1 := by
        show (if numC p c = true then _ else _) = _
        rw [if_pos h]
      rw [e]
      show (if numC p c = true then numN c (l.take (numN c l) ++ 32 :: r) + 1 else 0) = _
      rw [if_pos h, numN_loc c l r]
    · have e : numN p (c :: l) = 0 := by
        show (if numC p c = true then _ else _) = _
        rw [if_neg h]
      rw [e]
      show numN p (32 :: r) = 0
      unfold numN
      rw [if_neg (by rw [numC_32]; simp)]

theorem pre_32 : ∀ (q p r : List UInt8), (∀ c ∈ q, c ≠ 32) → q.isPrefixOf (p ++ 32 :: r) = q.isPrefixOf p
  | [], p, r, _ => by simp [List.isPrefixOf]
  | a :: q, [], r, h => by
    show (a == 32 && q.isPrefixOf r) = false
    rw [beq_eq_false_iff_ne.2 (h a List.mem_cons_self)]
    rfl
  | a :: q, b :: p, r, h => by
    show (a == b && q.isPrefixOf (p ++ 32 :: r)) = (a == b && q.isPrefixOf p)
    rw [pre_32 q p r fun c hc => h c (List.mem_cons_of_mem _ hc)]
theorem find_same {f g : List UInt8 → Bool} : ∀ {P : List (List UInt8)}, (∀ p ∈ P, f p = g p) → P.find? f = P.find? g
  | [], _ => rfl
  | p :: P, h => by
    rw [List.find?_cons, List.find?_cons, h p List.mem_cons_self, find_same fun q hq => h q (List.mem_cons_of_mem _ hq)]
theorem PL_self : ∀ p ∈ PL, punctN p = p.length := by decide +kernel
theorem punctN_loc {l : List UInt8} (h : 0 < punctN l) (r : List UInt8) : punctN (l.take (punctN l) ++ 32 :: r) = punctN l := by
  have hm := isPun_mem (pun_take h)
  have hs := PL_self _ hm
  have hl : (l.take (punctN l)).length = punctN l := by
    have := punctN_le l
    rw [List.length_take]
    omega
  rw [hl] at hs
  obtain ⟨x, hx⟩ : ∃ x, l.take (punctN l) = x := ⟨_, rfl⟩
  rw [hx] at hs ⊢
  have hf := find_same (f := fun p : List UInt8 => p.isPrefixOf (x ++ 32 :: r)) (g := fun p : List UInt8 => p.isPrefixOf x) (P := PL) fun p hp => pre_32 p _ r fun c hc => (PL_no p hp c hc).2.2.2.2.1
  rw [← hs]
  unfold punctN
  rw [hf]

theorem conN_no {l : List UInt8} (h34 : l.getD 0 0 ≠ 34) (h39 : l.getD 0 0 ≠ 39) (hl : lettN l = 0) : conN l = none := by
  unfold conN
  rw [hl, if_neg h34, if_neg h39]
theorem lettN_not {l : List UInt8} (h : l.getD 0 0 ≠ 117 ∧ l.getD 0 0 ≠ 76 ∧ l.getD 0 0 ≠ 85) : lettN l = 0 := lettN_zero (fun e => h.1 e.1) (fun e => by
  rcases e.1 with e | e | e
  · exact h.2.1 e
  · exact h.1 e
  · exact h.2.2 e)
theorem not_let {c : UInt8} (h : isLet c = false) : c ≠ 117 ∧ c ≠ 76 ∧ c ≠ 85 := by
  refine ⟨?_, ?_, ?_⟩ <;> (rintro rfl; revert h; decide)
theorem let_not {c : UInt8} (h : isLet c = true) : c ≠ 34 ∧ c ≠ 39 := by
  refine ⟨?_, ?_⟩ <;> (rintro rfl; revert h; decide)
theorem num_not {c : UInt8} (h : isDig c = true ∨ c = 46) : c ≠ 34 ∧ c ≠ 39 := by
  refine ⟨?_, ?_⟩ <;> (rintro rfl; revert h; decide)

theorem lettN_three {l y : List UInt8} (h0 : y.getD 0 0 = l.getD 0 0) (h1 : y.getD 1 0 = l.getD 1 0) (h2 : y.getD 2 0 = l.getD 2 0) : lettN y = lettN l := by
  unfold lettN
  rw [h0, h1, h2]

/-- A quoted one. -/
theorem conN_loc {l : List UInt8} {k n : Nat} (h : conN l = some (k, n)) (r : List UInt8) : conN (l.take n ++ 32 :: r) = some (k, n) := by
  have key : ∀ (q : UInt8) (k' : Nat), (q = 34 ∨ q = 39) → l.getD (lettN l) 0 = q → ((qN q false (l.drop (lettN l + 1))).map fun m => (k', lettN l + 1 + m)) = some (k, n) → lettN (l.take n ++ 32 :: r) = lettN l ∧ (l.take n ++ 32 :: r).getD (lettN l) 0 = q ∧ ((qN q false ((l.take n ++ 32 :: r).drop (lettN l + 1))).map fun m => (k', lettN l + 1 + m)) = some (k, n) := by
    intro q k' hq hl hm
    rw [Option.map_eq_some_iff] at hm
    obtain ⟨m, hm, he⟩ := hm
    simp only [Prod.mk.injEq] at he
    obtain ⟨rfl, rfl⟩ := he
    have hq10 : q ≠ 10 := by rcases hq with rfl | rfl <;> decide
    obtain ⟨m0, m1, -⟩ := qN_in q false _ m hq10 hm
    rw [List.length_drop] at m1
    have hn : lettN l + 1 + m ≤ l.length := by omega
    have g := fun j (hj : j < lettN l + 1 + m) => getD_cut (r := 32 :: r) hj hn
    refine ⟨?_, by rw [g _ (by omega)]; exact hl, ?_⟩
    · rcases lettN_is l with e | ⟨e, -, -⟩ | ⟨e, -, -, -⟩
      · rw [e] at hl g ⊢
        refine lettN_not ?_
        rw [g 0 (by omega), hl]
        rcases hq with rfl | rfl <;> decide
      · exact lettN_three (g 0 (by omega)) (g 1 (by omega)) (g 2 (by omega))
      · exact lettN_three (g 0 (by omega)) (g 1 (by omega)) (g 2 (by omega))
    · have hd : (l.take (lettN l + 1 + m) ++ 32 :: r).drop (lettN l + 1) = (l.drop (lettN l + 1)).take m ++ 32 :: r := by
        rw [List.drop_append_of_le_length (by rw [List.length_take]; omega), List.drop_take]
        rw [show lettN l + 1 + m - (lettN l + 1) = m from by omega]
      rw [hd, qN_loc q false _ m _ hm]
      rfl
  unfold conN at h ⊢
  split at h
  · rename_i hq
    obtain ⟨k1, k2, k3⟩ := key 34 4 (.inl rfl) hq h
    rw [k1, if_pos k2]
    exact k3
  · rename_i hn34
    split at h
    · rename_i hq
      obtain ⟨k1, k2, k3⟩ := key 39 3 (.inr rfl) hq h
      rw [k1, if_neg (by rw [k2]; decide), if_pos k2]
      exact k3
    · cases h

theorem tok_loc {l : List UInt8} {k n : Nat} (h : tok l = (k, n)) (h6 : k ≠ 6) (h0 : 0 < l.length) (r : List UInt8) : tok (l.take n ++ 32 :: r) = (k, n) := by
  cases hc : conN l with
  | some x =>
    have hx : x = (k, n) := by unfold tok at h; rw [hc] at h; exact h
    rw [hx] at hc
    have := conN_loc hc r
    unfold tok
    rw [this]
  | none =>
    unfold tok at h
    rw [hc] at h
    cases l with
    | nil => simp at h0
    | cons c l =>
      simp only at h
      rw [show (c :: l).getD 0 0 = c from rfl, show (c :: l).drop 1 = l from rfl] at h
      by_cases hl : isLet c = true
      · rw [if_pos hl] at h
        simp only [Prod.mk.injEq] at h
        obtain ⟨rfl, rfl⟩ := h
        show tok (c :: (l.take (wordN l) ++ 32 :: r)) = _
        have hw : ∀ j, j ≤ wordN l → (l.take (wordN l) ++ 32 :: r).getD j 0 ≠ 34 ∧ (l.take (wordN l) ++ 32 :: r).getD j 0 ≠ 39 := by
          intro j hj
          rcases Nat.lt_or_eq_of_le hj with hj | rfl
          · rw [getD_cut hj (wordN_le l)]
            have := isWord_ne (wordN_in l j hj)
            exact ⟨this.2.1, this.2.2.1⟩
          · rw [getD_cut32 (wordN_le l)]
            decide
        have hln : lettN (c :: (l.take (wordN l) ++ 32 :: r)) = 0 := by
          refine lettN_zero (fun e => ?_) (fun e => ?_)
          · rcases Nat.eq_zero_or_pos (wordN l) with e0 | e0
            · have e1 : (l.take (wordN l) ++ 32 :: r).getD 0 0 = 56 := e.2.1
              rw [e0] at e1
              revert e1
              show ¬ ((32 : UInt8) = 56)
              decide
            · exact (hw 1 e0).1 e.2.2
          · rcases e.2 with e | e
            · exact (hw 0 (Nat.zero_le _)).1 e
            · exact (hw 0 (Nat.zero_le _)).2 e
        have hcn := conN_no (l := c :: (l.take (wordN l) ++ 32 :: r)) (let_not hl).1 (let_not hl).2 hln
        unfold tok
        rw [hcn]
        simp only
        rw [show (c :: (l.take (wordN l) ++ 32 :: r)).getD 0 0 = c from rfl, if_pos hl, show (c :: (l.take (wordN l) ++ 32 :: r)).drop 1 = l.take (wordN l) ++ 32 :: r from rfl, wordN_loc]
      · rw [if_neg hl] at h
        have hlf : isLet c = false := by simpa using hl
        by_cases hd : (isDig c || (decide (c = 46) && isDig ((c :: l).getD 1 0))) = true
        · rw [if_pos hd] at h
          simp only [Prod.mk.injEq] at h
          obtain ⟨rfl, rfl⟩ := h
          show tok (c :: (l.take (numN c l) ++ 32 :: r)) = _
          have hd1 : (isDig c || (decide (c = 46) && isDig ((c :: (l.take (numN c l) ++ 32 :: r)).getD 1 0))) = true := by
            by_cases h1 : isDig c = true
            · rw [h1]; rfl
            · rw [Bool.not_eq_true] at h1
              rw [h1, Bool.false_or, Bool.and_eq_true] at hd ⊢
              refine ⟨hd.1, ?_⟩
              obtain ⟨hd1, hd2⟩ := hd
              cases l with
              | nil => exact absurd hd2 (by show ¬ (isDig 0 = true); decide)
              | cons d l =>
                have hd2 : isDig d = true := hd2
                have hnc : numC c d = true := by unfold numC isWord; rw [hd2]; simp
                have e : numN c (d :: l) = numN d l + 1 := by
                  show (if numC c d = true then _ else _) = _
                  rw [if_pos hnc]
                rw [e]
                exact hd2
          have hcd : isDig c = true ∨ c = 46 := by
            rw [Bool.or_eq_true, Bool.and_eq_true] at hd
            rcases hd with hd | hd
            · exact .inl hd
            · exact .inr (by simpa using hd.1)
          have hcn := conN_no (l := c :: (l.take (numN c l) ++ 32 :: r)) (num_not hcd).1 (num_not hcd).2 (lettN_not (not_let hlf))
          unfold tok
          rw [hcn]
          simp only
          rw [show (c :: (l.take (numN c l) ++ 32 :: r)).getD 0 0 = c from rfl, if_neg hl, if_pos hd1, show (c :: (l.take (numN c l) ++ 32 :: r)).drop 1 = l.take (numN c l) ++ 32 :: r from rfl, numN_loc]
        · rw [if_neg hd] at h
          by_cases hp : 0 < punctN (c :: l)
          · rw [if_pos hp] at h
            simp only [Prod.mk.injEq] at h
            obtain ⟨rfl, rfl⟩ := h
            have hm := isPun_mem (pun_take hp)
            have hle := (punctN_le (c :: l)).2
            have hno := PL_no _ hm
            have hin : ∀ j, j < punctN (c :: l) → (c :: l).getD j 0 ≠ 34 ∧ (c :: l).getD j 0 ≠ 39 ∧ isWord ((c :: l).getD j 0) = false := by
              intro j hj
              have h1 := hno ((c :: l).getD j 0) (by
                rw [← getD_take hj]
                exact get_mem (by rw [List.length_take]; omega))
              exact ⟨h1.2.1, h1.2.2.1, h1.2.2.2.1⟩
            have g0 := getD_cut (l := c :: l) (r := 32 :: r) hp hle
            have h0 := hin 0 hp
            have hd1 : isDig ((((c :: l).take (punctN (c :: l))) ++ 32 :: r).getD 1 0) = false := by
              rcases Nat.lt_or_ge 1 (punctN (c :: l)) with h1 | h1
              · rw [getD_cut h1 hle]
                have := (hin 1 h1).2.2
                unfold isWord at this
                rw [Bool.or_eq_false_iff] at this
                exact this.2
              · have e1 : punctN (c :: l) = 1 := by omega
                rw [e1]
                rfl
            have hdc : isDig c = false := by
              have := h0.2.2
              unfold isWord at this
              rw [Bool.or_eq_false_iff] at this
              exact this.2
            have hcn := conN_no (l := (c :: l).take (punctN (c :: l)) ++ 32 :: r) (by rw [g0]; exact h0.1) (by rw [g0]; exact h0.2.1) (lettN_not (by rw [g0]; exact not_let hlf))
            unfold tok
            rw [hcn]
            simp only
            rw [g0, hd1, show (c :: l).getD 0 0 = c from rfl, hdc, if_neg hl, if_neg (by simp), punctN_loc hp, if_pos hp]
          · rw [if_neg hp] at h
            simp only [Prod.mk.injEq] at h
            exact absurd h.1.symm h6

end Go.Proofs.Ytobplffailbkbaa
