/-
  Texts of the proof, put together: PlL, LongL.
-/
import Derived.Test.YtobplffailbkbaaG10
import Derived.Test.YtobplffailbkbaaG03
import Derived.Test.YtobplffailbkbaaG19

/-
  Texts without spliced lines and trigraphs, over lists; signs in a row.
-/
namespace Go.Proofs.Ytobplffailbkbaa
open Go.RowKit

/-- No byte of a text begins a trigraph, or is a backslash. -/
def Pl (l : List UInt8) : Prop := ∀ i, i < l.length → triAt l i = none ∧ l.getD i 0 ≠ 92
def plRow : List UInt8 → Nat → List Rn
  | [], _ => []
  | c :: r, k => ⟨c, k, k + 1⟩ :: plRow r (k + 1)

theorem plRow_len : ∀ (l : List UInt8) (k : Nat), (plRow l k).length = l.length
  | [], _ => rfl
  | _ :: r, k => by simp [plRow, plRow_len r (k + 1)]
theorem plRow_bytes : ∀ (l : List UInt8) (k : Nat), bytesOf (plRow l k) = l
  | [], _ => rfl
  | c :: r, k => by
    show c :: bytesOf (plRow r (k + 1)) = _
    rw [plRow_bytes r]
theorem plRow_get : ∀ (l : List UInt8) (k i : Nat), i < l.length → (plRow l k)[i]? = some ⟨l.getD i 0, k + i, k + i + 1⟩
  | [], _, i, h => by simp at h
  | c :: r, k, 0, _ => rfl
  | c :: r, k, i + 1, h => by
    have := plRow_get r (k + 1) i (by simpa using h)
    simp only [plRow, List.getElem?_cons_succ, this]
    congr 2
    · omega
    · omega

theorem chs_ofPl {l : List UInt8} (h : Pl l) : ∀ (n i : Nat), l.length - i ≤ n → chs l i = plRow (l.drop i) i
  | 0, i, hn => by
    rw [chs_end (by omega), List.drop_eq_nil_of_le (by omega)]
    rfl
  | n + 1, i, hn => by
    by_cases hi : i < l.length
    · have ht := tk_byte (h i hi).1 (h i hi).2
      rw [chs_step hi, ht, drop_cons hi]
      show [_] ++ chs l (i + 1) = _
      rw [chs_ofPl h n (i + 1) (by omega)]
      rfl
    · rw [chs_end (by omega), List.drop_eq_nil_of_le (by omega)]
      rfl

/-- A text that ends without a line's end: its bytes, and one. -/
theorem charsL_open {l : List UInt8} (h : Pl l) (h0 : 0 < l.length) (h10 : l.getD (l.length - 1) 0 ≠ 10) : charsL l = plRow l 0 ++ [⟨10, l.length, l.length⟩] := by
  have hc := chs_ofPl h l.length 0 (by omega)
  rw [List.drop_zero] at hc
  unfold charsL
  rw [if_neg (by rintro rfl; simp at h0), hc]
  unfold withNl endsNl
  rw [List.getLast?_eq_getElem?, plRow_len, plRow_get l 0 _ (by omega)]
  simp only [decide_eq_true_eq]
  rw [if_neg h10]
/-- One that ends with a line's end: its bytes. -/
theorem charsL_shut {l : List UInt8} (h : Pl l) (h0 : 0 < l.length) (h10 : l.getD (l.length - 1) 0 = 10) : charsL l = plRow l 0 := by
  have hc := chs_ofPl h l.length 0 (by omega)
  rw [List.drop_zero] at hc
  unfold charsL
  rw [if_neg (by rintro rfl; simp at h0), hc]
  unfold withNl endsNl
  rw [List.getLast?_eq_getElem?, plRow_len, plRow_get l 0 _ (by omega)]
  simp only [decide_eq_true_eq]
  rw [if_pos h10]

/-- The signs of the law. -/
def SG : List UInt8 := [91, 93, 40, 41, 123, 125, 46, 38, 42, 43, 45, 126, 33, 47, 37, 60, 62, 61, 94, 124, 63, 58, 59, 44, 35]
theorem SG_all : ∀ c ∈ SG, c ≠ 10 ∧ isWhi c = false ∧ isLet c = false ∧ isDig c = false ∧ c ≠ 34 ∧ c ≠ 39 ∧ c ≠ 92 ∧ isPun [c] = true := by decide
theorem PL_one : ∀ p ∈ PL, oneL p = some 5 := by decide +kernel

/-- Signs in a row, none of which begin a comment. -/
def Sg (s : List UInt8) : Prop := (∀ c ∈ s, c ∈ SG) ∧ ∀ i, i + 1 < s.length → ¬ (s.getD i 0 = 47 ∧ (s.getD (i + 1) 0 = 47 ∨ s.getD (i + 1) 0 = 42)) ∧ ¬ (s.getD i 0 = 63 ∧ s.getD (i + 1) 0 = 63)

theorem Sg.get {s : List UInt8} (h : Sg s) {i : Nat} (hi : i < s.length) : s.getD i 0 ∈ SG := by
  have : s.getD i 0 = s[i] := by simp [List.getD, hi]
  rw [this]
  exact h.1 _ (List.getElem_mem hi)
theorem getD_app {s : List UInt8} {i : Nat} (hi : i < s.length) : (s ++ [10]).getD i 0 = s.getD i 0 := by simp [List.getD, List.getElem?_append_left hi]
theorem getD_last (s : List UInt8) : (s ++ [10]).getD s.length 0 = 10 := by simp [List.getD]

theorem Sg.pl {s : List UInt8} (h : Sg s) : Pl s := by
  intro i hi
  refine ⟨?_, (SG_all _ (h.get hi)).2.2.2.2.2.2.1⟩
  by_cases h1 : i + 1 < s.length
  · by_cases h2 : s.getD i 0 = 63
    · exact triAt_not2 fun h3 => (h.2 i h1).2 ⟨h2, h3⟩
    · exact triAt_not h2
  · unfold triAt
    rw [if_neg (fun h2 => by omega)]

/-- What begins at a sign. -/
theorem Sg.item {s : List UInt8} (h : Sg s) {i : Nat} (hi : i < s.length) : item ((s ++ [10]).drop i) = .tk 5 (punctN ((s ++ [10]).drop i)) ∧ 0 < punctN ((s ++ [10]).drop i) := by
  have g0 := getD_drop (s ++ [10]) i 0
  have g1 := getD_drop (s ++ [10]) i 1
  rw [Nat.add_zero, getD_app hi] at g0
  obtain ⟨c10, cw, cl, cd, c34, c39, c92, cp⟩ := SG_all _ (h.get hi)
  have hnext : ((s ++ [10]).getD (i + 1) 0 = 10 ∧ i + 1 = s.length) ∨ (i + 1 < s.length ∧ (s ++ [10]).getD (i + 1) 0 = s.getD (i + 1) 0) := by
    rcases Nat.lt_or_ge (i + 1) s.length with h1 | h1
    · exact .inr ⟨h1, getD_app h1⟩
    · have : i + 1 = s.length := by omega
      rw [this]
      exact .inl ⟨getD_last s, rfl⟩
  have hp : 0 < punctN ((s ++ [10]).drop i) := by
    have := pun_ge (l := (s ++ [10]).drop i) (n := 1) (by rw [List.length_drop]; simp; omega) (by rw [drop_cons (by simp; omega), getD_app hi]; exact cp)
    omega
  have hb : begN ((s ++ [10]).drop i) = 1 := by
    unfold begN
    rw [g0, g1, if_neg c10, if_neg (by rw [cw]; simp), if_neg, if_neg]
    · rintro ⟨e, e1⟩
      rcases hnext with ⟨e2, -⟩ | ⟨h1, e2⟩
      · rw [e2] at e1; revert e1; decide
      · rw [e2] at e1; exact (h.2 i h1).1 ⟨e, .inr e1⟩
    · rintro ⟨e, e1⟩
      rcases hnext with ⟨e2, -⟩ | ⟨h1, e2⟩
      · rw [e2] at e1; revert e1; decide
      · rw [e2] at e1; exact (h.2 i h1).1 ⟨e, .inl e1⟩
  have hl0 : lettN ((s ++ [10]).drop i) = 0 := by
    unfold lettN
    rw [g0]
    rw [if_neg, if_neg]
    · rintro ⟨e | e | e, -⟩ <;> (rw [e] at cl; revert cl; decide)
    · rintro ⟨e, -⟩
      rw [e] at cl
      revert cl
      decide
  have hc : conN ((s ++ [10]).drop i) = none := by
    unfold conN
    rw [hl0, g0, if_neg c34, if_neg c39]
  have hd1 : isDig ((s ++ [10]).getD (i + 1) 0) = false := by
    rcases hnext with ⟨e2, -⟩ | ⟨h1, e2⟩
    · rw [e2]; rfl
    · rw [e2]; exact (SG_all _ (h.get h1)).2.2.2.1
  have ht : tok ((s ++ [10]).drop i) = (5, punctN ((s ++ [10]).drop i)) := by
    unfold tok
    rw [hc]
    show (if _ then _ else _) = _
    rw [g0, g1, cl, cd, hd1, if_neg (by simp), if_neg (by simp), if_pos hp]
  rw [item_tk hb, ht]
  exact ⟨rfl, hp⟩

end Go.Proofs.Ytobplffailbkbaa

/-
  Signs in a row, lexed: over lists.
-/
namespace Go.Proofs.Ytobplffailbkbaa
open Go.RowKit

/-- A token of signs, cut as long as there is one. -/
def TkG (s : List UInt8) (t : Tk) : Prop := t.k = 5 ∧ t.sp = false ∧ 0 < punctN ((s ++ [10]).drop t.f) ∧ t.f + punctN ((s ++ [10]).drop t.f) ≤ s.length ∧ t.x = (s.drop t.f).take (punctN ((s ++ [10]).drop t.f))
def SgT (s : List UInt8) (i : Nat) (T : List Tk) : Prop := (∀ t ∈ T, TkG s t) ∧ (T.map Tk.x).flatten = s.take i

def sgRow (s : List UInt8) : List Rn := plRow s 0 ++ [⟨10, s.length, s.length⟩]
theorem sgRow_bytes (s : List UInt8) : bytesOf (sgRow s) = s ++ [10] := by
  have := plRow_bytes s 0
  unfold sgRow bytesOf at *
  rw [List.map_append, this]
  rfl
theorem sgRow_len (s : List UInt8) : (sgRow s).length = s.length + 1 := by simp [sgRow, plRow_len]
theorem sgRow_f {s : List UInt8} {i : Nat} (h : i < s.length) : rnF (sgRow s) i = i := by
  unfold rnF sgRow
  rw [List.getElem?_append_left (by rw [plRow_len]; exact h), plRow_get s 0 i h]
  simp
theorem sgRow_nl (s : List UInt8) : Nl (bytesOf (sgRow s)) := by
  rw [sgRow_bytes]
  exact ⟨by simp, by simp [List.getD]⟩

theorem sg_from {s : List UInt8} (h : Sg s) : ∀ (m i : Nat) (a : Acc), s.length - i ≤ m → i ≤ s.length → a.lines = [] → a.diags = [] → a.sp = false → a.fr = 0 → SgT s i a.toks →
    ∃ T, SgT s s.length T ∧ (fromA (sgRow s) s.length i a).lines = [⟨T, 0, s.length, false⟩] ∧ (fromA (sgRow s) s.length i a).diags = []
  | m, i, a, hm, hi, h1, h2, h3, h4, h5 => by
    have hlen := sgRow_len s
    by_cases hlt : i < s.length
    · obtain ⟨m, rfl⟩ : ∃ m', m = m' + 1 := ⟨m - 1, by omega⟩
      obtain ⟨hit, hp⟩ := h.item hlt
      obtain ⟨n, hn⟩ : ∃ n, punctN ((s ++ [10]).drop i) = n := ⟨_, rfl⟩
      rw [hn] at hit hp
      have hsh := item_short (L := sgRow s) (i := i) (it := .tk 5 n) (sgRow_nl s) (by omega) (by rw [sgRow_bytes]; exact hit) (by simp) (by simp)
      simp only [It.len] at hsh
      rw [fromA_step (by omega), sgRow_bytes, hit]
      simp only [lenA, stepA]
      have hbad : badN 5 ((bytesOf (sgRow s)).getD i 0) = false := by unfold badN; rfl
      have hx : ((s ++ [10]).drop i).take n = (s.drop i).take n := by
        rw [List.drop_append_of_le_length hi, List.take_append_of_le_length (by rw [List.length_drop]; omega)]
      have he : takeA (sgRow s) a 5 i n = { a with sp := false, toks := a.toks ++ [⟨5, (s.drop i).take n, false, i, rnT (sgRow s) (i + n - 1)⟩] } := by
        unfold takeA pushA
        rw [hbad, sgRow_bytes, sgRow_f hlt]
        simp only [Bool.false_eq_true, if_false]
        rw [hx, h3]
      rw [he]
      refine sg_from h m (i + n) _ (by omega) (by omega) h1 h2 rfl h4 ⟨fun t ht => ?_, ?_⟩
      · rcases List.mem_append.1 ht with ht | ht
        · exact h5.1 t ht
        · simp only [List.mem_cons, List.not_mem_nil, or_false] at ht
          subst ht
          exact ⟨rfl, rfl, by rw [hn]; exact hp, by rw [hn]; show i + n ≤ _; omega, by rw [hn]⟩
      · rw [List.map_append, List.flatten_append, h5.2]
        simp only [List.map_cons, List.map_nil, List.flatten_cons, List.flatten_nil, List.append_nil]
        rw [List.take_add]
    · have hie : i = s.length := by omega
      subst hie
      have hit : item ((bytesOf (sgRow s)).drop s.length) = .nl := item_nl (begN_two' (by rw [getD_drop, Nat.add_zero, sgRow_bytes]; exact getD_last s))
      rw [fromA_step (by omega), hit]
      simp only [lenA, stepA]
      rw [fromA_end (by omega)]
      refine ⟨a.toks, h5, ?_, h2⟩
      simp only [endA, h1, h4, toA]
      rw [if_neg (by omega)]
      rfl

theorem sg_lines {s : List UInt8} (h : Sg s) (h0 : 0 < s.length) : ∃ T, SgT s s.length T ∧ (linesA (charsL s) s.length).lines = [⟨T, 0, s.length, false⟩] ∧ (linesA (charsL s) s.length).diags = [] := by
  have hg := h.get (i := s.length - 1) (by omega)
  rw [charsL_open h.pl h0 (SG_all _ hg).1]
  have hf := sg_from h s.length 0 acc0 (by omega) (by omega) rfl rfl rfl rfl ⟨(by intro t ht; cases ht), rfl⟩
  have e : linesA (sgRow s) s.length = fromA (sgRow s) s.length 0 acc0 := rfl
  have e2 : plRow s 0 ++ [⟨10, s.length, s.length⟩] = sgRow s := rfl
  rw [e2, e]
  exact hf

/-- Each alone is itself. -/
theorem TkG.one {s : List UInt8} {t : Tk} (h : TkG s t) : oneL t.x = some 5 ∧ t.x.length = punctN ((s ++ [10]).drop t.f) := by
  obtain ⟨-, -, hp, hle, hx⟩ := h
  have ht := pun_take hp
  have hl : t.x.length = punctN ((s ++ [10]).drop t.f) := by
    rw [hx, List.length_take, List.length_drop]
    omega
  rw [List.drop_append_of_le_length (by omega), List.take_append_of_le_length (by rw [List.length_drop]; rw [List.drop_append_of_le_length (by omega)] at hle; omega)] at ht
  rw [List.drop_append_of_le_length (by omega)] at hx
  rw [← hx] at ht
  exact ⟨PL_one _ (isPun_mem ht), hl⟩

theorem tok_five {l : List UInt8} (h : (tok l).1 = 5) : 0 < punctN l ∧ (tok l).2 = punctN l := by
  unfold tok at h ⊢
  cases hc : conN l with
  | some x =>
    rw [hc] at h
    have := (conN_in hc).2.2.1
    simp only at h
    omega
  | none =>
    rw [hc] at h
    simp only at h ⊢
    split at h
    · cases h
    · rename_i h1
      rw [if_neg h1]
      split at h
      · cases h
      · rename_i h2
        rw [if_neg h2]
        split at h
        · rename_i h3
          rw [if_pos h3]
          exact ⟨h3, rfl⟩
        · cases h

/-- No longer one begins there. -/
theorem TkG.longest {s : List UInt8} {t : Tk} (h : TkG s t) {k : Nat} (hk : t.x.length < k) (hs : t.f + k ≤ s.length) : oneL ((s.drop t.f).take k) ≠ some 5 := by
  intro ho
  obtain ⟨-, hl⟩ := h.one
  obtain ⟨q, hq⟩ : ∃ q, (s.drop t.f).take k = q := ⟨_, rfl⟩
  have hql : q.length = k := by rw [← hq, List.length_take, List.length_drop]; omega
  rw [hq] at ho
  unfold oneL at ho
  split at ho
  · split at ho
    · rename_i h2
      split at ho
      · cases ho
      · simp only [Option.some.injEq] at ho
        obtain ⟨h3, h4⟩ := tok_five ho
        rw [h2, hql] at h4
        have ht := pun_take h3
        rw [← h4, ← hql, List.take_left] at ht
        have hge := pun_ge (l := (s ++ [10]).drop t.f) (n := k) (by rw [List.length_drop]; simp; omega) (by
          rw [List.drop_append_of_le_length (by omega), List.take_append_of_le_length (by rw [List.length_drop]; omega), hq]
          exact ht)
        omega
    · cases ho
  · cases ho

end Go.Proofs.Ytobplffailbkbaa
