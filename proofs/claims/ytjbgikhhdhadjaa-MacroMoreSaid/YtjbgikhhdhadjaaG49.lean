/-
  Texts of the proof, put together: MmL, PlL.
-/
import Derived.Test.YtjbgikhhdhadjaaG45
import Derived.Test.YtjbgikhhdhadjaaG12
import Derived.Test.YtjbgikhhdhadjaaG06

/-
  The texts of MacroMore, read by reckoning.
-/
namespace Go.Proofs.Ytjbgikhhdhadjaa
open Go.RowKit Go.Maps

def bsE (a b : ByteArray) : Bool := decide (a.data.toList = b.data.toList)
theorem bsE_is (a b : ByteArray) : decide (a = b) = bsE a b := by
  unfold bsE
  by_cases h : a = b
  · subst h; simp
  · rw [decide_eq_false h, decide_eq_false fun e => h (ByteArray.ext (Array.toList_inj.1 e))]
def isC (t : Xt) (s : ByteArray) : Bool := decide (t.k = 5) && bsE t.x s
theorem isX_c (t : Xt) (s : ByteArray) : isX t s = isC t s := by rw [isX_eq, bsE_is]; rfl
def memC (x : ByteArray) (ps : List ByteArray) : Bool := ps.any fun y => bsE y x
theorem memB_c (x : ByteArray) (ps : List ByteArray) : memB x ps = memC x ps := by
  unfold memB memC
  congr 1
  funext y
  exact bsE_is y x
def parC (ps : List ByteArray) (t : Xt) : Bool := decide (t.k = 1) && !bsE t.x vaB && !memC t.x ps
theorem parB_c (ps : List ByteArray) (t : Xt) : parB ps t = parC ps t := by
  unfold parB parC
  rw [bsE_is, memB_c]
def rowC (ps : List ByteArray) : List Xt → Option (Bool × List ByteArray × List Xt)
  | [] => none
  | [_] => none
  | t :: u :: r =>
    if isC t eB then (if isC u cB then some (true, ps ++ [vaB], r) else none)
    else if parC ps t then (if isC u cB then some (false, ps ++ [t.x], r) else if isC u kB then rowC (ps ++ [t.x]) r else none)
    else none
theorem rowL_c : ∀ (ps : List ByteArray) (T : List Xt), rowL ps T = rowC ps T
  | _, [] => rfl
  | _, [_] => rfl
  | ps, t :: u :: r => by
    rw [show rowL ps (t :: u :: r) = (if isX t eB then (if isX u cB then some (true, ps ++ [vaB], r) else none)
      else if parB ps t then (if isX u cB then some (false, ps ++ [t.x], r) else if isX u kB then rowL (ps ++ [t.x]) r else none)
      else none) from rfl, show rowC ps (t :: u :: r) = (if isC t eB then (if isC u cB then some (true, ps ++ [vaB], r) else none)
      else if parC ps t then (if isC u cB then some (false, ps ++ [t.x], r) else if isC u kB then rowC (ps ++ [t.x]) r else none)
      else none) from rfl]
    rw [isX_c, isX_c, isX_c, parB_c, rowL_c (ps ++ [t.x]) r]
def headC (T : List Xt) : Option (Bool × Bool × List ByteArray × List Xt) :=
  match T with
  | [] => some (false, false, [], [])
  | t :: r =>
    if t.sp = false ∧ isC t oB = true then
      (match r with
      | [] => none
      | u :: q => if isC u cB then some (true, false, [], q) else (rowC [] r).map fun x => (true, x.1, x.2.1, x.2.2))
    else some (false, false, [], t :: r)
theorem headL_c (T : List Xt) : headL T = headC T := by
  unfold headL headC
  match T with
  | [] => rfl
  | [t] => simp only [isX_c]
  | t :: u :: q => simp only [isX_c, rowL_c]
def pasteC (t : Xt) : Bool := decide (t.k = 5) && (bsE t.x ⟨#[35, 35]⟩ || bsE t.x ⟨#[37, 58, 37, 58]⟩)
def hashC (t : Xt) : Bool := decide (t.k = 5) && (bsE t.x ⟨#[35]⟩ || bsE t.x ⟨#[37, 58]⟩)
def isParC (ps : List ByteArray) (T : List Xt) (i : Nat) : Bool :=
  match T[i]? with
  | none => false
  | some t => decide (t.k = 1) && memC t.x ps
def illC (fn va : Bool) (ps : List ByteArray) (T : List Xt) (i : Nat) (t : Xt) : Bool :=
  (pasteC t && (decide (i = 0) || decide (i + 1 = T.length))) || (hashC t && fn && !isParC ps T (i + 1)) || (decide (t.k = 1) && bsE t.x vaB && !va)
theorem illX_c (fn va : Bool) (ps : List ByteArray) (T : List Xt) (i : Nat) (t : Xt) : illX fn va ps T i t = illC fn va ps T i t := by
  have h1 : pasteX t = pasteC t := by rw [pasteX_eq, bsE_is, bsE_is]; rfl
  have h2 : hashX t = hashC t := by rw [hashX_eq, bsE_is, bsE_is]; rfl
  have h3 : isPar ps T (i + 1) = isParC ps T (i + 1) := by
    unfold isPar isParC
    cases T[i + 1]? with
    | none => rfl
    | some u => simp only [memB_c]
  unfold illX illC
  rw [h1, h2, h3, bsE_is]
def misC (fn va : Bool) (ps : List ByteArray) (T : List Xt) : Nat → Nat → Option Nat
  | 0, _ => none
  | n + 1, i => match T[i]? with
    | none => none
    | some t => if illC fn va ps T i t then some i else misC fn va ps T n (i + 1)
theorem misL_c (fn va : Bool) (ps : List ByteArray) (T : List Xt) : ∀ n i, misL fn va ps T n i = misC fn va ps T n i
  | 0, _ => rfl
  | n + 1, i => by
    show (match T[i]? with | none => none | some t => if illX fn va ps T i t then some i else misL fn va ps T n (i + 1)) = (match T[i]? with | none => none | some t => if illC fn va ps T i t then some i else misC fn va ps T n (i + 1))
    cases T[i]? with
    | none => rfl
    | some t => simp only [illX_c, misL_c fn va ps T n (i + 1)]
def resC (x : ByteArray) : Bool := bsE x dfB || bsE x flB || bsE x lnB || bsE x vaB
def parseC (T : List Xt) : Xm ⊕ Ill :=
  match T with
  | [] => .inr ⟨4, ⟨#[]⟩, 0, 0⟩
  | t :: r =>
    if t.k ≠ 1 then .inr (illOf 4 t)
    else if resC t.x then .inr (illOf 5 t)
    else match headC r with
      | none => .inr (illOf 5 t)
      | some (fn, va, ps, q) => match misC fn va ps (bareL q) (bareL q).length 0 with
        | some i => match (bareL q)[i]? with
          | some u => .inr (illOf 5 u)
          | none => .inr (illOf 5 t)
        | none => .inl ⟨t.x, fn, va, ps, bareL q, t.g, t.f, t.t⟩
theorem parseL_c (T : List Xt) : parseL T = parseC T := by
  unfold parseL parseC
  match T with
  | [] => rfl
  | t :: r =>
    have h : resB t.x = resC t.x := by
      unfold resB resC
      rw [bsE_is, bsE_is, bsE_is, bsE_is]
    simp only [headL_c, misL_c, h]
    rfl

/-- The parameters' text: pa, pb, .. -/
def pref : Nat → List UInt8
  | 0 => []
  | n + 1 => pref n ++ [112, 97 + UInt8.ofNat n, 44, 32]
def goodT (n : Nat) : List UInt8 := [102, 40] ++ pref n ++ [46, 46, 46, 41, 32, 120, 32, 95, 95, 86, 65, 95, 65, 82, 71, 83, 95, 95]
def badT (n : Nat) : Nat → List UInt8
  | 0 => [102, 40] ++ pref n ++ [46, 46, 46, 44, 32, 122, 41, 32, 120]
  | 1 => [102, 40] ++ pref n ++ [122, 41, 32, 95, 95, 86, 65, 95, 65, 82, 71, 83, 95, 95]
  | 2 => [102, 32, 95, 95, 86, 65, 95, 65, 82, 71, 83, 95, 95]
  | 3 => [102, 40] ++ pref n ++ [46, 46, 46, 32, 120]
  | 4 => [102, 40] ++ pref n ++ [41, 32, 120]
  | 5 => [95, 95, 86, 65, 95, 65, 82, 71, 83, 95, 95, 32, 120]
  | 6 => [100, 101, 102, 105, 110, 101, 100]
  | 7 => [95, 95, 76, 73, 78, 69, 95, 95, 32, 49]
  | 8 => [95, 95, 70, 73, 76, 69, 95, 95]
  | 9 => [102, 40, 95, 95, 86, 65, 95, 65, 82, 71, 83, 95, 95, 41, 32, 120]
  | 10 => [102, 40] ++ pref n ++ [112, 97, 44, 32, 112, 97, 41, 32, 120]
  | _ => [102, 40, 49, 41, 32, 120]
def baT (l : List UInt8) : ByteArray := ⟨l.toArray⟩
def okT (T : List Xt) : Bool := decide (T.length ≤ 100) && T.all fun t => decide (t.x.size ≤ 100) && decide (t.ss.length = 0)
theorem okT_is {T : List Xt} (h : okT T = true) : T.length ≤ 500000 ∧ (∀ t ∈ T, t.ss.length ≤ 500000) ∧ ∀ t ∈ T, t.x.size ≤ maxLen := by
  unfold okT at h
  simp only [Bool.and_eq_true, decide_eq_true_eq, List.all_eq_true] at h
  exact ⟨by omega, fun t ht => by have := (h.2 t ht).2; omega, fun t ht => by have := (h.2 t ht).1; unfold maxLen; omega⟩
def goodC (n : Nat) : Bool := okT (lexT (baT (goodT n))) && match parseC (lexT (baT (goodT n))) with
  | .inl m => m.fn && m.va && decide (m.ps.length = n + 1) && decide ((m.ps[n]?.map fun x => x.data.toList) = some vaB.data.toList) && decide (idxI vaB m.ps 0 = (n : Int))
  | .inr _ => false
def badC (n i : Nat) : Bool := okT (lexT (baT (badT n i))) && match parseC (lexT (baT (badT n i))) with
  | .inl m => decide (i = 4) && decide (n = 0) && m.fn && decide (m.ps.length = 0)
  | .inr j => decide (j.c = 5) && !(decide (i = 4) && decide (n = 0))

theorem good_all : ∀ n, n < 11 → goodC n = true := by decide +kernel
theorem bad_all : ∀ n, n < 11 → ∀ i, i < 12 → badC n i = true := by decide +kernel

theorem more_good {n : Nat} (h : n < 11) : ∃ m, parseL (lexT (baT (goodT n))) = .inl m ∧ okT (lexT (baT (goodT n))) = true ∧ m.fn = true ∧ m.va = true ∧ m.ps.length = n + 1 ∧ m.ps[n]? = some vaB ∧ idxI vaB m.ps 0 = (n : Int) := by
  have hg := good_all n h
  unfold goodC at hg
  rw [← parseL_c] at hg
  cases hp : parseL (lexT (baT (goodT n))) with
  | inr i => rw [hp] at hg; simp at hg
  | inl m =>
    rw [hp] at hg
    simp only [Bool.and_eq_true, decide_eq_true_eq] at hg
    obtain ⟨h0, ⟨⟨⟨h1, h2⟩, h3⟩, h4⟩, h5⟩ := hg
    refine ⟨m, rfl, h0, h1, h2, h3, ?_, h5⟩
    rw [Option.map_eq_some_iff] at h4
    obtain ⟨x, hx, he⟩ := h4
    have e : x = vaB := ByteArray.ext (Array.toList_inj.1 he)
    rw [hx, e]
theorem more_bad {n i : Nat} (h : n < 11) (hi : i < 12) (hne : ¬ (i = 4 ∧ n = 0)) : ∃ j, parseL (lexT (baT (badT n i))) = .inr j ∧ okT (lexT (baT (badT n i))) = true ∧ j.c = 5 := by
  have hg := bad_all n h i hi
  unfold badC at hg
  rw [← parseL_c] at hg
  cases hp : parseL (lexT (baT (badT n i))) with
  | inl m =>
    rw [hp] at hg
    simp only [Bool.and_eq_true, decide_eq_true_eq] at hg
    exact absurd ⟨hg.2.1.1.1, hg.2.1.1.2⟩ hne
  | inr j =>
    rw [hp] at hg
    simp only [Bool.and_eq_true, decide_eq_true_eq] at hg
    exact ⟨j, rfl, hg.1, hg.2.1⟩
theorem more_zero : ∃ m, parseL (lexT (baT (badT 0 4))) = .inl m ∧ okT (lexT (baT (badT 0 4))) = true ∧ m.fn = true ∧ m.ps.length = 0 := by
  have hg := bad_all 0 (by omega) 4 (by omega)
  unfold badC at hg
  rw [← parseL_c] at hg
  cases hp : parseL (lexT (baT (badT 0 4))) with
  | inl m =>
    rw [hp] at hg
    simp only [Bool.and_eq_true, decide_eq_true_eq] at hg
    exact ⟨m, rfl, hg.1, hg.2.1.2, hg.2.2⟩
  | inr j =>
    rw [hp] at hg
    simp at hg

end Go.Proofs.Ytjbgikhhdhadjaa

/-
  Texts without spliced lines and trigraphs, over lists; signs in a row.
-/
namespace Go.Proofs.Ytjbgikhhdhadjaa
open Go.RowKit

/-- No byte of a text begins a trigraph, or is a backslash. -/
def Pl (l : List UInt8) : Prop := ∀ i, i < l.length → triAt l i = none ∧ l.getD i 0 ≠ 92
def plRow : List UInt8 → Nat → List Rn
  | [], _ => []
  | c :: r, k => ⟨c, k, k + 1⟩ :: plRow r (k + 1)

theorem plRow_len : ∀ (l : List UInt8) (k : Nat), (plRow l k).length = l.length
  | [], _ => rfl
  | _ :: r, k => by simp [plRow, plRow_len r (k + 1)]
theorem plRow_bytes : ∀ (l : List UInt8) (k : Nat), bytesOf (plRow l k) = l
  | [], _ => rfl
  | c :: r, k => by
    show c :: bytesOf (plRow r (k + 1)) = _
    rw [plRow_bytes r]
theorem plRow_get : ∀ (l : List UInt8) (k i : Nat), i < l.length → (plRow l k)[i]? = some ⟨l.getD i 0, k + i, k + i + 1⟩
  | [], _, i, h => by simp at h
  | c :: r, k, 0, _ => rfl
  | c :: r, k, i + 1, h => by
    have := plRow_get r (k + 1) i (by simpa using h)
    simp only [plRow, List.getElem?_cons_succ, this]
    congr 2
    · omega
    · omega

theorem chs_ofPl {l : List UInt8} (h : Pl l) : ∀ (n i : Nat), l.length - i ≤ n → chs l i = plRow (l.drop i) i
  | 0, i, hn => by
    rw [chs_end (by omega), List.drop_eq_nil_of_le (by omega)]
    rfl
  | n + 1, i, hn => by
    by_cases hi : i < l.length
    · have ht := tk_byte (h i hi).1 (h i hi).2
      rw [chs_step hi, ht, drop_cons hi]
      show [_] ++ chs l (i + 1) = _
      rw [chs_ofPl h n (i + 1) (by omega)]
      rfl
    · rw [chs_end (by omega), List.drop_eq_nil_of_le (by omega)]
      rfl

/-- A text that ends without a line's end: its bytes, and one. -/
theorem charsL_open {l : List UInt8} (h : Pl l) (h0 : 0 < l.length) (h10 : l.getD (l.length - 1) 0 ≠ 10) : charsL l = plRow l 0 ++ [⟨10, l.length, l.length⟩] := by
  have hc := chs_ofPl h l.length 0 (by omega)
  rw [List.drop_zero] at hc
  unfold charsL
  rw [if_neg (by rintro rfl; simp at h0), hc]
  unfold withNl endsNl
  rw [List.getLast?_eq_getElem?, plRow_len, plRow_get l 0 _ (by omega)]
  simp only [decide_eq_true_eq]
  rw [if_neg h10]
/-- One that ends with a line's end: its bytes. -/
theorem charsL_shut {l : List UInt8} (h : Pl l) (h0 : 0 < l.length) (h10 : l.getD (l.length - 1) 0 = 10) : charsL l = plRow l 0 := by
  have hc := chs_ofPl h l.length 0 (by omega)
  rw [List.drop_zero] at hc
  unfold charsL
  rw [if_neg (by rintro rfl; simp at h0), hc]
  unfold withNl endsNl
  rw [List.getLast?_eq_getElem?, plRow_len, plRow_get l 0 _ (by omega)]
  simp only [decide_eq_true_eq]
  rw [if_pos h10]

/-- The signs of the law. -/
def SG : List UInt8 := [91, 93, 40, 41, 123, 125, 46, 38, 42, 43, 45, 126, 33, 47, 37, 60, 62, 61, 94, 124, 63, 58, 59, 44, 35]
theorem SG_all : ∀ c ∈ SG, c ≠ 10 ∧ isWhi c = false ∧ isLet c = false ∧ isDig c = false ∧ c ≠ 34 ∧ c ≠ 39 ∧ c ≠ 92 ∧ isPun [c] = true := by decide
theorem PL_one : ∀ p ∈ PL, oneL p = some 5 := by decide +kernel

/-- Signs in a row, none of which begin a comment. -/
def Sg (s : List UInt8) : Prop := (∀ c ∈ s, c ∈ SG) ∧ ∀ i, i + 1 < s.length → ¬ (s.getD i 0 = 47 ∧ (s.getD (i + 1) 0 = 47 ∨ s.getD (i + 1) 0 = 42)) ∧ ¬ (s.getD i 0 = 63 ∧ s.getD (i + 1) 0 = 63)

theorem Sg.get {s : List UInt8} (h : Sg s) {i : Nat} (hi : i < s.length) : s.getD i 0 ∈ SG := by
  have : s.getD i 0 = s[i] := by simp [List.getD, hi]
  rw [this]
  exact h.1 _ (List.getElem_mem hi)
theorem getD_app {s : List UInt8} {i : Nat} (hi : i < s.length) : (s ++ [10]).getD i 0 = s.getD i 0 := by simp [List.getD, List.getElem?_append_left hi]
theorem getD_last (s : List UInt8) : (s ++ [10]).getD s.length 0 = 10 := by simp [List.getD]

theorem Sg.pl {s : List UInt8} (h : Sg s) : Pl s := by
  intro i hi
  refine ⟨?_, (SG_all _ (h.get hi)).2.2.2.2.2.2.1⟩
  by_cases h1 : i + 1 < s.length
  · by_cases h2 : s.getD i 0 = 63
    · exact triAt_not2 fun h3 => (h.2 i h1).2 ⟨h2, h3⟩
    · exact triAt_not h2
  · unfold triAt
    rw [if_neg (fun h2 => by omega)]

/-- What begins at a sign. -/
theorem Sg.item {s : List UInt8} (h : Sg s) {i : Nat} (hi : i < s.length) : item ((s ++ [10]).drop i) = .tk 5 (punctN ((s ++ [10]).drop i)) ∧ 0 < punctN ((s ++ [10]).drop i) := by
  have g0 := getD_drop (s ++ [10]) i 0
  have g1 := getD_drop (s ++ [10]) i 1
  rw [Nat.add_zero, getD_app hi] at g0
  obtain ⟨c10, cw, cl, cd, c34, c39, c92, cp⟩ := SG_all _ (h.get hi)
  have hnext : ((s ++ [10]).getD (i + 1) 0 = 10 ∧ i + 1 = s.length) ∨ (i + 1 < s.length ∧ (s ++ [10]).getD (i + 1) 0 = s.getD (i + 1) 0) := by
    rcases Nat.lt_or_ge (i + 1) s.length with h1 | h1
    · exact .inr ⟨h1, getD_app h1⟩
    · have : i + 1 = s.length := by omega
      rw [this]
      exact .inl ⟨getD_last s, rfl⟩
  have hp : 0 < punctN ((s ++ [10]).drop i) := by
    have := pun_ge (l := (s ++ [10]).drop i) (n := 1) (by rw [List.length_drop]; simp; omega) (by rw [drop_cons (by simp; omega), getD_app hi]; exact cp)
    omega
  have hb : begN ((s ++ [10]).drop i) = 1 := by
    unfold begN
    rw [g0, g1, if_neg c10, if_neg (by rw [cw]; simp), if_neg, if_neg]
    · rintro ⟨e, e1⟩
      rcases hnext with ⟨e2, -⟩ | ⟨h1, e2⟩
      · rw [e2] at e1; revert e1; decide
      · rw [e2] at e1; exact (h.2 i h1).1 ⟨e, .inr e1⟩
    · rintro ⟨e, e1⟩
      rcases hnext with ⟨e2, -⟩ | ⟨h1, e2⟩
      · rw [e2] at e1; revert e1; decide
      · rw [e2] at e1; exact (h.2 i h1).1 ⟨e, .inl e1⟩
  have hl0 : lettN ((s ++ [10]).drop i) = 0 := by
    unfold lettN
    rw [g0]
    rw [if_neg, if_neg]
    · rintro ⟨e | e | e, -⟩ <;> (rw [e] at cl; revert cl; decide)
    · rintro ⟨e, -⟩
      rw [e] at cl
      revert cl
      decide
  have hc : conN ((s ++ [10]).drop i) = none := by
    unfold conN
    rw [hl0, g0, if_neg c34, if_neg c39]
  have hd1 : isDig ((s ++ [10]).getD (i + 1) 0) = false := by
    rcases hnext with ⟨e2, -⟩ | ⟨h1, e2⟩
    · rw [e2]; rfl
    · rw [e2]; exact (SG_all _ (h.get h1)).2.2.2.1
  have ht : tok ((s ++ [10]).drop i) = (5, punctN ((s ++ [10]).drop i)) := by
    unfold tok
    rw [hc]
    show (if _ then _ else _) = _
    rw [g0, g1, cl, cd, hd1, if_neg (by simp), if_neg (by simp), if_pos hp]
  rw [item_tk hb, ht]
  exact ⟨rfl, hp⟩

end Go.Proofs.Ytjbgikhhdhadjaa
