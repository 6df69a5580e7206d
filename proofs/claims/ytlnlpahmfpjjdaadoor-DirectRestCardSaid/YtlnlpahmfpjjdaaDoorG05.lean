/-
  Texts of the proof, put together: LxQ, LxT, LxK, LxR.
-/
import Derived.Test.YtlnlpahmfpjjdaaDoorG04
import Derived.Test.YtlnlpahmfpjjdaaDoorG01

/-
  A quote's end, of the project, walked.
-/
namespace Go.Proofs.YtlnlpahmfpjjdaaDoor
open Go.RowKit

end Go.Proofs.YtlnlpahmfpjjdaaDoor

/-
  constant and token of the project, walked.
-/
namespace Go.Proofs.YtlnlpahmfpjjdaaDoor
open Go.RowKit

/-- The constant at a place: its kind, and its end; 0, if there is none. -/
def conEnd (l : List UInt8) (i : Nat) : Nat := match conN (l.drop i) with
  | some x => i + x.2
  | none => 0
def conKind (l : List UInt8) (i : Nat) : Nat := if l.getD (i + lettN (l.drop i)) 0 = 34 then 4 else if l.getD (i + lettN (l.drop i)) 0 = 39 then 3 else 0

theorem con_str {l : List UInt8} {i : Nat} (h : l.getD (i + lettN (l.drop i)) 0 = 34) : conEnd l i = qEnd l 34 (i + lettN (l.drop i)) := by
  unfold conEnd conN qEnd
  rw [getD_drop, if_pos h, List.drop_drop]
  rw [show i + (lettN (l.drop i) + 1) = i + lettN (l.drop i) + 1 from by omega]
  cases qN 34 false (l.drop (i + lettN (l.drop i) + 1)) with
  | none => rfl
  | some n => simp; omega
theorem con_chr {l : List UInt8} {i : Nat} (h : l.getD (i + lettN (l.drop i)) 0 = 39) : conEnd l i = qEnd l 39 (i + lettN (l.drop i)) := by
  unfold conEnd conN qEnd
  rw [getD_drop, if_neg (by rw [h]; decide), if_pos h, List.drop_drop]
  rw [show i + (lettN (l.drop i) + 1) = i + lettN (l.drop i) + 1 from by omega]
  cases qN 39 false (l.drop (i + lettN (l.drop i) + 1)) with
  | none => rfl
  | some n => simp; omega
theorem con_no {l : List UInt8} {i : Nat} (h : l.getD (i + lettN (l.drop i)) 0 ≠ 34) (h2 : l.getD (i + lettN (l.drop i)) 0 ≠ 39) : conEnd l i = 0 := by
  unfold conEnd conN
  rw [getD_drop, if_neg h, if_neg h2]

theorem lett_lt {l : List UInt8} (hN : Nl l) : lettN l < l.length := by
  have h0 := hN.1
  rcases lettN_is l with h | h | h
  · omega
  · have : l.getD 1 0 ≠ 0 := by rcases h.2.2 with e | e <;> (rw [e]; decide)
    have := getD_lt this
    omega
  · have := getD_lt (l := l) (i := 2) (by rw [h.2.2.2]; decide)
    omega

theorem lett_ne {l : List UInt8} {i j : Nat} {q : UInt8} (hq : isWord q = false) (h1 : i ≤ j) (h2 : j < i + lettN (l.drop i)) : l.getD j 0 ≠ q := by
  intro e
  have h := lettN_in (l.drop i) (j - i) (by omega)
  rw [getD_drop, show i + (j - i) = j from by omega, e, hq] at h
  cases h

theorem ext_data (s : ByteArray) (a b : Nat) : (s.extract a b).data.toList = (s.data.toList.drop a).take (b - a) := by
  obtain ⟨⟨l⟩⟩ := s
  rw [ByteArray.extract_mk]
theorem ext_end (s : ByteArray) (a : Nat) : (s.extract a s.size).data.toList = s.data.toList.drop a := by
  rw [ext_data, List.take_of_length_le]
  rw [List.length_drop, len_byte]
  exact Nat.le_refl _

theorem tok_con {l : List UInt8} {i : Nat} (h : 0 < conEnd l i) : conKind l i = (tok (l.drop i)).1 ∧ conEnd l i = i + (tok (l.drop i)).2 := by
  unfold conEnd at h ⊢
  unfold tok
  cases hc : conN (l.drop i) with
  | none => rw [hc] at h; simp at h
  | some x =>
    refine ⟨?_, rfl⟩
    show conKind l i = x.1
    unfold conN at hc
    unfold conKind
    rw [getD_drop] at hc
    split at hc
    · rename_i h1
      rw [if_pos h1]
      rw [Option.map_eq_some_iff] at hc
      obtain ⟨n, -, rfl⟩ := hc
      rfl
    · rename_i h1
      rw [if_neg h1]
      split at hc
      · rename_i h2
        rw [if_pos h2]
        rw [Option.map_eq_some_iff] at hc
        obtain ⟨n, -, rfl⟩ := hc
        rfl
      · cases hc
theorem tok_word {l : List UInt8} {i : Nat} (h : conEnd l i = 0) (hl : isLet (l.getD i 0) = true) : tok (l.drop i) = (1, wordN ((l.drop i).drop 1) + 1) := by
  unfold conEnd at h
  unfold tok
  cases hc : conN (l.drop i) with
  | none =>
    show (if _ then _ else _) = _
    rw [getD_drop, Nat.add_zero, if_pos hl]
  | some x =>
    rw [hc] at h
    have := conN_in hc
    simp at h
    omega

end Go.Proofs.YtlnlpahmfpjjdaaDoor

/-
  token of the project, walked.
-/
namespace Go.Proofs.YtlnlpahmfpjjdaaDoor
open Go.RowKit

theorem ext_size (s : ByteArray) (a : Nat) : (s.extract a s.size).size = s.size - a := by rw [ByteArray.size_extract]; omega

theorem tok_con_no {l : List UInt8} {i : Nat} (h : conEnd l i = 0) : conN (l.drop i) = none := by
  unfold conEnd at h
  cases hc : conN (l.drop i) with
  | none => rfl
  | some x =>
    rw [hc] at h
    have := conN_in hc
    simp at h
    omega
theorem tok_dig {l : List UInt8} {i : Nat} (h : conEnd l i = 0) (hl : isLet ((l.drop i).getD 0 0) = false) (hd : (isDig ((l.drop i).getD 0 0) || (decide ((l.drop i).getD 0 0 = 46) && isDig ((l.drop i).getD 1 0))) = true) : tok (l.drop i) = (2, numN ((l.drop i).getD 0 0) ((l.drop i).drop 1) + 1) := by
  unfold tok
  rw [tok_con_no h]
  show (if _ then _ else _) = _
  rw [if_neg (by rw [hl]; simp), if_pos hd]
theorem tok_pun {l : List UInt8} {i : Nat} (h : conEnd l i = 0) (hl : isLet ((l.drop i).getD 0 0) = false) (hd : (isDig ((l.drop i).getD 0 0) || (decide ((l.drop i).getD 0 0 = 46) && isDig ((l.drop i).getD 1 0))) = false) (hp : 0 < punctN (l.drop i)) : tok (l.drop i) = (5, punctN (l.drop i)) := by
  unfold tok
  rw [tok_con_no h]
  show (if _ then _ else _) = _
  rw [if_neg (by rw [hl]; simp), if_neg (by rw [hd]; simp), if_pos hp]
theorem tok_oth {l : List UInt8} {i : Nat} (h : conEnd l i = 0) (hl : isLet ((l.drop i).getD 0 0) = false) (hd : (isDig ((l.drop i).getD 0 0) || (decide ((l.drop i).getD 0 0 = 46) && isDig ((l.drop i).getD 1 0))) = false) (hp : punctN (l.drop i) = 0) : tok (l.drop i) = (6, 1) := by
  unfold tok
  rw [tok_con_no h]
  show (if _ then _ else _) = _
  rw [if_neg (by rw [hl]; simp), if_neg (by rw [hd]; simp), if_neg (by omega)]

end Go.Proofs.YtlnlpahmfpjjdaaDoor

/-
  Lines of a text, over lists: the run over the characters, item by item.
-/
namespace Go.Proofs.YtlnlpahmfpjjdaaDoor

structure Tk where
  k : Nat
  x : List UInt8
  sp : Bool
  f : Nat
  t : Nat
structure Ln where
  toks : List Tk
  f : Nat
  t : Nat
  o : Bool
structure Dg where
  c : Nat
  f : Nat
  t : Nat
structure Acc where
  fr : Nat
  sp : Bool
  toks : List Tk
  lines : List Ln
  diags : List Dg

def rnF (L : List Rn) (i : Nat) : Nat := match L[i]? with
  | some r => r.f
  | none => 0
def rnT (L : List Rn) (i : Nat) : Nat := match L[i]? with
  | some r => r.t
  | none => 0
def bytesOf (L : List Rn) : List UInt8 := L.map Rn.c

/-- Where a line ends, behind whose byte 10 (or open comment) the place i is. -/
def toA (L : List Rn) (sz i : Nat) : Nat := if i < L.length then rnT L (i - 1) else sz
def endA (a : Acc) (to : Nat) (o : Bool) : Acc := { a with fr := to, sp := false, toks := [], lines := a.lines ++ [⟨a.toks, a.fr, to, o⟩] }
def tellA (L : List Rn) (a : Acc) (c i e : Nat) : Acc := { a with diags := a.diags ++ [⟨c, rnF L i, rnT L (e - 1)⟩] }
def pushA (L : List Rn) (a : Acc) (k i n : Nat) : Acc := { a with sp := false, toks := a.toks ++ [⟨k, ((bytesOf L).drop i).take n, a.sp, rnF L i, rnT L (i + n - 1)⟩] }
def takeA (L : List Rn) (a : Acc) (k i n : Nat) : Acc := pushA L (if badN k ((bytesOf L).getD i 0) then tellA L a 2 i (i + n) else a) k i n

def lenA (L : List Rn) (i : Nat) : It → Nat
  | .nl => 1
  | .gap n => n
  | .opn => L.length - i
  | .tk _ n => n
def stepA (L : List Rn) (sz i : Nat) (a : Acc) : It → Acc
  | .nl => endA a (toA L sz (i + 1)) false
  | .gap _ => { a with sp := true }
  | .opn => endA (tellA L a 1 i (i + 2)) sz true
  | .tk k n => takeA L a k i n
def runA (L : List Rn) (sz : Nat) : Nat → Nat → Acc → Acc
  | 0, _, a => a
  | m + 1, i, a => if i < L.length then runA L sz m (i + lenA L i (item ((bytesOf L).drop i))) (stepA L sz i a (item ((bytesOf L).drop i))) else a

def acc0 : Acc := ⟨0, false, [], [], []⟩
def linesA (L : List Rn) (sz : Nat) : Acc := runA L sz L.length 0 acc0
/-- From i on. -/
def fromA (L : List Rn) (sz i : Nat) (a : Acc) : Acc := runA L sz (L.length - i) i a

theorem bytesOf_len (L : List Rn) : (bytesOf L).length = L.length := by simp [bytesOf]

theorem lenA_in {L : List Rn} {i : Nat} (hi : i < L.length) : 0 < lenA L i (item ((bytesOf L).drop i)) ∧ i + lenA L i (item ((bytesOf L).drop i)) ≤ L.length := by
  have hl : 0 < ((bytesOf L).drop i).length := by rw [List.length_drop, bytesOf_len]; omega
  have h := item_in (l := (bytesOf L).drop i) hl
  rw [List.length_drop, bytesOf_len] at h
  cases he : item ((bytesOf L).drop i) with
  | opn => simp only [lenA]; omega
  | nl => simp only [lenA]; omega
  | gap n =>
    rw [he] at h
    have := h (by simp)
    simp only [lenA, It.len] at *
    omega
  | tk k n =>
    rw [he] at h
    have := h (by simp)
    simp only [lenA, It.len] at *
    omega

theorem runA_fuel (L : List Rn) (sz : Nat) : ∀ (n m i : Nat) (a : Acc), L.length - i ≤ n → L.length - i ≤ m → runA L sz n i a = runA L sz m i a
  | 0, 0, _, _, _, _ => rfl
  | 0, m + 1, i, a, h, _ => by
    unfold runA
    rw [if_neg (by omega)]
  | n + 1, 0, i, a, _, h => by
    unfold runA
    rw [if_neg (by omega)]
  | n + 1, m + 1, i, a, h1, h2 => by
    unfold runA
    split
    · rename_i hi
      have := lenA_in hi
      exact runA_fuel L sz n m _ _ (by omega) (by omega)
    · rfl

theorem fromA_end {L : List Rn} {sz i : Nat} {a : Acc} (h : L.length ≤ i) : fromA L sz i a = a := by
  unfold fromA
  rw [show L.length - i = 0 from by omega]
  rfl
theorem fromA_step {L : List Rn} {sz i : Nat} {a : Acc} (h : i < L.length) : fromA L sz i a = fromA L sz (i + lenA L i (item ((bytesOf L).drop i))) (stepA L sz i a (item ((bytesOf L).drop i))) := by
  have hl := lenA_in h
  unfold fromA
  obtain ⟨n, hn⟩ : ∃ n, L.length - i = n + 1 := ⟨L.length - i - 1, by omega⟩
  rw [hn]
  show (if i < L.length then _ else _) = _
  rw [if_pos h]
  exact runA_fuel L sz n _ _ _ (by omega) (by omega)

end Go.Proofs.YtlnlpahmfpjjdaaDoor
