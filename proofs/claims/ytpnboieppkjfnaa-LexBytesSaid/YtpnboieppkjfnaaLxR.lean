/-
  Lines of a text, over lists: the run over the characters, item by item.
-/
import Derived.Test.YtpnboieppkjfnaaLxL
namespace Go.Proofs.Ytpnboieppkjfnaa

structure Tk where
  k : Nat
  x : List UInt8
  sp : Bool
  f : Nat
  t : Nat
structure Ln where
  toks : List Tk
  f : Nat
  t : Nat
  o : Bool
structure Dg where
  c : Nat
  f : Nat
  t : Nat
structure Acc where
  fr : Nat
  sp : Bool
  toks : List Tk
  lines : List Ln
  diags : List Dg

def rnF (L : List Rn) (i : Nat) : Nat := match L[i]? with
  | some r => r.f
  | none => 0
def rnT (L : List Rn) (i : Nat) : Nat := match L[i]? with
  | some r => r.t
  | none => 0
def bytesOf (L : List Rn) : List UInt8 := L.map Rn.c

/-- Where a line ends, behind whose byte 10 (or open comment) the place i is. -/
def toA (L : List Rn) (sz i : Nat) : Nat := if i < L.length then rnT L (i - 1) else sz
def endA (a : Acc) (to : Nat) (o : Bool) : Acc := { a with fr := to, sp := false, toks := [], lines := a.lines ++ [⟨a.toks, a.fr, to, o⟩] }
def tellA (L : List Rn) (a : Acc) (c i e : Nat) : Acc := { a with diags := a.diags ++ [⟨c, rnF L i, rnT L (e - 1)⟩] }
def pushA (L : List Rn) (a : Acc) (k i n : Nat) : Acc := { a with sp := false, toks := a.toks ++ [⟨k, ((bytesOf L).drop i).take n, a.sp, rnF L i, rnT L (i + n - 1)⟩] }
def takeA (L : List Rn) (a : Acc) (k i n : Nat) : Acc := pushA L (if badN k ((bytesOf L).getD i 0) then tellA L a 2 i (i + n) else a) k i n

def lenA (L : List Rn) (i : Nat) : It → Nat
  | .nl => 1
  | .gap n => n
  | .opn => L.length - i
  | .tk _ n => n
def stepA (L : List Rn) (sz i : Nat) (a : Acc) : It → Acc
  | .nl => endA a (toA L sz (i + 1)) false
  | .gap _ => { a with sp := true }
  | .opn => endA (tellA L a 1 i (i + 2)) sz true
  | .tk k n => takeA L a k i n
def runA (L : List Rn) (sz : Nat) : Nat → Nat → Acc → Acc
  | 0, _, a => a
  | m + 1, i, a => if i < L.length then runA L sz m (i + lenA L i (item ((bytesOf L).drop i))) (stepA L sz i a (item ((bytesOf L).drop i))) else a

def acc0 : Acc := ⟨0, false, [], [], []⟩
def linesA (L : List Rn) (sz : Nat) : Acc := runA L sz L.length 0 acc0
/-- From i on. -/
def fromA (L : List Rn) (sz i : Nat) (a : Acc) : Acc := runA L sz (L.length - i) i a

theorem bytesOf_len (L : List Rn) : (bytesOf L).length = L.length := by simp [bytesOf]

theorem lenA_in {L : List Rn} {i : Nat} (hi : i < L.length) : 0 < lenA L i (item ((bytesOf L).drop i)) ∧ i + lenA L i (item ((bytesOf L).drop i)) ≤ L.length := by
  have hl : 0 < ((bytesOf L).drop i).length := by rw [List.length_drop, bytesOf_len]; omega
  have h := item_in (l := (bytesOf L).drop i) hl
  rw [List.length_drop, bytesOf_len] at h
  cases he : item ((bytesOf L).drop i) with
  | opn => simp only [lenA]; omega
  | nl => simp only [lenA]; omega
  | gap n =>
    rw [he] at h
    have := h (by simp)
    simp only [lenA, It.len] at *
    omega
  | tk k n =>
    rw [he] at h
    have := h (by simp)
    simp only [lenA, It.len] at *
    omega

theorem runA_fuel (L : List Rn) (sz : Nat) : ∀ (n m i : Nat) (a : Acc), L.length - i ≤ n → L.length - i ≤ m → runA L sz n i a = runA L sz m i a
  | 0, 0, _, _, _, _ => rfl
  | 0, m + 1, i, a, h, _ => by
    unfold runA
    rw [if_neg (by omega)]
  | n + 1, 0, i, a, _, h => by
    unfold runA
    rw [if_neg (by omega)]
  | n + 1, m + 1, i, a, h1, h2 => by
    unfold runA
    split
    · rename_i hi
      have := lenA_in hi
      exact runA_fuel L sz n m _ _ (by omega) (by omega)
    · rfl

theorem fromA_end {L : List Rn} {sz i : Nat} {a : Acc} (h : L.length ≤ i) : fromA L sz i a = a := by
  unfold fromA
  rw [show L.length - i = 0 from by omega]
  rfl
theorem fromA_step {L : List Rn} {sz i : Nat} {a : Acc} (h : i < L.length) : fromA L sz i a = fromA L sz (i + lenA L i (item ((bytesOf L).drop i))) (stepA L sz i a (item ((bytesOf L).drop i))) := by
  have hl := lenA_in h
  unfold fromA
  obtain ⟨n, hn⟩ : ∃ n, L.length - i = n + 1 := ⟨L.length - i - 1, by omega⟩
  rw [hn]
  show (if i < L.length then _ else _) = _
  rw [if_pos h]
  exact runA_fuel L sz n _ _ _ (by omega) (by omega)

end Go.Proofs.Ytpnboieppkjfnaa
