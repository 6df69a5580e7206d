/-
  The document's own answer for paths, over lists of bytes: plain facts, of no program.
-/
import Derived.Lib.Bytealg
namespace Go.Proofs.YtfjdfdpelilelaaDoor

/-- A text at each slash: what is gathered, and what is still to come. -/
def partsAux : List UInt8 → List UInt8 → List (List UInt8)
  | acc, [] => [acc]
  | acc, c :: r => if c = 47 then acc :: partsAux [] r else partsAux (acc ++ [c]) r

def partsL (l : List UInt8) : List (List UInt8) := partsAux [] l

def okByte (c : UInt8) : Bool := (97 ≤ c && c ≤ 122) || (65 ≤ c && c ≤ 90) || (48 ≤ c && c ≤ 57) || c == 46 || c == 45 || c == 95

def partB (l : List UInt8) : Bool := l.all okByte && decide (1 ≤ l.length) && decide (l.length ≤ 20) && !(l == [46]) && !(l == [46, 46])

def validB (l : List UInt8) : Bool := decide (l.length ≤ 80) && (partsL l).all partB

/-- The parts that are left, from the first on. -/
def cleanGo : List (List UInt8) → List (List UInt8) → Option (List (List UInt8))
  | out, [] => some out
  | out, x :: r => if x = [] ∨ x = [46] then cleanGo out r else if x = [46, 46] then (if out = [] then none else cleanGo out.dropLast r) else cleanGo (out ++ [x]) r

/-- One slash between. -/
def joinAux : List UInt8 → List (List UInt8) → List UInt8
  | s, [] => s
  | s, x :: r => joinAux (s ++ (47 :: x)) r

def joinL : List (List UInt8) → List UInt8
  | [] => []
  | x :: r => joinAux x r

def cleanL (l : List UInt8) : Option (List UInt8) :=
  match cleanGo [] (partsL l) with
  | none => none
  | some out => if validB (joinL out) then some (joinL out) else none

/-- What stands ahead of the last slash. -/
def dirGo (l : List UInt8) : Nat → List UInt8
  | 0 => []
  | n + 1 => if l[n]? = some 47 then l.take n else dirGo l n

def dirL (l : List UInt8) : List UInt8 := dirGo l l.length

def joinPath (d p : List UInt8) : Option (List UInt8) := if p[0]? = some 47 then cleanL p else cleanL (d ++ (47 :: p))

theorem partsAux_len (acc l : List UInt8) : (partsAux acc l).length ≤ l.length + 1 := by
  induction l generalizing acc with
  | nil => simp [partsAux]
  | cons c r ih =>
    unfold partsAux
    split
    · have := ih []
      simp only [List.length_cons]
      omega
    · have := ih (acc ++ [c])
      simp only [List.length_cons]
      omega

/-- All that the parts have, together. -/
theorem partsAux_size (acc l : List UInt8) : ((partsAux acc l).map List.length).sum ≤ acc.length + l.length := by
  induction l generalizing acc with
  | nil => simp [partsAux]
  | cons c r ih =>
    unfold partsAux
    split
    · have := ih []
      simp only [List.map_cons, List.sum_cons, List.length_cons, List.length_nil] at this ⊢
      omega
    · have := ih (acc ++ [c])
      simp only [List.length_append, List.length_cons, List.length_nil] at this ⊢
      omega

end Go.Proofs.YtfjdfdpelilelaaDoor
