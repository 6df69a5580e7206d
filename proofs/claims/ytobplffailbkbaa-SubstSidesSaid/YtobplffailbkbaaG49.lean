/-
  Texts of the proof, put together: SuSd.
-/
import Derived.Test.YtobplffailbkbaaG46

/-
  SubstSides over lists.
-/
namespace Go.Proofs.Ytobplffailbkbaa
open Go.RowKit Go.Maps

/-- The text of so many names behind blanks, each of a letter and one more. -/
def sdT (c : UInt8) : Nat → ByteArray
  | 0 => ⟨#[]⟩
  | i + 1 => sdT c i ++ ⟨#[32, c]⟩ ++ ⟨#[97 + (UInt8.ofNat i)]⟩
def sdL (c : UInt8) (n : Nat) : List Xt := (List.range n).map fun i => awX 1 ⟨#[c, 97 + UInt8.ofNat i]⟩ true (3 * i + 1) (3 * i + 3)
theorem sd_rows : (List.range 11).map (fun n => lexT (sdT 120 n)) = (List.range 11).map (sdL 120) ∧ (List.range 11).map (fun n => lexT (sdT 121 n)) = (List.range 11).map (sdL 121) := by
  constructor <;> kernel_rfl
theorem sd_lex {n : Nat} (h : n < 11) : lexT (sdT 120 n) = sdL 120 n ∧ lexT (sdT 121 n) = sdL 121 n := by
  have h1 := congrArg (fun l : List (List Xt) => l[n]?) sd_rows.1
  have h2 := congrArg (fun l : List (List Xt) => l[n]?) sd_rows.2
  simp only [List.getElem?_map, List.getElem?_range h, Option.map_some, Option.some.injEq] at h1 h2
  exact ⟨h1, h2⟩
theorem sd_t : lexT ⟨#[70, 40, 112, 44, 32, 113, 41, 32, 91, 112, 35, 35, 113, 93]⟩ = [awX 1 ⟨#[70]⟩ false 0 1, awX 5 ⟨#[40]⟩ false 1 2, awX 1 ⟨#[112]⟩ false 2 3, awX 5 ⟨#[44]⟩ false 3 4, awX 1 ⟨#[113]⟩ true 5 6, awX 5 ⟨#[41]⟩ false 6 7, awX 5 ⟨#[91]⟩ true 8 9, awX 1 ⟨#[112]⟩ false 9 10, awX 5 ⟨#[35, 35]⟩ false 10 12, awX 1 ⟨#[113]⟩ false 12 13, awX 5 ⟨#[93]⟩ false 13 14] := by rfl
def sdM : Xm := ⟨⟨#[70]⟩, true, false, [⟨#[112]⟩, ⟨#[113]⟩], [awX 5 ⟨#[91]⟩ false 8 9, awX 1 ⟨#[112]⟩ false 9 10, awX 5 ⟨#[35, 35]⟩ false 10 12, awX 1 ⟨#[113]⟩ false 12 13, awX 5 ⟨#[93]⟩ false 13 14], fB, 0, 1⟩
theorem sd_p : parseL (lexT ⟨#[70, 40, 112, 44, 32, 113, 41, 32, 91, 112, 35, 35, 113, 93]⟩) = .inl sdM := by
  rw [sd_t]
  simp [parseL, headL, rowL, isX_eq, awX, resB, parB, memB, misL, illX, bareL, pasteX_eq, hashX_eq, isPar, sdM]
def sdS : Xs := ⟨⟨#[]⟩, ⟨#[]⟩, 0, 0, false⟩
def sdN (a b : Nat) : Nat := if 0 < a ∧ 0 < b then a + b - 1 else a + b
/-- The token that stands at a place between the brackets: its text, is it made, where it came from. -/
def sdW (a b i : Nat) : List UInt8 × Bool × Int :=
  if 0 < a ∧ 0 < b ∧ i + 1 = a then ([120, 97 + UInt8.ofNat i, 121, 97], true, -1)
  else if i < a then ([120, 97 + UInt8.ofNat i], false, 0)
  else ([121, 97 + UInt8.ofNat (if 0 < a ∧ 0 < b then i - a + 1 else i - a)], false, 1)
def sdB (a b : Nat) : Bool :=
  let R := bodyL sdM [sdL 120 a, sdL 121 b] [] [sdS]
  decide (R.1.length = sdN a b + 2) && decide (R.2.1.length = sdN a b + 2) && R.2.2.isEmpty && (R.1[0]?.map (fun t => t.x.data.toList) == some [91]) && (R.1[sdN a b + 1]?.map (fun t => t.x.data.toList) == some [93]) &&
    (List.range (sdN a b)).all fun i => (R.1[i + 1]?.map (fun t => (t.x.data.toList, t.d)) == some ((sdW a b i).1, (sdW a b i).2.1)) && (R.2.1[i + 1]? == some (sdW a b i).2.2)
theorem sd_all : ∀ a : _root_.Fin 11, ∀ b : _root_.Fin 11, sdB a.val b.val = true := by decide +kernel

theorem sd_fit : ∀ a : _root_.Fin 11, ∀ b : _root_.Fin 11, sumP (partL sdM [sdL 120 a.val, sdL 121 b.val] [] [sdS]) ≤ 50000 ∧ cntP (partL sdM [sdL 120 a.val, sdL 121 b.val] [] [sdS]) ≤ 400000 ∧ (partL sdM [sdL 120 a.val, sdL 121 b.val] [] [sdS]).length ≤ 100000 ∧ ∀ q ∈ partL sdM [sdL 120 a.val, sdL 121 b.val] [] [sdS], ∀ t ∈ q.T, t.ss.length ≤ 500000 := by decide +kernel
theorem sd_ok : ∀ a : _root_.Fin 11, ∀ b : _root_.Fin 11, (∀ T ∈ [sdL 120 a.val, sdL 121 b.val], T.length ≤ 100000) ∧ (∀ T ∈ [sdL 120 a.val, sdL 121 b.val], (textT (T.map escX)).length ≤ 1000000) ∧ ∀ T ∈ [sdL 120 a.val, sdL 121 b.val], ∀ t ∈ T, t.x.size ≤ 100000 := by decide +kernel
theorem sd_size : ∀ n : _root_.Fin 11, (sdT 120 n.val).size = 3 * n.val ∧ (sdT 121 n.val).size = 3 * n.val := by decide +kernel

end Go.Proofs.Ytobplffailbkbaa
