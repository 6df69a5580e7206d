/-
  The document's own run over the characters, over lists.
-/
import Derived.Test.YtpnboieppkjfnaaRLb
namespace Go.Proofs.Ytpnboieppkjfnaa
open Go.RowKit

/-- What is answered, once the last line's end is set. -/
def Fin (sz : Nat) (R a : Acc) : Prop := R.diags = a.diags ∧ ((a.lines = [] ∧ R.lines = []) ∨ ∃ A x, a.lines = A ++ [x] ∧ R.lines = A ++ [{ x with t := sz }])
def RMid (L : List Rn) (sz : Nat) (R : Acc) (i : Nat) (a : Acc) : Prop := i ≤ L.length ∧ Lim a i ∧ (i < L.length → fromA L sz i a = R) ∧ (i = L.length → Fin sz R a)

theorem rmid_zero (L : List Rn) (sz : Nat) : RMid L sz (linesA L sz) 0 acc0 := by
  refine ⟨Nat.zero_le _, ⟨Nat.le_refl _, Nat.le_refl _, Nat.le_refl _⟩, fun _ => rfl, fun h => ?_⟩
  have : linesA L sz = acc0 := fromA_end (L := L) (sz := sz) (i := 0) (a := acc0) (by omega)
  rw [this]
  exact ⟨rfl, .inl ⟨rfl, rfl⟩⟩

section
variable {L : List Rn} {sz : Nat} {R : Acc} {i : Nat} {a : Acc}

theorem rmid_nl (h : RMid L sz R i a) (hi : i < L.length) (h10 : (bytesOf L).getD i 0 = 10) : RMid L sz R (i + 1) (endA a (rnT L i) false) := by
  obtain ⟨-, hl, h1, -⟩ := h
  have hf := h1 hi
  have hit : item ((bytesOf L).drop i) = .nl := item_nl (begN_two' (by rw [getD_drop]; exact h10))
  rw [fromA_step hi, hit] at hf
  simp only [lenA, stepA] at hf
  obtain ⟨l1, l2, l3⟩ := hl
  refine ⟨hi, ⟨by simp [endA], by simp [endA]; omega, by simp [endA]; omega⟩, fun h2 => ?_, fun h2 => ?_⟩
  · unfold toA at hf
    rw [if_pos h2, Nat.add_sub_cancel] at hf
    exact hf
  · unfold toA at hf
    rw [if_neg (by omega), fromA_end (by omega)] at hf
    rw [← hf]
    exact ⟨rfl, .inr ⟨a.lines, _, rfl, rfl⟩⟩

/-- No item but a line's end comes to the last character's end. -/
theorem item_short (hN : Nl (bytesOf L)) (hi : i < L.length) {it : It} (hit : item ((bytesOf L).drop i) = it) (ho : it ≠ .opn) (hn : it ≠ .nl) : 0 < it.len ∧ i + it.len < L.length := by
  subst hit
  have h := item_in (l := (bytesOf L).drop i) (by rw [List.length_drop, bytesOf_len]; omega) ho
  rw [List.length_drop, bytesOf_len, getD_drop] at h
  have h3 := h.2.2 hn
  have hl := hN.2
  rw [bytesOf_len] at hl
  refine ⟨h.1, ?_⟩
  rcases Nat.lt_or_ge (i + (item ((bytesOf L).drop i)).len) L.length with h4 | h4
  · exact h4
  · refine absurd ?_ h3
    rw [show i + ((item ((bytesOf L).drop i)).len - 1) = L.length - 1 from by omega]
    exact hl

theorem rmid_on (h : RMid L sz R i a) (hi : i < L.length) {it : It} (hit : item ((bytesOf L).drop i) = it) {n : Nat} (hn : lenA L i it = n) (hs : 0 < n ∧ i + n < L.length) : RMid L sz R (i + n) (stepA L sz i a it) := by
  obtain ⟨-, hl, h1, -⟩ := h
  have hf := h1 hi
  rw [fromA_step hi, hit, hn] at hf
  exact ⟨by omega, (hl.step it).up (by omega), fun _ => hf, fun h => by omega⟩

theorem rmid_opn (h : RMid L sz R i a) (hi : i < L.length) (hit : item ((bytesOf L).drop i) = .opn) : R = endA (tellA L a 1 i (i + 2)) sz true := by
  have hf := h.2.2.1 hi
  rw [fromA_step hi, hit] at hf
  simp only [lenA, stepA] at hf
  rw [fromA_end (by omega)] at hf
  exact hf.symm

end

theorem begN_no {l : List UInt8} (h10 : l.getD 0 0 ≠ 10) (hw : isWhi (l.getD 0 0) = false) (h : ¬ (l.getD 0 0 = 47 ∧ l.getD 1 0 = 47)) (h2 : ¬ (l.getD 0 0 = 47 ∧ l.getD 1 0 = 42)) : begN l = 1 := by
  unfold begN
  rw [if_neg h10, if_neg (by rw [hw]; simp), if_neg h, if_neg h2]
theorem remN_beg {l : List UInt8} (h : l.getD 0 0 = 47) : 0 < remN l := by
  cases l with
  | nil => simp at h
  | cons c r =>
    unfold remN
    rw [if_neg (by rw [show c = 47 from h]; decide)]
    omega

/-- What the document's comment finds, and what begins there. -/
theorem rcom_cases (l : List UInt8) (i : Nat) (h10 : l.getD i 0 ≠ 10) (hw : isWhi (l.getD i 0) = false) :
    (rcom l i = (i, false) ∧ item (l.drop i) = .tk (tok (l.drop i)).1 (tok (l.drop i)).2) ∨ (∃ n, 0 < n ∧ rcom l i = (i + n, false) ∧ item (l.drop i) = .gap n) ∨ (rcom l i = (l.length, true) ∧ item (l.drop i) = .opn ∧ l.getD (i + 1) 0 = 42) := by
  have g0 := getD_drop l i 0
  have g1 := getD_drop l i 1
  rw [Nat.add_zero] at g0
  by_cases h1 : l.getD i 0 = 47 ∧ l.getD (i + 1) 0 = 47
  · have hb : begN (l.drop i) = 4 := by
      unfold begN
      rw [g0, g1, if_neg h10, if_neg (by rw [hw]; simp), if_pos h1]
    refine .inr (.inl ⟨_, remN_beg (l := l.drop i) (by rw [g0]; exact h1.1), ?_, item_rem hb⟩)
    unfold rcom
    rw [if_pos h1]
  · by_cases h2 : l.getD i 0 = 47 ∧ l.getD (i + 1) 0 = 42
    · have hb : begN (l.drop i) = 5 := by
        unfold begN
        rw [g0, g1, if_neg h10, if_neg (by rw [hw]; simp), if_neg h1, if_pos h2]
      have hr : rcom l i = comOut l.length i (comN (l.drop (i + 2))) := by
        unfold rcom
        rw [if_neg h1, if_pos h2]
      rw [hr]
      cases hc : comN (l.drop (i + 2)) with
      | none => exact .inr (.inr ⟨rfl, item_opn hb (by rw [List.drop_drop]; exact hc), h2.2⟩)
      | some n =>
        refine .inr (.inl ⟨n + 2, by omega, ?_, item_com hb (by rw [List.drop_drop]; exact hc)⟩)
        show (i + 2 + n, false) = _
        rw [show i + 2 + n = i + (n + 2) from by omega]
    · refine .inl ⟨?_, item_tk (begN_no (by rw [g0]; exact h10) (by rw [g0]; exact hw) (by rw [g0, g1]; exact h1) (by rw [g0, g1]; exact h2))⟩
      unfold rcom
      rw [if_neg h1, if_neg h2]

end Go.Proofs.Ytpnboieppkjfnaa
