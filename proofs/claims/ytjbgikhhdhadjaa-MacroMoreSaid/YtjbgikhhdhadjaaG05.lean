/-
  Texts of the proof, put together: LxW.
-/
import Derived.Test.YtjbgikhhdhadjaaG04

/-
  Words and numbers, of the project: how long they are.
-/
namespace Go.Proofs.Ytjbgikhhdhadjaa
open Go.RowKit

theorem quiet_bool {f : FuncId} {args : Array Value} {w : World} {n : Nat} {b : Bool} (h : Calls Try.prog f args (w.drewN n) (BoolPost b (w.drewN n))) :
    Calls Try.prog f args (w.drewN n) fun e w'' => e = .returned (.bool b) ∧ ∃ m, w'' = w.drewN m :=
  h.mono fun _ _ ⟨he, hm⟩ => ⟨he, n, hm.symm⟩
theorem quiet_nat {f : FuncId} {args : Array Value} {w : World} {n : Nat} {b : Nat} (h : Calls Try.prog f args (w.drewN n) (NatPost b (w.drewN n))) :
    Calls Try.prog f args (w.drewN n) fun e w'' => e = .returned (.int .i64 (b : Int)) ∧ ∃ m, w'' = w.drewN m :=
  h.mono fun _ _ ⟨he, hm⟩ => ⟨he, n, hm.symm⟩
/-- A natural number, in a world that may have drawn. -/
def NatDrew (b : Nat) (w : World) (e : Ending) (w' : World) : Prop := e = .returned (.int .i64 (b : Int)) ∧ ∃ n, w' = w.drewN n
theorem quiet_ndrew {f : FuncId} {args : Array Value} {w : World} {n : Nat} {b : Nat} (h : Calls Try.prog f args (w.drewN n) (NatDrew b (w.drewN n))) :
    Calls Try.prog f args (w.drewN n) fun e w'' => e = .returned (.int .i64 (b : Int)) ∧ ∃ m, w'' = w.drewN m :=
  h.mono fun _ _ ⟨he, m, hm⟩ => ⟨he, n + m, by rw [hm, World.drewN_drewN]⟩

/-- A list that ends with a byte 10. -/
def Nl (l : List UInt8) : Prop := 0 < l.length ∧ l.getD (l.length - 1) 0 = 10

theorem Nl.drop {l : List UInt8} (h : Nl l) {i : Nat} (hi : i < l.length) : Nl (l.drop i) := by
  refine ⟨by rw [List.length_drop]; omega, ?_⟩
  rw [getD_drop, List.length_drop, show i + (l.length - i - 1) = l.length - 1 from by omega]
  exact h.2
theorem Nl.two {l : List UInt8} (h : Nl l) (h0 : l.getD 0 0 ≠ 10) : 1 < l.length := by
  rcases Nat.lt_or_ge 1 l.length with h1 | h1
  · exact h1
  · have e : l.length - 1 = 0 := by omega
    have := h.2
    rw [e] at this
    exact absurd this h0
theorem Nl.word {l : List UInt8} (h : Nl l) : wordN l < l.length := by
  have h1 := wordN_le l
  rcases Nat.lt_or_ge (wordN l) l.length with h2 | h2
  · exact h2
  · have h3 := wordN_in l (l.length - 1) (by have := h.1; omega)
    rw [h.2] at h3
    exact absurd h3 (by decide)
theorem Nl.num {l : List UInt8} (h : Nl l) (p : UInt8) : numN p l < l.length := by
  have h1 := numN_le p l
  rcases Nat.lt_or_ge (numN p l) l.length with h2 | h2
  · exact h2
  · exact absurd h.2 (numN_in p l (l.length - 1) (by have := h.1; omega))

theorem wordN_step {l : List UInt8} {k : Nat} (hk : k < l.length) : wordN (l.drop k) = if isWord (l.getD k 0) then wordN (l.drop (k + 1)) + 1 else 0 := by
  rw [drop_cons hk]
  rfl
theorem numN_step {l : List UInt8} {k : Nat} (p : UInt8) (hk : k < l.length) : numN p (l.drop k) = if numC p (l.getD k 0) then numN (l.getD k 0) (l.drop (k + 1)) + 1 else 0 := by
  rw [drop_cons hk]
  rfl

def WordRel (s : ByteArray) (i : Value) : Prop := ∃ k : Nat, i = .int .i64 (k : Int) ∧ 1 ≤ k ∧ k < s.size ∧ wordN (s.data.toList.drop 1) + 1 = wordN (s.data.toList.drop k) + k

theorem word_on {s : ByteArray} {k : Nat} (hN : Nl s.data.toList) (hk1 : 1 ≤ k) (hk : k < s.size) (h : wordN (s.data.toList.drop 1) + 1 = wordN (s.data.toList.drop k) + k) (hw : isWord s[k] = true) : WordRel s (.int .i64 ((k : Int) + 1)) := by
  have hl := len_byte s
  rw [wordN_step (k := k) (by omega), get_byte s k hk, if_pos hw] at h
  refine ⟨k + 1, rfl, by omega, ?_, by omega⟩
  have := (hN.drop (i := 1) (by omega)).word
  rw [List.length_drop] at this
  omega
theorem word_off {s : ByteArray} {k : Nat} (hk : k < s.size) (h : wordN (s.data.toList.drop 1) + 1 = wordN (s.data.toList.drop k) + k) (hw : isWord s[k] = false) : (k : Int) = ((wordN (s.data.toList.drop 1) + 1 : Nat) : Int) := by
  have hl := len_byte s
  rw [wordN_step (k := k) (by omega), get_byte s k hk, if_neg (by rw [hw]; simp)] at h
  omega

theorem exp_index (c : UInt8) : (0 ≤ Lib.indexByte [101, 69, 112, 80] c) = (isExp c = true) := by
  apply propext
  have e : ∀ n : Nat, n < 256 → ((UInt8.ofNat n == c) = true ↔ c.toNat = n) := by
    intro n hn
    rw [beq_iff_eq]
    constructor
    · rintro rfl
      simp
      omega
    · intro h
      apply UInt8.toNat_inj.1
      simp
      omega
  have e1 := e 101 (by omega)
  have e2 := e 69 (by omega)
  have e3 := e 112 (by omega)
  have e4 := e 80 (by omega)
  unfold isExp
  simp only [Bool.or_eq_true, decide_eq_true_eq, ← e1, ← e2, ← e3, ← e4, Lib.indexByte]
  by_cases h1 : (UInt8.ofNat 101 == c) = true
  · simp [show ((101 : UInt8) == c) = true from h1]
  · by_cases h2 : (UInt8.ofNat 69 == c) = true
    · simp [show ((69 : UInt8) == c) = true from h2, show ((101 : UInt8) == c) = false from by simpa using h1]
    · by_cases h3 : (UInt8.ofNat 112 == c) = true
      · simp [show ((112 : UInt8) == c) = true from h3, show ((101 : UInt8) == c) = false from by simpa using h1, show ((69 : UInt8) == c) = false from by simpa using h2]
      · by_cases h4 : (UInt8.ofNat 80 == c) = true
        · simp [show ((80 : UInt8) == c) = true from h4, show ((101 : UInt8) == c) = false from by simpa using h1, show ((69 : UInt8) == c) = false from by simpa using h2, show ((112 : UInt8) == c) = false from by simpa using h3]
        · simp [show ((101 : UInt8) == c) = false from by simpa using h1, show ((69 : UInt8) == c) = false from by simpa using h2, show ((112 : UInt8) == c) = false from by simpa using h3, show ((80 : UInt8) == c) = false from by simpa using h4]

def NumRel (s : ByteArray) (i : Value) : Prop := ∃ k : Nat, i = .int .i64 (k : Int) ∧ 1 ≤ k ∧ k < s.size ∧ numN (s.data.toList.getD 0 0) (s.data.toList.drop 1) + 1 = numN (s.data.toList.getD (k - 1) 0) (s.data.toList.drop k) + k

theorem num_on {s : ByteArray} {k : Nat} (hN : Nl s.data.toList) (hk1 : 1 ≤ k) (hk : k < s.size) (h : numN (s.data.toList.getD 0 0) (s.data.toList.drop 1) + 1 = numN (s.data.toList.getD (k - 1) 0) (s.data.toList.drop k) + k) (hw : numC (s.data.toList.getD (k - 1) 0) s[k] = true) : NumRel s (.int .i64 ((k : Int) + 1)) := by
  have hl := len_byte s
  rw [numN_step (k := k) _ (by omega), get_byte s k hk, if_pos hw] at h
  refine ⟨k + 1, rfl, by omega, ?_, ?_⟩
  · have := (hN.drop (i := 1) (by omega)).num (s.data.toList.getD 0 0)
    rw [List.length_drop] at this
    omega
  · rw [Nat.add_sub_cancel, get_byte s k hk]
    omega
theorem num_off {s : ByteArray} {k : Nat} (hk : k < s.size) (h : numN (s.data.toList.getD 0 0) (s.data.toList.drop 1) + 1 = numN (s.data.toList.getD (k - 1) 0) (s.data.toList.drop k) + k) (hw : numC (s.data.toList.getD (k - 1) 0) s[k] = false) : (k : Int) = ((numN (s.data.toList.getD 0 0) (s.data.toList.drop 1) + 1 : Nat) : Int) := by
  have hl := len_byte s
  rw [numN_step (k := k) _ (by omega), get_byte s k hk, if_neg (by rw [hw]; simp)] at h
  omega

theorem num_fin {s : ByteArray} {j m n : Nat} {w wr : World} {hj : j < s.size} (hN : Nl s.data.toList) (hp : s.data.toList.getD j 0 = s[j]) (hw : wr = w.drewN m) (hk1 : 1 ≤ j + 1) (hk : j + 1 < s.size) (h : numN (s.data.toList.getD 0 0) (s.data.toList.drop 1) + 1 = numN s[j] (s.data.toList.drop (j + 1)) + (j + 1)) (hx : numC s[j] s[j + 1] = true) :
    NumRel s (.int .i64 ((j : Int) + 1 + 1)) ∧ ∃ n', wr.drewN n = w.drewN n' := by
  refine ⟨?_, m + n, by rw [hw, World.drewN_drewN]⟩
  have h := num_on hN hk1 hk (by rw [Nat.add_sub_cancel, hp]; exact h) (by rw [Nat.add_sub_cancel, hp]; exact hx)
  simpa using h
theorem num_done {s : ByteArray} {j m n : Nat} {w wr : World} {hj : j < s.size} (hp : s.data.toList.getD j 0 = s[j]) (hw : wr = w.drewN m) (hk : j + 1 < s.size) (h : numN (s.data.toList.getD 0 0) (s.data.toList.drop 1) + 1 = numN s[j] (s.data.toList.drop (j + 1)) + (j + 1)) (hx : numC s[j] s[j + 1] = false) :
    NatDrew (numN (s.data.toList.getD 0 0) (s.data.toList.drop 1) + 1) w (.returned (.int .i64 ((j : Int) + 1))) (wr.drewN n) := by
  refine ⟨ret_nat ?_, m + n, by rw [hw, World.drewN_drewN]⟩
  have h := num_off hk (by rw [Nat.add_sub_cancel, hp]; exact h) (by rw [Nat.add_sub_cancel, hp]; exact hx)
  simpa using h

end Go.Proofs.Ytjbgikhhdhadjaa
