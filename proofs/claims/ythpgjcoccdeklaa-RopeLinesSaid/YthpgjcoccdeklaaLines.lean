/-
  Lines of a list of bytes: where the one behind the n-th line break begins.
-/
import Derived.Test.YthpgjcoccdeklaaTree
namespace Go.Proofs.Ythpgjcoccdeklaa

def behind : List UInt8 → Nat → Nat
  | _, 0 => 0
  | [], _ => 0
  | c :: l, n + 1 => if c = 10 then behind l n + 1 else behind l (n + 1) + 1

theorem behind_zero (l : List UInt8) : behind l 0 = 0 := by cases l <;> rfl

theorem behind_le : ∀ (l : List UInt8) (n : Nat), behind l n ≤ l.length
  | l, 0 => by rw [behind_zero]; exact Nat.zero_le _
  | [], _ + 1 => Nat.le_refl _
  | c :: l, n + 1 => by
    have h1 := behind_le l n
    have h2 := behind_le l (n + 1)
    unfold behind
    rw [List.length_cons]
    split <;> omega

theorem behind_left : ∀ (a b : List UInt8) (n : Nat), n ≤ a.count 10 → behind (a ++ b) n = behind a n
  | a, b, 0, _ => by rw [behind_zero, behind_zero]
  | [], b, n + 1, h => by simp at h
  | c :: a, b, n + 1, h => by
    rw [List.cons_append]
    unfold behind
    by_cases hc : c = 10
    · subst hc
      rw [List.count_cons_self] at h
      rw [if_pos rfl, if_pos rfl, behind_left a b n (by omega)]
    · rw [List.count_cons_of_ne hc] at h
      rw [if_neg hc, if_neg hc, behind_left a b (n + 1) h]

theorem behind_right : ∀ (a b : List UInt8) (n : Nat), a.count 10 < n → behind (a ++ b) n = a.length + behind b (n - a.count 10)
  | [], b, n, _ => by simp
  | c :: a, b, 0, h => by omega
  | c :: a, b, n + 1, h => by
    rw [List.cons_append, List.length_cons]
    by_cases hc : c = 10
    · subst hc
      rw [List.count_cons_self] at h ⊢
      have e := behind_right a b n (by omega)
      show (if (10 : UInt8) = 10 then behind (a ++ b) n + 1 else behind (a ++ b) (n + 1) + 1) = _
      rw [if_pos rfl, e, Nat.add_sub_add_right]
      omega
    · rw [List.count_cons_of_ne hc] at h ⊢
      have e := behind_right a b (n + 1) h
      show (if c = 10 then behind (a ++ b) n + 1 else behind (a ++ b) (n + 1) + 1) = _
      rw [if_neg hc, e]
      omega

/-- So many line breaks are ahead of there. -/
theorem behind_count : ∀ (l : List UInt8) (n : Nat), n ≤ l.count 10 → (l.take (behind l n)).count 10 = n
  | l, 0, _ => by rw [behind_zero]; simp
  | [], n + 1, h => by simp at h
  | c :: l, n + 1, h => by
    unfold behind
    by_cases hc : c = 10
    · subst hc
      rw [List.count_cons_self] at h
      rw [if_pos rfl, List.take_succ_cons, List.count_cons_self, behind_count l n (by omega)]
    · rw [List.count_cons_of_ne hc] at h
      rw [if_neg hc, List.take_succ_cons, List.count_cons_of_ne hc, behind_count l (n + 1) h]

/-- A line break stands right ahead of there. -/
theorem behind_ahead : ∀ (l : List UInt8) (n : Nat), 1 ≤ n → n ≤ l.count 10 → 1 ≤ behind l n ∧ l[behind l n - 1]? = some 10
  | l, 0, h, _ => by omega
  | [], n + 1, _, h => by simp at h
  | c :: l, n + 1, _, h => by
    unfold behind
    by_cases hc : c = 10
    · subst hc
      rw [List.count_cons_self] at h
      rw [if_pos rfl]
      refine ⟨by omega, ?_⟩
      rcases Nat.eq_zero_or_pos n with rfl | hn
      · rw [behind_zero]; rfl
      · have e := behind_ahead l n hn (by omega)
        obtain ⟨k, hk⟩ : ∃ k, behind l n = k + 1 := ⟨behind l n - 1, by omega⟩
        rw [hk] at e ⊢
        simpa using e.2
    · rw [List.count_cons_of_ne hc] at h
      rw [if_neg hc]
      refine ⟨by omega, ?_⟩
      have e := behind_ahead l (n + 1) (by omega) h
      obtain ⟨k, hk⟩ : ∃ k, behind l (n + 1) = k + 1 := ⟨behind l (n + 1) - 1, by omega⟩
      rw [hk] at e ⊢
      simpa using e.2

/-- The next one is behind the next line break. -/
theorem behind_step : ∀ (l : List UInt8) (n : Nat), n + 1 ≤ l.count 10 → (behind l (n + 1) : Int) = behind l n + (Lib.indexByte (l.drop (behind l n)) 10 + 1) ∧ 0 ≤ Lib.indexByte (l.drop (behind l n)) 10
  | [], n, h => by simp at h
  | c :: l, n, h => by
    by_cases hc : c = 10
    · subst hc
      rw [List.count_cons_self] at h
      cases n with
      | zero =>
        rw [behind_zero]
        simp [behind, behind_zero, Lib.indexByte]
      | succ n =>
        have e := behind_step l n (by omega)
        simp only [behind, if_true, List.drop_succ_cons]
        exact ⟨by have := e.1; omega, e.2⟩
    · rw [List.count_cons_of_ne hc] at h
      cases n with
      | zero =>
        have e := behind_step l 0 h
        rw [behind_zero] at e ⊢
        rw [List.drop_zero] at e ⊢
        have hc' : (c == 10) = false := by simpa using hc
        have hne : (Lib.indexByte l 10 == -1) = false := by
          have := e.2
          simp
          omega
        simp only [behind, if_neg hc, Lib.indexByte, hc', hne, Bool.false_eq_true, if_false]
        exact ⟨by have := e.1; omega, by omega⟩
      | succ n =>
        have e := behind_step l (n + 1) h
        simp only [behind, if_neg hc, List.drop_succ_cons]
        exact ⟨by have := e.1; omega, e.2⟩

/-- Of any place: its line begins at it or ahead of it, and no line break stands between. -/
theorem behind_place : ∀ (l : List UInt8) (k : Nat), behind l ((l.take k).count 10) ≤ k ∧ ∀ j, behind l ((l.take k).count 10) ≤ j → j < k → l[j]? ≠ some 10
  | l, 0 => by rw [List.take_zero, List.count_nil, behind_zero]; exact ⟨Nat.le_refl _, fun j _ h => by omega⟩
  | [], k + 1 => by simp [behind_zero]
  | c :: l, k + 1 => by
    have e := behind_place l k
    rw [List.take_succ_cons]
    by_cases hc : c = 10
    · subst hc
      rw [List.count_cons_self]
      simp only [behind, if_true]
      refine ⟨by omega, fun j h1 h2 => ?_⟩
      obtain ⟨i, rfl⟩ : ∃ i, j = i + 1 := ⟨j - 1, by omega⟩
      rw [List.getElem?_cons_succ]
      exact e.2 i (by omega) (by omega)
    · rw [List.count_cons_of_ne hc]
      cases hn : (l.take k).count 10 with
      | zero =>
        rw [hn, behind_zero] at e
        rw [behind_zero]
        refine ⟨Nat.zero_le _, fun j _ h2 => ?_⟩
        cases j with
        | zero => simpa using hc
        | succ i => rw [List.getElem?_cons_succ]; exact e.2 i (Nat.zero_le _) (by omega)
      | succ n =>
        rw [hn] at e
        simp only [behind, if_neg hc]
        refine ⟨by omega, fun j h1 h2 => ?_⟩
        obtain ⟨i, rfl⟩ : ∃ i, j = i + 1 := ⟨j - 1, by omega⟩
        rw [List.getElem?_cons_succ]
        exact e.2 i (by omega) (by omega)

end Go.Proofs.Ythpgjcoccdeklaa
