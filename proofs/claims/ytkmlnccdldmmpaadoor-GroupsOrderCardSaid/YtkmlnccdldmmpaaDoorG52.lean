/-
  Texts of the proof, put together: GrOrdC.
-/
import Derived.Test.YtkmlnccdldmmpaaDoorG51

/-
  Each line that is left in stands once, and in order; what is out of place is told: a round of the law, over lists.
-/
namespace Go.Proofs.YtkmlnccdldmmpaaDoor

theorem kept_app : ∀ (a b : List (Nat × Bool)) (s : Bs) (i : Nat), keptL s i (a ++ b) = keptL s i a ++ keptL (runB s i a) (i + a.length) b
  | [], _, _, _ => rfl
  | (k, ne) :: r, b, s, i => by
    rw [List.cons_append, keptL, keptL, runB, kept_app r b, List.append_assoc, List.length_cons, show i + 1 + r.length = i + (r.length + 1) from by omega]
theorem odd_app : ∀ (a b : List (Nat × Bool)) (s : Bs) (i : Nat), oddN s i (a ++ b) = oddN s i a + oddN (runB s i a) (i + a.length) b
  | [], b, _, _ => by simp [oddN, runB]
  | (k, ne) :: r, b, s, i => by
    rw [List.cons_append, oddN, oddN, runB, odd_app r b, List.length_cons, show i + 1 + r.length = i + (r.length + 1) from by omega]
    omega
theorem end_app : ∀ (a b : List (Nat × Bool)), endN (a ++ b) = endN a + endN b
  | [], b => by simp [endN]
  | (k, ne) :: r, b => by
    rw [List.cons_append, endN, endN, end_app r b]
    omega

def keptN (K : List (Nat × Bool)) (k : Nat) : Nat := (keptL bs0 0 (K.take k)).length
def oddK (K : List (Nat × Bool)) (k : Nat) : Nat := oddN bs0 0 (K.take k)
def endK (K : List (Nat × Bool)) (k : Nat) : Nat := endN (K.take k)
section
variable {K : List (Nat × Bool)} {k kd : Nat} {ne : Bool}

theorem kept_one (h : K[k]? = some (kd, ne)) : keptL bs0 0 (K.take (k + 1)) = keptL bs0 0 (K.take k) ++ (if keptB (runB bs0 0 (K.take k)) kd ne then [(k : Int)] else []) := by
  have hk := (List.getElem?_eq_some_iff.1 h).1
  rw [take_one h, kept_app, List.length_take, Nat.min_eq_left (by omega), Nat.zero_add, keptL, keptL, List.append_nil]
theorem odd_one (h : K[k]? = some (kd, ne)) : oddK K (k + 1) = oddK K k + (if keptB (runB bs0 0 (K.take k)) kd ne = false ∧ (kd = 5 ∨ kd = 6) then 1 else 0) := by
  have hk := (List.getElem?_eq_some_iff.1 h).1
  unfold oddK
  rw [take_one h, odd_app, List.length_take, Nat.min_eq_left (by omega), Nat.zero_add, oddN, oddN]
  omega
theorem end_one (h : K[k]? = some (kd, ne)) : endK K (k + 1) = endK K k + (if kd = 7 then 1 else 0) := by
  unfold endK
  rw [take_one h, end_app, endN, endN]
  omega
theorem kept_split (k : Nat) (hk : k ≤ K.length) : keptL bs0 0 K = keptL bs0 0 (K.take k) ++ keptL (runB bs0 0 (K.take k)) k (K.drop k) := by
  have := kept_app (K.take k) (K.drop k) bs0 0
  rw [List.take_append_drop, List.length_take, Nat.min_eq_left hk, Nat.zero_add] at this
  exact this
/-- A line that is left in: the next one of the flat list. -/
theorem keptN_in (h : K[k]? = some (kd, ne)) (hb : keptB (runB bs0 0 (K.take k)) kd ne = true) : (keptL bs0 0 K)[keptN K k]? = some (k : Int) ∧ keptN K (k + 1) = keptN K k + 1 ∧ oddK K (k + 1) = oddK K k ∧ endK K (k + 1) = endK K k := by
  have hk := (List.getElem?_eq_some_iff.1 h).1
  have h1 := kept_one h
  rw [hb, if_pos rfl] at h1
  have h7 : kd ≠ 7 := by
    intro e
    subst e
    have h2 : keptB (runB bs0 0 (K.take k)) 7 ne = false := by
      unfold keptB
      rw [if_neg (by omega)]
      split
      · rfl
      · rw [if_neg (by simp), if_neg (by omega), if_pos rfl]
    rw [h2] at hb
    cases hb
  refine ⟨?_, by unfold keptN; rw [h1, List.length_append]; rfl, by rw [odd_one h, hb, if_neg (by simp)]; rfl, by rw [end_one h, if_neg h7]; rfl⟩
  rw [kept_split (k + 1) hk, h1]
  unfold keptN
  rw [List.getElem?_append_left (by simp), List.getElem?_append_right (Nat.le_refl _), Nat.sub_self]
  rfl
/-- A line that is not. -/
theorem keptN_out (h : K[k]? = some (kd, ne)) (hb : keptB (runB bs0 0 (K.take k)) kd ne = false) : (∀ x, (keptL bs0 0 K)[keptN K k]? = some x → x ≠ (k : Int)) ∧ keptN K (k + 1) = keptN K k ∧ oddK K (k + 1) = oddK K k + (if kd = 5 ∨ kd = 6 then 1 else 0) ∧ endK K (k + 1) = endK K k + (if kd = 7 then 1 else 0) := by
  have hk := (List.getElem?_eq_some_iff.1 h).1
  have h1 := kept_one h
  rw [hb, if_neg (by simp), List.append_nil] at h1
  refine ⟨fun x hx => ?_, by unfold keptN; rw [h1], ?_, end_one h⟩
  · rw [kept_split (k + 1) hk, h1] at hx
    unfold keptN at hx
    rw [List.getElem?_append_right (Nat.le_refl _)] at hx
    have := kept_ge _ _ _ x (List.mem_of_getElem? hx)
    omega
  · rw [odd_one h, hb]
    by_cases h5 : kd = 5 ∨ kd = 6
    · rw [if_pos h5, if_pos ⟨rfl, h5⟩]
    · rw [if_neg h5, if_neg fun h => h5 h.2]
end
theorem kept_all (K : List (Nat × Bool)) : keptN K K.length = (keptL bs0 0 K).length := by unfold keptN; rw [List.take_length]
theorem kept_le (K : List (Nat × Bool)) (k : Nat) : keptN K k ≤ k := by
  have h1 := kept_few (K.take k) bs0 0
  rw [List.length_take] at h1
  unfold keptN
  omega
theorem odd_few : ∀ (K : List (Nat × Bool)) (s : Bs) (i : Nat), oddN s i K ≤ K.length
  | [], _, _ => Nat.le_refl _
  | (k, ne) :: r, s, i => by
    have := odd_few r (stepB s i k ne) (i + 1)
    rw [oddN, List.length_cons]
    split <;> omega
theorem end_few : ∀ (K : List (Nat × Bool)), endN K ≤ K.length
  | [] => Nat.le_refl _
  | (k, ne) :: r => by
    have := end_few r
    rw [endN, List.length_cons]
    split <;> omega
theorem odd_le (K : List (Nat × Bool)) (k : Nat) : oddK K k ≤ k := by
  have h1 := odd_few (K.take k) bs0 0
  rw [List.length_take] at h1
  unfold oddK
  omega
theorem end_le (K : List (Nat × Bool)) (k : Nat) : endK K k ≤ k := by
  have h1 := end_few (K.take k)
  rw [List.length_take] at h1
  unfold endK
  omega

/-- How many lines are told to stand out of place. -/
def outN (T : List Dg) : Nat := (T.filter fun d => d.c == 12).length
theorem out_app (a b : List Dg) : outN (a ++ b) = outN a + outN b := by unfold outN; rw [List.filter_append, List.length_append]
theorem out_map {α : Type} (l : List α) (d : Dg) : outN (l.map fun _ => d) = if d.c = 12 then l.length else 0 := by
  induction l with
  | nil => unfold outN; split <;> rfl
  | cons a r ih =>
    rw [List.map_cons, show (d :: r.map fun _ => d) = [d] ++ r.map fun _ => d from rfl, out_app, ih, List.length_cons]
    unfold outN
    by_cases h : d.c = 12
    · rw [if_pos h, if_pos h]
      simp [h]
      omega
    · rw [if_neg h, if_neg h]
      simp [h]
theorem below_one (l : List Nat) (n : Nat) : (l.filter (· < n + 1)).length = (l.filter (· < n)).length + (l.filter (· == n)).length := by
  induction l with
  | nil => rfl
  | cons a r ih =>
    rcases Nat.lt_trichotomy a n with h | h | h
    · rw [List.filter_cons, List.filter_cons, List.filter_cons, if_pos (by simp; omega), if_pos (by simp; omega), if_neg (by simp; omega), List.length_cons, List.length_cons, ih]
      omega
    · rw [List.filter_cons, List.filter_cons, List.filter_cons, if_pos (by simp; omega), if_neg (by simp; omega), if_pos (by simp; omega), List.length_cons, List.length_cons, ih]
      omega
    · rw [List.filter_cons, List.filter_cons, List.filter_cons, if_neg (by simp; omega), if_neg (by simp; omega), if_neg (by simp; omega), ih]
theorem out_doc (bad opn : List Nat) (lines : List Ln) (n : Nat) : outN (docD bad opn lines n) = (bad.filter (· < n)).length := by
  induction n with
  | zero =>
    have e : bad.filter (· < 0) = [] := List.filter_eq_nil_iff.2 fun b _ => by simp
    rw [e]
    rfl
  | succ n ih =>
    rw [doc_snoc, out_app, out_app, ih, below_one]
    unfold tellB
    have e1 : (dgOf 12 (lnD lines n)).c = 12 := rfl
    have e2 : ¬ (dgOf 13 (lnD lines n)).c = 12 := by
      show ¬ (13 : Int).toNat = 12
      decide
    rw [out_map, out_map, if_pos e1, if_neg e2]
    rfl
theorem out_tells (lines : List Ln) : outN (tells lines) = (runB bs0 0 (ksOf lines)).bad.length := by
  have hf := fine_run (ksOf lines) bs0 0 fine_zero
  rw [← doc_tells, out_doc, List.filter_eq_self.2]
  intro b hb
  have := hf.bad b hb
  have e : (ksOf lines).length = lines.length := by unfold ksOf; rw [List.length_map]
  simp
  omega
theorem out_between (lines : List Ln) : oddK (ksOf lines) lines.length ≤ outN (tells lines) ∧ outN (tells lines) ≤ oddK (ksOf lines) lines.length + endK (ksOf lines) lines.length := by
  obtain ⟨b, h1, h2, h3⟩ := bad_run (ksOf lines) bs0 0
  have e : (ksOf lines).length = lines.length := by unfold ksOf; rw [List.length_map]
  unfold oddK endK
  rw [out_tells, ← e, List.take_length, h1]
  have e0 : bs0.bad.length = 0 := rfl
  omega

end Go.Proofs.YtkmlnccdldmmpaaDoor
