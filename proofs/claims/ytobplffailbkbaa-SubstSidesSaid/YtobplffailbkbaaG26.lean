/-
  Texts of the proof, put together: AgUnL, AgUnM.
-/
import Derived.Test.YtobplffailbkbaaG25
import Derived.Test.YtobplffailbkbaaG18

/-
  A string read as a text, over lists: both ways of it.
-/
namespace Go.Proofs.Ytobplffailbkbaa
open Go.RowKit

/-- Backslashes left out. -/
def plnL : List UInt8 → List UInt8
  | [] => []
  | [c] => [c]
  | c :: d :: r => if decide (c = 92) && specB d then d :: plnL r else c :: plnL (d :: r)
theorem pln_yes {d : UInt8} (h : specB d = true) (r : List UInt8) : plnL (92 :: d :: r) = d :: plnL r := by
  show (if decide ((92 : UInt8) = 92) && specB d then _ else _) = _
  rw [h]
  rfl
theorem pln_one {c : UInt8} (h : c ≠ 92) (r : List UInt8) : plnL (c :: r) = c :: plnL r := by
  cases r with
  | nil => rfl
  | cons d r =>
    show (if decide (c = 92) && specB d then _ else _) = _
    rw [decide_eq_false h]
    rfl
theorem pln_no {d : UInt8} (h : specB d = false) (r : List UInt8) : plnL (92 :: d :: r) = 92 :: plnL (d :: r) := by
  show (if decide ((92 : UInt8) = 92) && specB d then _ else _) = _
  rw [h]
  rfl
theorem pln_le : ∀ l : List UInt8, (plnL l).length ≤ l.length
  | [] => Nat.le_refl _
  | [c] => Nat.le_refl _
  | c :: d :: r => by
    have h1 := pln_le r
    have h2 := pln_le (d :: r)
    show (if decide (c = 92) && specB d then d :: plnL r else c :: plnL (d :: r)).length ≤ _
    split
    · simp only [List.length_cons]; omega
    · simp only [List.length_cons] at h2 ⊢; omega

/-- What may stand between quotes is read so. -/
theorem unq_some : ∀ (l : List UInt8), (unqL l).isSome = true → unqL l = some (plnL l) ∧ ∀ y, qN 34 false (l ++ 34 :: y) = some (l.length + 1)
  | [], _ => ⟨rfl, fun y => rfl⟩
  | [c], h => by
    have h : (if c = 34 ∨ c = 10 ∨ c = 92 then none else some [c] : Option (List UInt8)).isSome = true := h
    by_cases hc : c = 34 ∨ c = 10 ∨ c = 92
    · rw [if_pos hc] at h; cases h
    · refine ⟨?_, fun y => ?_⟩
      · show (if c = 34 ∨ c = 10 ∨ c = 92 then none else some [c]) = _
        rw [if_neg hc]; rfl
      · show (if c = 10 then none else if false = true then _ else if c = 92 then _ else if c = 34 then some 1 else (qN 34 false (34 :: y)).map (· + 1)) = _
        rw [if_neg (fun e => hc (.inr (.inl e))), if_neg (by simp), if_neg (fun e => hc (.inr (.inr e))), if_neg (fun e => hc (.inl e))]
        rfl
  | c :: d :: r, h => by
    have e : unqL (c :: d :: r) = (if c = 34 ∨ c = 10 then none else if c ≠ 92 then (unqL (d :: r)).map (c :: ·) else if d = 34 ∨ d = 92 then (unqL r).map (d :: ·) else if d = 10 then none else (unqL r).map fun q => 92 :: d :: q) := rfl
    rw [e] at h ⊢
    by_cases hc : c = 34 ∨ c = 10
    · rw [if_pos hc] at h; cases h
    · rw [if_neg hc] at h ⊢
      by_cases h9 : c = 92
      · subst h9
        rw [if_neg (by simp)] at h ⊢
        have hq : ∀ y, d ≠ 10 → qN 34 false (r ++ 34 :: y) = some (r.length + 1) → qN 34 false ((92 :: d :: r) ++ 34 :: y) = some ((92 :: d :: r).length + 1) := by
          intro y hd hy
          show (if (92 : UInt8) = 10 then none else if false = true then _ else if (92 : UInt8) = 92 then ((if d = 10 then none else if true = true then (qN 34 false (r ++ 34 :: y)).map (· + 1) else _).map (· + 1)) else _) = _
          rw [if_neg (by decide), if_neg (by simp), if_pos rfl, if_neg hd, if_pos rfl, hy]
          rfl
        by_cases hs : d = 34 ∨ d = 92
        · rw [if_pos hs] at h ⊢
          have hr : (unqL r).isSome = true := by simpa using h
          obtain ⟨g1, g2⟩ := unq_some r hr
          refine ⟨?_, fun y => hq y (by rcases hs with rfl | rfl <;> decide) (g2 y)⟩
          rw [g1, pln_yes (by unfold specB; simpa using hs)]
          rfl
        · rw [if_neg hs] at h ⊢
          by_cases hd : d = 10
          · rw [if_pos hd] at h; cases h
          · rw [if_neg hd] at h ⊢
            have hr : (unqL r).isSome = true := by simpa using h
            obtain ⟨g1, g2⟩ := unq_some r hr
            refine ⟨?_, fun y => hq y hd (g2 y)⟩
            rw [g1, pln_no (by unfold specB; simpa using hs), pln_one (fun e => hs (.inr e))]
            rfl
      · rw [if_pos h9] at h ⊢
        have hr : (unqL (d :: r)).isSome = true := by simpa using h
        obtain ⟨g1, g2⟩ := unq_some (d :: r) hr
        refine ⟨by rw [g1, pln_one h9]; rfl, fun y => ?_⟩
        show (if c = 10 then none else if false = true then _ else if c = 92 then _ else if c = 34 then some 1 else (qN 34 false ((d :: r) ++ 34 :: y)).map (· + 1)) = _
        rw [if_neg (fun e => hc (.inr e)), if_neg (by simp), if_neg h9, if_neg (fun e => hc (.inl e)), g2 y]
        rfl
/-- .. and what is read so may. -/
theorem unq_of : ∀ (x : List UInt8), qN 34 false (x ++ [10]) = some x.length → ∃ l, x = l ++ [34] ∧ (unqL l).isSome = true
  | [], h => by cases h
  | [c], h => by
    have h : (if c = 10 then none else if false = true then _ else if c = 92 then (qN 34 true [10]).map (· + 1) else if c = 34 then some 1 else (qN 34 false [10]).map (· + 1)) = some 1 := h
    by_cases h1 : c = 10
    · rw [if_pos h1] at h; cases h
    · rw [if_neg h1, if_neg (by simp)] at h
      by_cases h2 : c = 92
      · rw [if_pos h2] at h; cases h
      · rw [if_neg h2] at h
        by_cases h3 : c = 34
        · subst h3; exact ⟨[], rfl, rfl⟩
        · rw [if_neg h3] at h; cases h
  | c :: d :: r, h => by
    have h : (if c = 10 then none else if false = true then _ else if c = 92 then (qN 34 true ((d :: r) ++ [10])).map (· + 1) else if c = 34 then some 1 else (qN 34 false ((d :: r) ++ [10])).map (· + 1)) = some (r.length + 2) := h
    by_cases h1 : c = 10
    · rw [if_pos h1] at h; cases h
    · rw [if_neg h1, if_neg (by simp)] at h
      by_cases h2 : c = 92
      · subst h2
        rw [if_pos rfl] at h
        have h : ((if d = 10 then none else if true = true then (qN 34 false (r ++ [10])).map (· + 1) else _).map (· + 1)) = some (r.length + 2) := h
        by_cases h3 : d = 10
        · rw [if_pos h3] at h; cases h
        · rw [if_neg h3, if_pos rfl] at h
          have hr : qN 34 false (r ++ [10]) = some r.length := by
            cases hq : qN 34 false (r ++ [10]) with
            | none => rw [hq] at h; cases h
            | some n => rw [hq] at h; simp at h; rw [h]
          obtain ⟨l, rfl, hl⟩ := unq_of r hr
          refine ⟨92 :: d :: l, rfl, ?_⟩
          show (if (92 : UInt8) = 34 ∨ (92 : UInt8) = 10 then none else if (92 : UInt8) ≠ 92 then _ else if d = 34 ∨ d = 92 then (unqL l).map (d :: ·) else if d = 10 then none else (unqL l).map fun q => 92 :: d :: q : Option (List UInt8)).isSome = true
          rw [if_neg (by decide), if_neg (by simp), if_neg h3]
          split <;> simpa using hl
      · rw [if_neg h2] at h
        by_cases h3 : c = 34
        · rw [if_pos h3] at h; simp at h
        · rw [if_neg h3] at h
          have hr : qN 34 false ((d :: r) ++ [10]) = some (d :: r).length := by
            cases hq : qN 34 false ((d :: r) ++ [10]) with
            | none => rw [hq] at h; cases h
            | some n => rw [hq] at h; simp at h; rw [h]; rfl
          obtain ⟨l, hl1, hl⟩ := unq_of (d :: r) hr
          refine ⟨c :: l, by rw [hl1]; rfl, ?_⟩
          cases l with
          | nil =>
            show (if c = 34 ∨ c = 10 ∨ c = 92 then none else some [c] : Option (List UInt8)).isSome = true
            rw [if_neg (by intro e; rcases e with e | e | e; exact h3 e; exact h1 e; exact h2 e)]
            rfl
          | cons e l =>
            show (if c = 34 ∨ c = 10 then none else if c ≠ 92 then (unqL (e :: l)).map (c :: ·) else _ : Option (List UInt8)).isSome = true
            rw [if_neg (by intro e; rcases e with e | e; exact h3 e; exact h1 e), if_pos h2]
            simpa using hl

end Go.Proofs.Ytobplffailbkbaa

/-
  A string is one token, and what the document asks of it: the same, over lists.
-/
namespace Go.Proofs.Ytobplffailbkbaa
open Go.RowKit

def isPre (p : List UInt8) : Prop := p = [] ∨ p = [76] ∨ p = [117] ∨ p = [85] ∨ p = [117, 56]
/-- A constant as a whole: letters, a quote, what is between, a quote. -/
def conS (q : UInt8) (p i : List UInt8) : List UInt8 := p ++ q :: (i ++ [q])
/-- How many letters a constant has ahead of its quote. -/
def aheadQ (q : UInt8) (l : List UInt8) : Option Nat :=
  if 2 ≤ l.length ∧ l.getD 0 0 = q ∧ l.getD (l.length - 1) 0 = q then some 0
  else if 3 ≤ l.length ∧ (l.getD 0 0 = 76 ∨ l.getD 0 0 = 117 ∨ l.getD 0 0 = 85) ∧ l.getD 1 0 = q ∧ l.getD (l.length - 1) 0 = q then some 1
  else if 4 ≤ l.length ∧ l.getD 0 0 = 117 ∧ l.getD 1 0 = 56 ∧ l.getD 2 0 = q ∧ l.getD (l.length - 1) 0 = q then some 2 else none

theorem last_q {r : List UInt8} {q : UInt8} (h1 : 1 ≤ r.length) (h : r.getD (r.length - 1) 0 = q) : ∃ i, r = i ++ [q] := by
  refine ⟨r.dropLast, ?_⟩
  have hne : r ≠ [] := by intro e; rw [e] at h1; simp at h1
  have hl := List.dropLast_concat_getLast hne
  have : r.getLast hne = q := by
    rw [List.getLast_eq_getElem, ← h]
    simp [List.getD, List.getElem?_eq_getElem (show r.length - 1 < r.length by omega)]
  rw [this] at hl
  exact hl.symm
theorem ahead_some {q : UInt8} {l : List UInt8} {n : Nat} (h : aheadQ q l = some n) : ∃ p i, isPre p ∧ p.length = n ∧ l = conS q p i := by
  unfold aheadQ at h
  split at h
  · rename_i c
    obtain ⟨h1, h2, h3⟩ := c
    simp only [Option.some.injEq] at h
    subst h
    match l, h1, h2, h3 with
    | a :: r, h1, h2, h3 =>
      have ha : a = q := h2
      subst ha
      simp only [List.length_cons] at h1
      obtain ⟨i, rfl⟩ := last_q (r := r) (q := a) (by omega) (by
        rw [List.length_cons, Nat.add_sub_cancel] at h3
        rw [← h3]
        have : r.length = (r.length - 1) + 1 := by omega
        rw [this, List.getD_cons_succ]
        simp)
      exact ⟨[], i, .inl rfl, rfl, rfl⟩
  · split at h
    · rename_i c
      obtain ⟨h1, h0, h2, h3⟩ := c
      simp only [Option.some.injEq] at h
      subst h
      match l, h1, h0, h2, h3 with
      | b :: a :: r, h1, h0, h2, h3 =>
        have ha : a = q := h2
        have h0 : b = 76 ∨ b = 117 ∨ b = 85 := h0
        subst ha
        simp only [List.length_cons] at h1
        obtain ⟨i, rfl⟩ := last_q (r := r) (q := a) (by omega) (by
          have e : (b :: a :: r).length - 1 = (r.length - 1) + 1 + 1 := by simp only [List.length_cons]; omega
          rw [e, List.getD_cons_succ, List.getD_cons_succ] at h3
          exact h3)
        refine ⟨[b], i, ?_, rfl, rfl⟩
        rcases h0 with rfl | rfl | rfl
        · exact .inr (.inl rfl)
        · exact .inr (.inr (.inl rfl))
        · exact .inr (.inr (.inr (.inl rfl)))
    · split at h
      · rename_i c
        obtain ⟨h1, h0, h00, h2, h3⟩ := c
        simp only [Option.some.injEq] at h
        subst h
        match l, h1, h0, h00, h2, h3 with
        | d :: b :: a :: r, h1, h0, h00, h2, h3 =>
          have ha : a = q := h2
          have h0 : d = 117 := h0
          have h00 : b = 56 := h00
          subst ha h0 h00
          simp only [List.length_cons] at h1
          obtain ⟨i, rfl⟩ := last_q (r := r) (q := a) (by omega) (by
            have e : ((117 : UInt8) :: 56 :: a :: r).length - 1 = (r.length - 1) + 1 + 1 + 1 := by simp only [List.length_cons]; omega
            rw [e, List.getD_cons_succ, List.getD_cons_succ, List.getD_cons_succ] at h3
            exact h3)
          exact ⟨[117, 56], i, .inr (.inr (.inr (.inr rfl))), rfl, rfl⟩
      · cases h
theorem con_len (q : UInt8) (p i : List UInt8) : (conS q p i).length = p.length + i.length + 2 := by
  unfold conS
  simp only [List.length_append, List.length_cons, List.length_nil]
  omega
theorem con_last (q : UInt8) (p i : List UInt8) : (conS q p i).getD ((conS q p i).length - 1) 0 = q := by
  rw [con_len]
  have e : conS q p i = (p ++ q :: i) ++ [q] := by simp [conS]
  rw [e]
  have h : p.length + i.length + 2 - 1 = (p ++ q :: i).length := by
    simp only [List.length_append, List.length_cons]
    omega
  rw [h]
  simp [List.getD]
theorem ahead_con {q : UInt8} {p : List UInt8} (hp : isPre p) (i : List UInt8) (hq : q = 34 ∨ q = 39) : aheadQ q (conS q p i) = some p.length := by
  have hl := con_len q p i
  have hz := con_last q p i
  unfold aheadQ
  rw [hz, hl]
  rcases hp with rfl | rfl | rfl | rfl | rfl
  · rw [if_pos ⟨by simp, rfl, rfl⟩]; rfl
  · rw [if_neg (by intro c; have := c.2.1; revert this; show ¬ ((76 : UInt8) = q); rcases hq with rfl | rfl <;> decide), if_pos ⟨by simp, .inl rfl, rfl, rfl⟩]; rfl
  · rw [if_neg (by intro c; have := c.2.1; revert this; show ¬ ((117 : UInt8) = q); rcases hq with rfl | rfl <;> decide), if_pos ⟨by simp, .inr (.inl rfl), rfl, rfl⟩]; rfl
  · rw [if_neg (by intro c; have := c.2.1; revert this; show ¬ ((85 : UInt8) = q); rcases hq with rfl | rfl <;> decide), if_pos ⟨by simp, .inr (.inr rfl), rfl, rfl⟩]; rfl
  · rw [if_neg (by intro c; have := c.2.1; revert this; show ¬ ((117 : UInt8) = q); rcases hq with rfl | rfl <;> decide), if_neg (by intro c; have := c.2.2.1; revert this; show ¬ ((56 : UInt8) = q); rcases hq with rfl | rfl <;> decide), if_pos ⟨by simp, rfl, rfl, rfl, rfl⟩]; rfl

/-- The document's way. -/
def dquL (l : List UInt8) : Option (List UInt8) := match aheadQ 34 l with
  | none => none
  | some n => unqL ((l.drop (n + 1)).take (l.length - 1 - (n + 1)))
theorem con_mid (q : UInt8) (p i : List UInt8) : ((conS q p i).drop (p.length + 1)).take ((conS q p i).length - 1 - (p.length + 1)) = i := by
  rw [con_len]
  have e : (conS q p i).drop (p.length + 1) = i ++ [q] := by
    unfold conS
    rw [← List.drop_drop, List.drop_left]
    rfl
  rw [e, show p.length + i.length + 2 - 1 - (p.length + 1) = i.length from by omega, List.take_left]

/-- One token that is a string is letters, a quote, and what is between. -/
theorem one_con {l : List UInt8} (h : oneL l = some 4) : ∃ p i, isPre p ∧ l = conS 34 p i ∧ (unqL i).isSome = true := by
  unfold oneL at h
  split at h
  · split at h
    · rename_i hb hn
      split at h
      · cases h
      · have hk : (tok (l ++ [10])).1 = 4 := by simpa using h
        obtain ⟨L, hL⟩ : ∃ L, l ++ [10] = L := ⟨_, rfl⟩
        rw [hL] at hk hn
        unfold tok at hk hn
        cases hc : conN L with
        | none =>
          rw [hc] at hk
          simp only at hk
          split at hk
          · cases hk
          · split at hk
            · cases hk
            · split at hk <;> cases hk
        | some x =>
          rw [hc] at hk hn
          simp only at hk hn
          unfold conN at hc
          split at hc
          · rename_i hq
            obtain ⟨k, hkk⟩ : ∃ k, lettN L = k := ⟨_, rfl⟩
            rw [hkk] at hc hq
            cases hqn : qN 34 false (L.drop (k + 1)) with
            | none => rw [hqn] at hc; cases hc
            | some m =>
              rw [hqn] at hc
              simp only [Option.map_some, Option.some.injEq] at hc
              subst hc
              simp only at hn
              have hll : k + 1 ≤ l.length := by omega
              have hdr : L.drop (k + 1) = l.drop (k + 1) ++ [10] := by rw [← hL, List.drop_append_of_le_length hll]
              rw [hdr] at hqn
              have hm : m = (l.drop (k + 1)).length := by rw [List.length_drop]; omega
              rw [hm] at hqn
              obtain ⟨i, hi, hu⟩ := unq_of _ hqn
              have hget : ∀ j, j < l.length → L.getD j 0 = l.getD j 0 := fun j hj => by
                rw [← hL]
                simp [List.getD, List.getElem?_append_left hj]
              rw [hget k (by omega)] at hq
              have hlk : l = l.take k ++ 34 :: (i ++ [34]) := by
                rw [← hi]
                have h1 : l[k]? = some 34 := by
                  rw [List.getElem?_eq_getElem (by omega)]
                  rw [← hq]
                  simp [List.getD, List.getElem?_eq_getElem (show k < l.length by omega)]
                have h2 : l.drop k = 34 :: l.drop (k + 1) := by
                  rw [List.drop_eq_getElem_cons (by omega)]
                  rw [List.getElem?_eq_getElem (by omega)] at h1
                  rw [Option.some.inj h1]
                rw [← h2, List.take_append_drop]
              refine ⟨l.take k, i, ?_, hlk, hu⟩
              unfold lettN at hkk
              split at hkk
              · rename_i hh
                subst hkk
                rw [hget 0 (by omega), hget 1 (by omega)] at hh
                match l, hll, hh with
                | a :: b :: c :: r, _, hh =>
                  have h1 : a = 117 := hh.1
                  have h2 : b = 56 := hh.2.1
                  subst h1 h2
                  exact .inr (.inr (.inr (.inr rfl)))
              · split at hkk
                · rename_i hh
                  subst hkk
                  rw [hget 0 (by omega)] at hh
                  match l, hll, hh with
                  | a :: b :: r, _, hh =>
                    have h1 : a = 76 ∨ a = 117 ∨ a = 85 := hh.1
                    rcases h1 with rfl | rfl | rfl
                    · exact .inr (.inl rfl)
                    · exact .inr (.inr (.inl rfl))
                    · exact .inr (.inr (.inr (.inl rfl)))
                · subst hkk
                  exact .inl rfl
          · split at hc
            · cases hqn : qN 39 false (L.drop (lettN L + 1)) with
              | none => rw [hqn] at hc; cases hc
              | some m =>
                rw [hqn] at hc
                simp only [Option.map_some, Option.some.injEq] at hc
                subst hc
                cases hk
            · cases hc
    · cases h
  · cases h
theorem con_one {p i : List UInt8} (hp : isPre p) (hu : (unqL i).isSome = true) : oneL (conS 34 p i) = some 4 := by
  have hq := (unq_some i hu).2
  have hlen := con_len 34 p i
  have hL : conS 34 p i ++ [10] = p ++ 34 :: (i ++ 34 :: [10]) := by simp [conS]
  have hlet : lettN (p ++ 34 :: (i ++ 34 :: [10])) = p.length := by
    unfold lettN
    rcases hp with rfl | rfl | rfl | rfl | rfl
    · rw [if_neg (by intro c; have := c.1; revert this; show ¬ ((34 : UInt8) = 117); decide), if_neg (by intro c; have := c.1; revert this; show ¬ ((34 : UInt8) = 76 ∨ (34 : UInt8) = 117 ∨ (34 : UInt8) = 85); decide)]; rfl
    · rw [if_neg (by intro c; have := c.1; revert this; show ¬ ((76 : UInt8) = 117); decide), if_pos ⟨.inl rfl, .inl rfl⟩]; rfl
    · rw [if_neg (by intro c; have := c.2.1; revert this; show ¬ ((34 : UInt8) = 56); decide), if_pos ⟨.inr (.inl rfl), .inl rfl⟩]; rfl
    · rw [if_neg (by intro c; have := c.1; revert this; show ¬ ((85 : UInt8) = 117); decide), if_pos ⟨.inr (.inr rfl), .inl rfl⟩]; rfl
    · rw [if_pos ⟨rfl, rfl, rfl⟩]; rfl
  have hcon : conN (p ++ 34 :: (i ++ 34 :: [10])) = some (4, p.length + 1 + (i.length + 1)) := by
    unfold conN
    rw [hlet]
    have hg : (p ++ 34 :: (i ++ 34 :: [10])).getD p.length 0 = 34 := by simp [List.getD]
    have hd : (p ++ 34 :: (i ++ 34 :: [10])).drop (p.length + 1) = i ++ 34 :: [10] := by
      rw [← List.drop_drop, List.drop_left]
      rfl
    rw [if_pos hg, hd, hq]
    rfl
  have htok : tok (p ++ 34 :: (i ++ 34 :: [10])) = (4, p.length + 1 + (i.length + 1)) := by
    unfold tok
    rw [hcon]
  have hbeg : begN (p ++ 34 :: (i ++ 34 :: [10])) = 1 := by
    rcases hp with rfl | rfl | rfl | rfl | rfl <;> rfl
  unfold oneL
  rw [hL, hbeg, htok, if_pos rfl, if_pos (by rw [hlen]; omega)]
  rfl

theorem one_dqu (l : List UInt8) : (oneL l = some 4 ∧ ∃ p i, isPre p ∧ l = conS 34 p i ∧ dquL l = some (plnL i) ∧ aheadQ 34 l = some p.length) ∨ (oneL l ≠ some 4 ∧ dquL l = none) := by
  by_cases h : oneL l = some 4
  · obtain ⟨p, i, hp, rfl, hu⟩ := one_con h
    refine .inl ⟨h, p, i, hp, rfl, ?_, ahead_con hp i (.inl rfl)⟩
    unfold dquL
    rw [ahead_con hp i (.inl rfl)]
    simp only
    rw [con_mid, (unq_some i hu).1]
  · refine .inr ⟨h, ?_⟩
    unfold dquL
    cases ha : aheadQ 34 l with
    | none => rfl
    | some n =>
      obtain ⟨p, i, hp, rfl, rfl⟩ := ahead_some ha
      simp only
      rw [con_mid]
      cases hu : unqL i with
      | none => rfl
      | some x => exact absurd (con_one hp (by rw [hu]; rfl)) h
theorem index_con {p : List UInt8} (hp : isPre p) (i : List UInt8) : Lib.indexByte (conS 34 p i) 34 = (p.length : Int) := by
  rcases hp with rfl | rfl | rfl | rfl | rfl <;> rfl

end Go.Proofs.Ytobplffailbkbaa
