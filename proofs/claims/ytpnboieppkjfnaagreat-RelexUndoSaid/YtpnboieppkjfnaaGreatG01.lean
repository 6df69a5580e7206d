/-
  Texts of the proof, put together: ChL.
-/
import GoSem.Core.Value

/-
  Characters of a text, over lists: the walk of the project (chs) and the two of the document (pls, spL) are one.
-/
namespace Go.Proofs.YtpnboieppkjfnaaGreat

/-- What two questions and a sign stand for. -/
def tri (c : UInt8) : Option UInt8 :=
  if c = 61 then some 35 else if c = 47 then some 92 else if c = 39 then some 94 else if c = 40 then some 91 else if c = 41 then some 93 else if c = 33 then some 124 else if c = 60 then some 123 else if c = 62 then some 125 else if c = 45 then some 126 else none

structure Rn where
  c : UInt8
  f : Nat
  t : Nat

def triAt (l : List UInt8) (i : Nat) : Option UInt8 :=
  if i + 2 < l.length ∧ l.getD i 0 = 63 ∧ l.getD (i + 1) 0 = 63 then tri (l.getD (i + 2) 0) else none

def one (l : List UInt8) (i : Nat) : Rn := match triAt l i with
  | some c => ⟨c, i, i + 3⟩
  | none => ⟨l.getD i 0, i, i + 1⟩

def spl (l : List UInt8) (r : Rn) : Bool := decide (r.c = 92) && (decide (r.t < l.length) && decide (l.getD r.t 0 = 10))

def tk (l : List UInt8) (i : Nat) : Rn × Bool := if spl l (one l i) then (⟨(one l i).c, i, (one l i).t + 1⟩, false) else (one l i, true)

def chGo (l : List UInt8) : Nat → Nat → List Rn
  | 0, _ => []
  | n + 1, i => if i < l.length then (if (tk l i).2 then [(tk l i).1] else []) ++ chGo l n (tk l i).1.t else []

def plGo (l : List UInt8) : Nat → Nat → List Rn
  | 0, _ => []
  | n + 1, i => if i < l.length then one l i :: plGo l n (one l i).t else []

def spL : List Rn → List Rn
  | [] => []
  | [a] => [a]
  | a :: b :: r => if a.c = 92 ∧ b.c = 10 then spL r else a :: spL (b :: r)

def chs (l : List UInt8) (i : Nat) : List Rn := chGo l (l.length - i) i
def pls (l : List UInt8) (i : Nat) : List Rn := plGo l (l.length - i) i

theorem tri_ne (c d : UInt8) (h : tri c = some d) : d ≠ 10 ∧ d ≠ 63 ∧ c ≠ 63 ∧ c ≠ 92 ∧ c ≠ 10 := by
  unfold tri at h
  repeat' (split at h)
  all_goals (first | cases h | skip)
  all_goals (subst_vars; decide)

theorem triAt_some {l : List UInt8} {i : Nat} {d : UInt8} (h : triAt l i = some d) : i + 2 < l.length ∧ l.getD i 0 = 63 ∧ l.getD (i + 1) 0 = 63 ∧ tri (l.getD (i + 2) 0) = some d := by
  unfold triAt at h
  split at h
  · rename_i h1
    exact ⟨h1.1, h1.2.1, h1.2.2, h⟩
  · cases h

theorem one_f (l : List UInt8) (i : Nat) : (one l i).f = i := by unfold one; split <;> rfl
theorem one_t (l : List UInt8) (i : Nat) : i < (one l i).t ∧ (one l i).t ≤ i + 3 ∧ (i < l.length → (one l i).t ≤ l.length) := by
  unfold one
  split
  · rename_i c h
    have := triAt_some h
    exact ⟨by simp, by simp, fun _ => by simp; omega⟩
  · exact ⟨by simp, by simp, fun _ => by simp; omega⟩

theorem spl_true {l : List UInt8} {r : Rn} (h : spl l r = true) : r.c = 92 ∧ r.t < l.length ∧ l.getD r.t 0 = 10 := by
  unfold spl at h
  simpa using h

theorem spl_false {l : List UInt8} {r : Rn} (h : spl l r = false) : ¬ (r.c = 92 ∧ r.t < l.length ∧ l.getD r.t 0 = 10) := by
  intro h1
  unfold spl at h
  rw [decide_eq_true h1.1, decide_eq_true h1.2.1, decide_eq_true h1.2.2] at h
  cases h

theorem tk_f (l : List UInt8) (i : Nat) : (tk l i).1.f = i := by unfold tk; split <;> simp [one_f]
theorem tk_t (l : List UInt8) (i : Nat) : i < (tk l i).1.t ∧ (tk l i).1.t ≤ i + 4 ∧ (i < l.length → (tk l i).1.t ≤ l.length) := by
  have h := one_t l i
  unfold tk
  split
  · rename_i hs
    have := spl_true hs
    exact ⟨by simp; omega, by simp; omega, fun _ => by simp; omega⟩
  · exact ⟨h.1, by simp; omega, h.2.2⟩
theorem tk_stands {l : List UInt8} {i : Nat} (h : (tk l i).2 = true) : tk l i = (one l i, true) := by
  unfold tk at h ⊢
  split at h
  · cases h
  · rename_i hs
    rw [if_neg hs]

theorem chGo_fuel (l : List UInt8) : ∀ (n m i : Nat), l.length - i ≤ n → l.length - i ≤ m → chGo l n i = chGo l m i
  | 0, 0, _, _, _ => rfl
  | 0, m + 1, i, h, _ => by
    unfold chGo
    rw [if_neg (by omega)]
  | n + 1, 0, i, _, h => by
    unfold chGo
    rw [if_neg (by omega)]
  | n + 1, m + 1, i, h1, h2 => by
    unfold chGo
    split
    · have := tk_t l i
      rw [chGo_fuel l n m (tk l i).1.t (by omega) (by omega)]
    · rfl

theorem plGo_fuel (l : List UInt8) : ∀ (n m i : Nat), l.length - i ≤ n → l.length - i ≤ m → plGo l n i = plGo l m i
  | 0, 0, _, _, _ => rfl
  | 0, m + 1, i, h, _ => by
    unfold plGo
    rw [if_neg (by omega)]
  | n + 1, 0, i, _, h => by
    unfold plGo
    rw [if_neg (by omega)]
  | n + 1, m + 1, i, h1, h2 => by
    unfold plGo
    split
    · have := one_t l i
      rw [plGo_fuel l n m (one l i).t (by omega) (by omega)]
    · rfl

theorem chs_end {l : List UInt8} {i : Nat} (h : l.length ≤ i) : chs l i = [] := by
  unfold chs
  rw [show l.length - i = 0 from by omega]
  rfl
theorem pls_end {l : List UInt8} {i : Nat} (h : l.length ≤ i) : pls l i = [] := by
  unfold pls
  rw [show l.length - i = 0 from by omega]
  rfl
theorem chs_step {l : List UInt8} {i : Nat} (h : i < l.length) : chs l i = (if (tk l i).2 then [(tk l i).1] else []) ++ chs l (tk l i).1.t := by
  have := tk_t l i
  unfold chs
  obtain ⟨n, hn⟩ : ∃ n, l.length - i = n + 1 := ⟨l.length - i - 1, by omega⟩
  rw [hn, show chGo l (n + 1) i = if i < l.length then (if (tk l i).2 then [(tk l i).1] else []) ++ chGo l n (tk l i).1.t else [] from rfl, if_pos h, chGo_fuel l n (l.length - (tk l i).1.t) _ (by omega) (by omega)]
theorem pls_step {l : List UInt8} {i : Nat} (h : i < l.length) : pls l i = one l i :: pls l (one l i).t := by
  have := one_t l i
  unfold pls
  obtain ⟨n, hn⟩ : ∃ n, l.length - i = n + 1 := ⟨l.length - i - 1, by omega⟩
  rw [hn, show plGo l (n + 1) i = if i < l.length then one l i :: plGo l n (one l i).t else [] from rfl, if_pos h, plGo_fuel l n (l.length - (one l i).t) _ (by omega) (by omega)]

theorem one_plain {l : List UInt8} {i : Nat} (h : l.getD i 0 ≠ 63) : one l i = ⟨l.getD i 0, i, i + 1⟩ := by
  unfold one
  have : triAt l i = none := by
    unfold triAt
    rw [if_neg fun h1 => h h1.2.1]
  rw [this]

theorem one_ten (l : List UInt8) (i : Nat) : (one l i).c = 10 ↔ l.getD i 0 = 10 := by
  constructor
  · intro h
    unfold one at h
    split at h
    · rename_i c h1
      exact absurd h (tri_ne _ _ (triAt_some h1).2.2.2).1
    · exact h
  · intro h
    rw [one_plain (by rw [h]; decide)]
    exact h

/-- The document's two walks answer as the project's one. -/
theorem spL_pls (l : List UInt8) : ∀ (n i : Nat), l.length - i ≤ n → spL (pls l i) = chs l i
  | 0, i, h => by
    rw [pls_end (by omega), chs_end (by omega)]
    rfl
  | n + 1, i, h => by
    by_cases hi : i < l.length
    · have ht := one_t l i
      rw [pls_step hi, chs_step hi]
      cases hs : spl l (one l i) with
      | true =>
        have h1 := spl_true hs
        have hk : tk l i = (⟨(one l i).c, i, (one l i).t + 1⟩, false) := by unfold tk; rw [if_pos hs]
        have h2 : one l (one l i).t = ⟨l.getD (one l i).t 0, (one l i).t, (one l i).t + 1⟩ := one_plain (by rw [h1.2.2]; decide)
        rw [pls_step h1.2.1, hk, h2]
        unfold spL
        rw [if_pos ⟨h1.1, h1.2.2⟩, spL_pls l n ((one l i).t + 1) (by omega)]
        rfl
      | false =>
        have h1 := spl_false hs
        have hk : tk l i = (one l i, true) := by unfold tk; rw [if_neg (by rw [hs]; simp)]
        rw [hk]
        show _ = one l i :: chs l (one l i).t
        rw [← spL_pls l n (one l i).t (by omega)]
        by_cases he : (one l i).t < l.length
        · rw [pls_step he]
          rw [spL, if_neg]
          rintro ⟨ha, hb⟩
          exact h1 ⟨ha, he, (one_ten l _).1 hb⟩
        · rw [pls_end (by omega)]
          rfl
    · rw [pls_end (by omega), chs_end (by omega)]
      rfl

theorem spL_all (l : List UInt8) : spL (pls l 0) = chs l 0 := spL_pls l _ 0 (Nat.le_refl _)

/-- Where each stands. -/
theorem chs_mem (l : List UInt8) : ∀ (n i : Nat), l.length - i ≤ n → ∀ r ∈ chs l i, i ≤ r.f ∧ r.f < r.t ∧ r.t ≤ r.f + 3 ∧ r.t ≤ l.length
  | 0, i, h, r, hr => by
    rw [chs_end (by omega)] at hr
    simp at hr
  | n + 1, i, h, r, hr => by
    by_cases hi : i < l.length
    · have ht := tk_t l i
      rw [chs_step hi] at hr
      rcases List.mem_append.1 hr with h1 | h1
      · cases hs : (tk l i).2 with
        | false => rw [hs] at h1; simp at h1
        | true =>
          rw [hs] at h1
          simp at h1
          rw [h1]
          have h2 := tk_stands hs
          have h3 := one_t l i
          rw [tk_f]
          refine ⟨Nat.le_refl _, ht.1, ?_, ht.2.2 hi⟩
          rw [h2]
          exact h3.2.1
      · have := chs_mem l n _ (by omega) r h1
        omega
    · rw [chs_end (by omega)] at hr
      simp at hr

theorem chs_len (l : List UInt8) : ∀ (n i : Nat), l.length - i ≤ n → (chs l i).length ≤ l.length - i
  | 0, i, h => by
    rw [chs_end (by omega)]
    simp
  | n + 1, i, h => by
    by_cases hi : i < l.length
    · have ht := tk_t l i
      have := chs_len l n (tk l i).1.t (by omega)
      rw [chs_step hi, List.length_append]
      have h2 : (if (tk l i).2 then [(tk l i).1] else []).length ≤ 1 := by split <;> simp
      omega
    · rw [chs_end (by omega)]
      simp

theorem pls_len (l : List UInt8) : ∀ (n i : Nat), l.length - i ≤ n → (pls l i).length ≤ l.length - i
  | 0, i, h => by
    rw [pls_end (by omega)]
    simp
  | n + 1, i, h => by
    by_cases hi : i < l.length
    · have ht := one_t l i
      have := pls_len l n (one l i).t (by omega)
      rw [pls_step hi, List.length_cons]
      omega
    · rw [pls_end (by omega)]
      simp

/-- With the byte 10 put behind. -/
def endsNl (o : List Rn) : Bool := match o.getLast? with
  | none => false
  | some r => decide (r.c = 10)
def withNl (n : Nat) (o : List Rn) : List Rn := if endsNl o then o else o ++ [⟨10, n, n⟩]
def charsL (l : List UInt8) : List Rn := if l = [] then [] else withNl l.length (chs l 0)

/-- What stands from i on, of those within. -/
def within (a b : Int) (r : Rn) : Bool := decide (a ≤ (r.f : Int)) && decide ((r.t : Int) ≤ b)
def bk (l : List UInt8) (a b : Int) (i : Nat) : List UInt8 := ((chs l i).filter (within a b)).map Rn.c
def backL (l : List UInt8) (a b : Int) : List UInt8 := bk l a b 0

theorem bk_end {l : List UInt8} {a b : Int} {i : Nat} (h : l.length ≤ i) : bk l a b i = [] := by
  unfold bk
  rw [chs_end h]
  rfl
theorem bk_skip {l : List UInt8} {a b : Int} {i : Nat} (h : i < l.length) (hs : (tk l i).2 = false) : bk l a b i = bk l a b (tk l i).1.t := by
  unfold bk
  rw [chs_step h, hs]
  rfl
theorem bk_out {l : List UInt8} {a b : Int} {i : Nat} (h : i < l.length) (hw : within a b (tk l i).1 = false) : bk l a b i = bk l a b (tk l i).1.t := by
  unfold bk
  rw [chs_step h]
  split
  · rw [List.singleton_append, List.filter_cons, hw]
    rfl
  · rfl
theorem bk_take {l : List UInt8} {a b : Int} {i : Nat} (h : i < l.length) (hs : (tk l i).2 = true) (hw : within a b (tk l i).1 = true) : bk l a b i = (tk l i).1.c :: bk l a b (tk l i).1.t := by
  unfold bk
  rw [chs_step h, hs]
  rw [if_pos rfl, List.singleton_append, List.filter_cons, hw]
  rfl
theorem bk_past {l : List UInt8} {a b : Int} {i : Nat} (h : i < l.length) (hb : b < ((tk l i).1.t : Int)) : bk l a b i = [] := by
  have hf : within a b (tk l i).1 = false := by
    unfold within
    simp
    omega
  rw [bk_out h hf]
  unfold bk
  rw [List.filter_eq_nil_iff.2]
  · rfl
  · intro r hr
    have := chs_mem l _ (tk l i).1.t (Nat.le_refl _) r hr
    unfold within
    simp
    omega

/-- A byte that begins nothing is one. -/
theorem tk_byte {l : List UInt8} {i : Nat} (h1 : triAt l i = none) (h2 : l.getD i 0 ≠ 92) : tk l i = (⟨l.getD i 0, i, i + 1⟩, true) := by
  have h : one l i = ⟨l.getD i 0, i, i + 1⟩ := by
    unfold one
    rw [h1]
  unfold tk
  rw [h, if_neg]
  intro hs
  exact h2 (spl_true hs).1

theorem triAt_not {l : List UInt8} {i : Nat} (h : l.getD i 0 ≠ 63) : triAt l i = none := by
  unfold triAt
  rw [if_neg fun h1 => h h1.2.1]
theorem triAt_not2 {l : List UInt8} {i : Nat} (h : l.getD (i + 1) 0 ≠ 63) : triAt l i = none := by
  unfold triAt
  rw [if_neg fun h1 => h h1.2.2]

/-- Behind the first byte of what is taken at once, each byte is one till its end. -/
theorem tk_inner {l : List UInt8} {j i : Nat} (h1 : j < i) (h2 : i < (tk l j).1.t) : tk l i = (⟨l.getD i 0, i, i + 1⟩, true) := by
  unfold tk at h2
  cases htr : triAt l j with
  | some d =>
    have ht := triAt_some htr
    have hn := tri_ne _ _ ht.2.2.2
    have ho : one l j = ⟨d, j, j + 3⟩ := by unfold one; rw [htr]
    rw [ho] at h2
    have h12 : i = j + 1 ∨ i = j + 2 ∨ (i = j + 3 ∧ l.getD (j + 3) 0 = 10) := by
      split at h2
      · rename_i hs
        have h3 : l.getD (j + 3) 0 = 10 := (spl_true hs).2.2
        have h4 : i < j + 3 + 1 := h2
        by_cases he : i = j + 3
        · exact .inr (.inr ⟨he, h3⟩)
        · omega
      · have h4 : i < j + 3 := h2
        omega
    rcases h12 with rfl | rfl | ⟨rfl, h3⟩
    · exact tk_byte (triAt_not2 hn.2.2.1) (by rw [ht.2.2.1]; decide)
    · exact tk_byte (triAt_not hn.2.2.1) hn.2.2.2.1
    · exact tk_byte (triAt_not (by rw [h3]; decide)) (by rw [h3]; decide)
  | none =>
    have ho : one l j = ⟨l.getD j 0, j, j + 1⟩ := by unfold one; rw [htr]
    rw [ho] at h2
    split at h2
    · rename_i hs
      have h3 := spl_true hs
      simp at h2 h3
      have e : i = j + 1 := by omega
      subst e
      have h4 : l.getD (j + 1) 0 = 10 := by simpa using h3.2.2
      exact tk_byte (triAt_not (by rw [h4]; decide)) (by rw [h4]; decide)
    · simp at h2
      omega

/-- From within what is taken at once, the walk comes to its end, and nothing of it counts that begins ahead of a. -/
theorem bk_inner {l : List UInt8} {a b : Int} {j : Nat} (h0 : j < l.length) (ha : ((tk l j).1.t : Int) ≤ a) : ∀ (n i : Nat), (tk l j).1.t - i ≤ n → j < i → i ≤ (tk l j).1.t → bk l a b i = bk l a b (tk l j).1.t
  | 0, i, h, h1, h2 => by rw [show i = (tk l j).1.t from by omega]
  | n + 1, i, h, h1, h2 => by
    by_cases he : i = (tk l j).1.t
    · rw [he]
    · have hk := tk_inner (l := l) h1 (by omega)
      have ht := (tk_t l j).2.2 h0
      have hi : i < l.length := by omega
      rw [bk_out hi]
      · rw [hk]
        exact bk_inner h0 ha n (i + 1) (by omega) (by omega) (by omega)
      · rw [hk]
        unfold within
        simp
        omega

/-- The walk may begin up to three bytes ahead of a, wherever that is. -/
theorem bk_from {l : List UInt8} {a b : Int} {i : Nat} (hi : ((i + 3 : Nat) : Int) ≤ a) : ∀ (n j : Nat), i - j ≤ n → j ≤ i → bk l a b i = bk l a b j
  | 0, j, h, hj => by rw [show i = j from by omega]
  | n + 1, j, h, hj => by
    by_cases he : i = j
    · rw [he]
    · by_cases hl : j < l.length
      · have ht := tk_t l j
        have hw : within a b (tk l j).1 = false := by
          unfold within
          rw [tk_f]
          simp
          omega
        rw [bk_out hl hw]
        by_cases h2 : (tk l j).1.t ≤ i
        · exact bk_from hi n _ (by omega) h2
        · exact bk_inner hl (by omega) _ i (Nat.le_refl _) (by omega) (by omega)
      · rw [bk_end (i := i) (by omega), bk_end (i := j) (by omega)]

/-- Where Back begins. -/
def aheadN (a : Int) : Nat := (max a 3 - 3).toNat
theorem bk_ahead (l : List UInt8) (a b : Int) : bk l a b (aheadN a) = backL l a b := by
  unfold backL aheadN
  by_cases h : a ≤ 3
  · rw [show (max a 3 - 3).toNat = 0 from by omega]
  · exact bk_from (by omega) _ 0 (Nat.le_refl _) (Nat.zero_le _)

/-- What the nine signs stand for, as the functions answer it. -/
def triB (c : UInt8) : UInt8 := (tri c).getD 0
def isTri (c : UInt8) : Bool := (tri c).isSome
def signL : List UInt8 := [61, 47, 39, 40, 41, 33, 60, 62, 45]
def standL : List UInt8 := [35, 92, 94, 91, 93, 124, 123, 125, 126]

theorem tri_sign (k : Nat) (hk : k < 9) : triB (signL.getD k 0) = standL.getD k 0 ∧ isTri (signL.getD k 0) = true := by
  match k, hk with
  | 0, _ | 1, _ | 2, _ | 3, _ | 4, _ | 5, _ | 6, _ | 7, _ | 8, _ => decide
  | n + 9, h => omega

theorem tri_none {c : UInt8} (h : ∀ j < 9, signL.getD j 0 ≠ c) : tri c = none := by
  unfold tri
  have h0 : c ≠ 61 := fun e => h 0 (by omega) e.symm
  have h1 : c ≠ 47 := fun e => h 1 (by omega) e.symm
  have h2 : c ≠ 39 := fun e => h 2 (by omega) e.symm
  have h3 : c ≠ 40 := fun e => h 3 (by omega) e.symm
  have h4 : c ≠ 41 := fun e => h 4 (by omega) e.symm
  have h5 : c ≠ 33 := fun e => h 5 (by omega) e.symm
  have h6 : c ≠ 60 := fun e => h 6 (by omega) e.symm
  have h7 : c ≠ 62 := fun e => h 7 (by omega) e.symm
  have h8 : c ≠ 45 := fun e => h 8 (by omega) e.symm
  simp only [h0, h1, h2, h3, h4, h5, h6, h7, h8, if_false]

end Go.Proofs.YtpnboieppkjfnaaGreat
