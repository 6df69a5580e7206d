/-
  Texts of the proof, put together: LxL, Shelf, LxC, RTri, RPlain.
-/
import Derived.Test.YtobplffailbkbaaG01
import Derived.Test.YtobplffailbkbaaRows
import Derived.Lib.Bytealg
import Derived.Lib.IndexBytes
import Derived.Lib.Strings
import Derived.Lib.Slices
import Derived.Lib.Walk
import Derived.Laws.Strings3
import Derived.Laws.Externs
import Derived.WalkKit

/-
  Tokens, over lists of bytes: what begins somewhere, and how long it is.
-/
namespace Go.Proofs.Ytobplffailbkbaa

def isLet (c : UInt8) : Bool := (decide (97 ≤ c.toNat) && decide (c.toNat ≤ 122)) || (decide (65 ≤ c.toNat) && decide (c.toNat ≤ 90)) || decide (c.toNat = 95)
def isDig (c : UInt8) : Bool := decide (48 ≤ c.toNat) && decide (c.toNat ≤ 57)
def isWhi (c : UInt8) : Bool := decide (c.toNat = 32) || decide (c.toNat = 9) || (decide (11 ≤ c.toNat) && decide (c.toNat ≤ 13))
def isWord (c : UInt8) : Bool := isLet c || isDig c
def isExp (c : UInt8) : Bool := decide (c.toNat = 101) || decide (c.toNat = 69) || decide (c.toNat = 112) || decide (c.toNat = 80)
def isSign (c : UInt8) : Bool := decide (c.toNat = 43) || decide (c.toNat = 45)

def wordN : List UInt8 → Nat
  | [] => 0
  | c :: r => if isWord c then wordN r + 1 else 0
def numC (p c : UInt8) : Bool := isWord c || decide (c.toNat = 46) || (isExp p && isSign c)
def numN (p : UInt8) : List UInt8 → Nat
  | [] => 0
  | c :: r => if numC p c then numN c r + 1 else 0
def qN (q : UInt8) : Bool → List UInt8 → Option Nat
  | _, [] => none
  | t, c :: r => if c = 10 then none else if t then (qN q false r).map (· + 1) else if c = 92 then (qN q true r).map (· + 1) else if c = q then some 1 else (qN q false r).map (· + 1)
def lettN (l : List UInt8) : Nat :=
  if l.getD 0 0 = 117 ∧ l.getD 1 0 = 56 ∧ l.getD 2 0 = 34 then 2
  else if (l.getD 0 0 = 76 ∨ l.getD 0 0 = 117 ∨ l.getD 0 0 = 85) ∧ (l.getD 1 0 = 34 ∨ l.getD 1 0 = 39) then 1 else 0
def conN (l : List UInt8) : Option (Nat × Nat) :=
  if l.getD (lettN l) 0 = 34 then (qN 34 false (l.drop (lettN l + 1))).map fun n => (4, lettN l + 1 + n)
  else if l.getD (lettN l) 0 = 39 then (qN 39 false (l.drop (lettN l + 1))).map fun n => (3, lettN l + 1 + n)
  else none
/-- The punctuators, the longest first. -/
def PL : List (List UInt8) := [[37, 58, 37, 58], [46, 46, 46], [60, 60, 61], [62, 62, 61], [45, 62], [43, 43], [45, 45], [60, 60], [62, 62], [60, 61], [62, 61], [61, 61], [33, 61], [38, 38], [124, 124], [42, 61], [47, 61], [37, 61], [43, 61], [45, 61], [38, 61], [94, 61], [124, 61], [35, 35], [60, 58], [58, 62], [60, 37], [37, 62], [37, 58], [91], [93], [40], [41], [123], [125], [46], [38], [42], [43], [45], [126], [33], [47], [37], [60], [62], [94], [124], [63], [58], [59], [61], [44], [35]]
def punctN (l : List UInt8) : Nat := match PL.find? (fun p => p.isPrefixOf l) with
  | some p => p.length
  | none => 0
def tok (l : List UInt8) : Nat × Nat := match conN l with
  | some x => x
  | none => if isLet (l.getD 0 0) then (1, wordN (l.drop 1) + 1)
    else if isDig (l.getD 0 0) || (decide (l.getD 0 0 = 46) && isDig (l.getD 1 0)) then (2, numN (l.getD 0 0) (l.drop 1) + 1)
    else if 0 < punctN l then (5, punctN l) else (6, 1)
def badN (k : Nat) (c : UInt8) : Bool := decide (k = 6) && (decide (c.toNat = 34) || decide (c.toNat = 39))
def remN : List UInt8 → Nat
  | [] => 0
  | c :: r => if c = 10 then 0 else remN r + 1
def comN : List UInt8 → Option Nat
  | [] => none
  | c :: r => if c = 42 ∧ r.getD 0 0 = 47 then some 2 else (comN r).map (· + 1)
def begN (l : List UInt8) : Nat :=
  if l.getD 0 0 = 10 then 2 else if isWhi (l.getD 0 0) then 3
  else if l.getD 0 0 = 47 ∧ l.getD 1 0 = 47 then 4 else if l.getD 0 0 = 47 ∧ l.getD 1 0 = 42 then 5 else 1
inductive It where
  | nl | gap (n : Nat) | opn | tk (k n : Nat)
def item (l : List UInt8) : It :=
  if begN l = 2 then .nl else if begN l = 3 then .gap 1 else if begN l = 4 then .gap (remN l)
  else if begN l = 5 then (match comN (l.drop 2) with
    | some n => .gap (n + 2)
    | none => .opn) else .tk (tok l).1 (tok l).2

theorem getD_drop (l : List UInt8) (i k : Nat) : (l.drop i).getD k 0 = l.getD (i + k) 0 := by
  simp [List.getD, List.getElem?_drop]
theorem drop_cons {l : List UInt8} {i : Nat} (h : i < l.length) : l.drop i = l.getD i 0 :: l.drop (i + 1) := by
  rw [List.drop_eq_getElem_cons h]
  simp [List.getD, List.getElem?_eq_getElem h]
theorem getD_lt {l : List UInt8} {i : Nat} (h : l.getD i 0 ≠ 0) : i < l.length := by
  rcases Nat.lt_or_ge i l.length with h1 | h1
  · exact h1
  · exact absurd (by simp [List.getD, List.getElem?_eq_none h1]) h

theorem isWord_ne {c : UInt8} (h : isWord c = true) : c ≠ 10 ∧ c ≠ 34 ∧ c ≠ 39 ∧ c ≠ 47 ∧ c ≠ 0 ∧ isWhi c = false ∧ c ≠ 92 ∧ c ≠ 63 := by
  have e : ∀ n : Nat, n < 256 → c.toNat ≠ n → c ≠ UInt8.ofNat n := by
    intro n hn h1 h2
    apply h1
    rw [h2]
    simp
    omega
  have hc : (97 ≤ c.toNat ∧ c.toNat ≤ 122) ∨ (65 ≤ c.toNat ∧ c.toNat ≤ 90) ∨ c.toNat = 95 ∨ (48 ≤ c.toNat ∧ c.toNat ≤ 57) := by
    unfold isWord isLet isDig at h
    simp only [Bool.or_eq_true, Bool.and_eq_true, decide_eq_true_eq] at h
    omega
  refine ⟨e 10 (by omega) (by omega), e 34 (by omega) (by omega), e 39 (by omega) (by omega), e 47 (by omega) (by omega), e 0 (by omega) (by omega), ?_, e 92 (by omega) (by omega), e 63 (by omega) (by omega)⟩
  unfold isWhi
  simp
  omega

theorem wordN_le : ∀ l : List UInt8, wordN l ≤ l.length
  | [] => Nat.le_refl _
  | c :: r => by
    unfold wordN
    split
    · have := wordN_le r
      simp
      omega
    · simp
theorem wordN_in : ∀ (l : List UInt8) (j : Nat), j < wordN l → isWord (l.getD j 0) = true
  | [], j, h => by simp [wordN] at h
  | c :: r, 0, h => by
    unfold wordN at h
    split at h
    · assumption
    · omega
  | c :: r, j + 1, h => by
    unfold wordN at h
    split at h
    · simpa using wordN_in r j (by omega)
    · omega

theorem numC_ne {p c : UInt8} (h : numC p c = true) : c ≠ 10 ∧ c ≠ 34 ∧ c ≠ 39 := by
  unfold numC at h
  simp only [Bool.or_eq_true, Bool.and_eq_true, decide_eq_true_eq] at h
  rcases h with (h | h) | h
  · have := isWord_ne h
    exact ⟨this.1, this.2.1, this.2.2.1⟩
  · refine ⟨?_, ?_, ?_⟩ <;> (intro e; rw [e] at h; revert h; decide)
  · obtain ⟨-, h⟩ := h
    unfold isSign at h
    simp only [Bool.or_eq_true, decide_eq_true_eq] at h
    refine ⟨?_, ?_, ?_⟩ <;> (intro e; rw [e] at h; revert h; decide)
theorem numN_le : ∀ (p : UInt8) (l : List UInt8), numN p l ≤ l.length
  | _, [] => Nat.le_refl _
  | p, c :: r => by
    unfold numN
    split
    · have := numN_le c r
      simp
      omega
    · simp
theorem numN_in : ∀ (p : UInt8) (l : List UInt8) (j : Nat), j < numN p l → l.getD j 0 ≠ 10
  | _, [], j, h => by simp [numN] at h
  | p, c :: r, 0, h => by
    unfold numN at h
    split at h
    · rename_i h1
      simpa using (numC_ne h1).1
    · omega
  | p, c :: r, j + 1, h => by
    unfold numN at h
    split at h
    · simpa using numN_in c r j (by omega)
    · omega

theorem qN_in (q : UInt8) : ∀ (t : Bool) (l : List UInt8) (n : Nat), q ≠ 10 → qN q t l = some n → 0 < n ∧ n ≤ l.length ∧ ∀ j, j < n → l.getD j 0 ≠ 10
  | _, [], _, _, h => by cases h
  | t, c :: r, n, hq, h => by
    unfold qN at h
    split at h
    · cases h
    · rename_i h10
      have go : ∀ t', (qN q t' r).map (· + 1) = some n → 0 < n ∧ n ≤ (c :: r).length ∧ ∀ j, j < n → (c :: r).getD j 0 ≠ 10 := by
        intro t' h1
        rw [Option.map_eq_some_iff] at h1
        obtain ⟨m, hm, rfl⟩ := h1
        have := qN_in q t' r m hq hm
        refine ⟨by omega, by simp; omega, fun j hj => ?_⟩
        cases j with
        | zero => simpa using h10
        | succ j => simpa using this.2.2 j (by omega)
      repeat' (split at h)
      · exact go _ h
      · exact go _ h
      · cases h
        refine ⟨by omega, by simp, fun j hj => ?_⟩
        obtain rfl : j = 0 := by omega
        simpa using h10
      · exact go _ h

theorem lettN_is (l : List UInt8) : (lettN l = 0 ∨ (lettN l = 1 ∧ isWord (l.getD 0 0) = true ∧ (l.getD 1 0 = 34 ∨ l.getD 1 0 = 39)) ∨ (lettN l = 2 ∧ isWord (l.getD 0 0) = true ∧ isWord (l.getD 1 0) = true ∧ l.getD 2 0 = 34)) := by
  unfold lettN
  split
  · rename_i h
    exact .inr (.inr ⟨rfl, by rw [h.1]; decide, by rw [h.2.1]; decide, h.2.2⟩)
  · split
    · rename_i h
      refine .inr (.inl ⟨rfl, ?_, h.2⟩)
      rcases h.1 with h1 | h1 | h1 <;> (rw [h1]; decide)
    · exact .inl rfl

theorem lettN_in (l : List UInt8) (j : Nat) (h : j < lettN l) : isWord (l.getD j 0) = true := by
  rcases lettN_is l with h1 | h1 | h1
  · omega
  · obtain rfl : j = 0 := by omega
    exact h1.2.1
  · have : j = 0 ∨ j = 1 := by omega
    rcases this with rfl | rfl
    · exact h1.2.1
    · exact h1.2.2.1

theorem conN_in {l : List UInt8} {x : Nat × Nat} (h : conN l = some x) : 0 < x.2 ∧ x.2 ≤ l.length ∧ (x.1 = 3 ∨ x.1 = 4) ∧ ∀ j, j < x.2 → l.getD j 0 ≠ 10 := by
  have go : ∀ (q : UInt8) (n : Nat), q ≠ 10 → q ≠ 0 → l.getD (lettN l) 0 = q → qN q false (l.drop (lettN l + 1)) = some n → 0 < lettN l + 1 + n ∧ lettN l + 1 + n ≤ l.length ∧ ∀ j, j < lettN l + 1 + n → l.getD j 0 ≠ 10 := by
    intro q n hq h0 hl hn
    have h1 := qN_in q _ _ n hq hn
    rw [List.length_drop] at h1
    have h2 : lettN l < l.length := getD_lt (by rw [hl]; exact h0)
    refine ⟨by omega, by omega, fun j hj => ?_⟩
    by_cases hj1 : j < lettN l
    · exact (isWord_ne (lettN_in l j hj1)).1
    · by_cases hj2 : j = lettN l
      · rw [hj2, hl]
        exact hq
      · have := h1.2.2 (j - (lettN l + 1)) (by omega)
        rw [getD_drop, show lettN l + 1 + (j - (lettN l + 1)) = j from by omega] at this
        exact this
  unfold conN at h
  split at h
  · rename_i hq
    rw [Option.map_eq_some_iff] at h
    obtain ⟨n, hn, rfl⟩ := h
    have := go 34 n (by decide) (by decide) hq hn
    exact ⟨this.1, this.2.1, .inr rfl, this.2.2⟩
  · split at h
    · rename_i hq
      rw [Option.map_eq_some_iff] at h
      obtain ⟨n, hn, rfl⟩ := h
      have := go 39 n (by decide) (by decide) hq hn
      exact ⟨this.1, this.2.1, .inl rfl, this.2.2⟩
    · cases h

theorem punctN_is {l : List UInt8} (h : 0 < punctN l) : ∃ p ∈ PL, p <+: l ∧ p.length = punctN l := by
  unfold punctN at h ⊢
  split
  · rename_i p hp
    have h2 : p.isPrefixOf l = true := List.find?_some (p := fun p : List UInt8 => p.isPrefixOf l) hp
    exact ⟨p, List.mem_of_find?_eq_some hp, List.isPrefixOf_iff_prefix.1 h2, rfl⟩
  · rename_i hp
    rw [hp] at h
    simp at h

theorem PL_len : ∀ p ∈ PL, 1 ≤ p.length ∧ p.length ≤ 4 := by decide
theorem PL_no : ∀ p ∈ PL, ∀ c ∈ p, c ≠ 10 ∧ c ≠ 34 ∧ c ≠ 39 ∧ isWord c = false ∧ c ≠ 32 ∧ c ≠ 92 := by decide

theorem prefix_get {p l : List UInt8} (h : p <+: l) {j : Nat} (hj : j < p.length) : l.getD j 0 = p.getD j 0 := by
  obtain ⟨r, rfl⟩ := h
  simp [List.getD, List.getElem?_append_left hj]

theorem get_mem {p : List UInt8} {j : Nat} (hj : j < p.length) : p.getD j 0 ∈ p := by
  simp [List.getD, List.getElem?_eq_getElem hj]

/-- A token has a length, and no byte 10 in it. -/
theorem tok_in {l : List UInt8} (h0 : 0 < l.length) (h10 : l.getD 0 0 ≠ 10) : 0 < (tok l).2 ∧ (tok l).2 ≤ l.length ∧ ∀ j, j < (tok l).2 → l.getD j 0 ≠ 10 := by
  unfold tok
  split
  · rename_i x h
    have := conN_in h
    exact ⟨this.1, this.2.1, this.2.2.2⟩
  · split
    · have h1 := wordN_le (l.drop 1)
      rw [List.length_drop] at h1
      refine ⟨by simp, by simp only; omega, fun j hj => ?_⟩
      cases j with
      | zero => exact h10
      | succ j =>
        have := wordN_in (l.drop 1) j (by simp only at hj; omega)
        rw [getD_drop] at this
        rw [Nat.add_comm j 1]
        exact (isWord_ne this).1
    · split
      · have h1 := numN_le (l.getD 0 0) (l.drop 1)
        rw [List.length_drop] at h1
        refine ⟨by simp, by simp only; omega, fun j hj => ?_⟩
        cases j with
        | zero => exact h10
        | succ j =>
          have := numN_in (l.getD 0 0) (l.drop 1) j (by simp only at hj; omega)
          rw [getD_drop] at this
          rw [Nat.add_comm j 1]
          exact this
      · split
        · rename_i hp
          obtain ⟨p, hm, hpre, hlen⟩ := punctN_is hp
          refine ⟨hp, by rw [← hlen]; exact hpre.length_le, fun j hj => ?_⟩
          rw [← hlen] at hj
          rw [prefix_get hpre hj]
          exact (PL_no p hm _ (get_mem hj)).1
        · refine ⟨by simp, by simp only; omega, fun j hj => ?_⟩
          simp at hj
          rw [hj]
          exact h10

theorem remN_in : ∀ (l : List UInt8), remN l ≤ l.length ∧ ∀ j, j < remN l → l.getD j 0 ≠ 10
  | [] => by simp [remN]
  | c :: r => by
    have h := remN_in r
    unfold remN
    split
    · simp
    · rename_i hc
      refine ⟨by simp; omega, fun j hj => ?_⟩
      cases j with
      | zero => simpa using hc
      | succ j => simpa using h.2 j (by omega)

theorem comN_in : ∀ (l : List UInt8) (n : Nat), comN l = some n → 2 ≤ n ∧ n ≤ l.length ∧ l.getD (n - 1) 0 = 47
  | [], _, h => by cases h
  | c :: r, n, h => by
    unfold comN at h
    split at h
    · rename_i h1
      cases h
      have h2 : 0 < r.length := getD_lt (by rw [h1.2]; decide)
      refine ⟨Nat.le_refl _, by simp; omega, ?_⟩
      simpa using h1.2
    · rw [Option.map_eq_some_iff] at h
      obtain ⟨m, hm, rfl⟩ := h
      have := comN_in r m hm
      refine ⟨by omega, by simp; omega, ?_⟩
      obtain ⟨m', rfl⟩ : ∃ m', m = m' + 1 := ⟨m - 1, by omega⟩
      simpa using this.2.2

theorem begN_five (l : List UInt8) : begN l = 1 ∨ begN l = 2 ∨ begN l = 3 ∨ begN l = 4 ∨ begN l = 5 := by
  unfold begN
  repeat' split
  all_goals simp

theorem begN_two {l : List UInt8} (h : begN l = 2) : l.getD 0 0 = 10 := by
  unfold begN at h
  repeat' (split at h)
  all_goals (first | assumption | omega)
theorem begN_two' {l : List UInt8} (h : l.getD 0 0 = 10) : begN l = 2 := by
  unfold begN
  rw [if_pos h]
theorem begN_four {l : List UInt8} (h : begN l = 4) : l.getD 0 0 = 47 ∧ l.getD 1 0 = 47 := by
  unfold begN at h
  repeat' (split at h)
  all_goals (first | assumption | omega)
theorem begN_fiveC {l : List UInt8} (h : begN l = 5) : l.getD 0 0 = 47 ∧ l.getD 1 0 = 42 := by
  unfold begN at h
  repeat' (split at h)
  all_goals (first | assumption | omega)

/-- How long an item is, that is not open: it lies within the list, and its last byte is a 10 only of nl. -/
def It.len : It → Nat
  | .nl => 1
  | .gap n => n
  | .opn => 0
  | .tk _ n => n

theorem item_nl {l : List UInt8} (h : begN l = 2) : item l = .nl := by unfold item; rw [if_pos h]
theorem item_sp {l : List UInt8} (h : begN l = 3) : item l = .gap 1 := by unfold item; rw [if_neg (by omega), if_pos h]
theorem item_rem {l : List UInt8} (h : begN l = 4) : item l = .gap (remN l) := by unfold item; rw [if_neg (by omega), if_neg (by omega), if_pos h]
theorem item_com {l : List UInt8} {n : Nat} (h : begN l = 5) (hn : comN (l.drop 2) = some n) : item l = .gap (n + 2) := by
  unfold item
  rw [if_neg (by omega), if_neg (by omega), if_neg (by omega), if_pos h, hn]
theorem item_opn {l : List UInt8} (h : begN l = 5) (hn : comN (l.drop 2) = none) : item l = .opn := by
  unfold item
  rw [if_neg (by omega), if_neg (by omega), if_neg (by omega), if_pos h, hn]
theorem item_tk {l : List UInt8} (h : begN l = 1) : item l = .tk (tok l).1 (tok l).2 := by
  unfold item
  rw [if_neg (by omega), if_neg (by omega), if_neg (by omega), if_neg (by omega)]

theorem remN_pos {l : List UInt8} (h0 : 0 < l.length) (h : l.getD 0 0 ≠ 10) : 0 < remN l := by
  cases l with
  | nil => simp at h0
  | cons c r =>
    unfold remN
    rw [if_neg (by simpa using h)]
    omega

theorem item_in {l : List UInt8} (h0 : 0 < l.length) (ho : item l ≠ .opn) : 0 < (item l).len ∧ (item l).len ≤ l.length ∧ (item l ≠ .nl → l.getD ((item l).len - 1) 0 ≠ 10) := by
  by_cases h2 : begN l = 2
  · rw [item_nl h2]
    exact ⟨by simp [It.len], by simp [It.len]; omega, fun h => absurd rfl h⟩
  · have h10 : l.getD 0 0 ≠ 10 := fun h => h2 (begN_two' h)
    rcases begN_five l with h | h | h | h | h
    · rw [item_tk h]
      have ht := tok_in h0 h10
      exact ⟨ht.1, ht.2.1, fun _ => ht.2.2 _ (by simp only [It.len]; omega)⟩
    · exact absurd h h2
    · rw [item_sp h]
      exact ⟨by simp [It.len], by simp [It.len]; omega, fun _ => by simpa [It.len] using h10⟩
    · rw [item_rem h]
      have hr := remN_in l
      have h1 := remN_pos h0 h10
      exact ⟨h1, hr.1, fun _ => hr.2 _ (by simp only [It.len]; omega)⟩
    · cases hc : comN (l.drop 2) with
      | none => exact absurd (item_opn h hc) ho
      | some n =>
        rw [item_com h hc]
        have h1 := comN_in _ n hc
        rw [List.length_drop, getD_drop] at h1
        refine ⟨by simp [It.len], by simp only [It.len]; omega, fun _ => ?_⟩
        simp only [It.len]
        rw [show n + 2 - 1 = 2 + (n - 1) from by omega, h1.2.2]
        decide

end Go.Proofs.Ytobplffailbkbaa

/-
  strings.HasPrefix and strings.IndexByte, walked at this program.
-/
namespace Go.Proofs
open Go.RowKit Go.Lib

set_option maxRecDepth 100000 in
theorem Try.stringslite_HasPrefix (s p : ByteArray) (w : World) : Calls Try.prog 88 #[.string s, .string p] w fun e w' => e = .returned (.bool (Lib.hasPrefix s.data.toList p.data.toList)) ∧ w' = w := by
  rw [← Lib.hasPrefix_of_take, ← Lib.size_eq, ← Lib.size_eq]
  go_enter Try.func88, Try.ntmps88
  go_wp2
  · rename_i h
    go_ret
    refine ⟨?_, rfl⟩
    show Ending.returned (Value.bool ((s.extract 0 p.size).toList == p.toList)) = _
    rw [Lib.extract_toList, Lib.toList_data]
    simp only [Nat.sub_zero, List.drop_zero]
    congr 2
    have : p.size ≤ s.size := by omega
    simp [this]
  · go_ret
    refine ⟨?_, rfl⟩
    have h : ¬ p.size ≤ s.size := by omega
    simp [h]

set_option maxRecDepth 100000 in
theorem Try.strings_HasPrefix (s p : ByteArray) (w : World) : Calls Try.prog 76 #[.string s, .string p] w fun e w' => e = .returned (.bool (Lib.hasPrefix s.data.toList p.data.toList)) ∧ w' = w := by
  go_enter Try.func76, Try.ntmps76
  go_wp2_with (go_at_call 88; refine (Try.stringslite_HasPrefix _ _ _).mono ?_; rintro e w' ⟨rfl, hw⟩; rw [hw])
  go_ret
  exact ⟨rfl, rfl⟩

set_option maxRecDepth 100000 in
theorem Try.stringslite_IndexByte (s : ByteArray) (c : Int) (w : World) : Calls Try.prog 100 #[.string s, .int .u8 c] w fun e w' => e = .returned (.int .i64 (Lib.indexByte s.data.toList c.toNat.toUInt8)) ∧ w' = w := by
  go_enter Try.func100, Try.ntmps100
  go_wp2
  rw [run_callFunc_extern Try.func101 (by kernel_rfl) (by kernel_rfl) (by kernel_rfl) (e := Extern.BytealgIndexByte.indexByte) (by kernel_rfl), Lib.run_indexByteString]
  simp only [Result.andThen]
  go_wp2
  go_ret
  exact ⟨rfl, rfl⟩

set_option maxRecDepth 100000 in
theorem Try.strings_IndexByte (s : ByteArray) (c : Int) (w : World) : Calls Try.prog 98 #[.string s, .int .u8 c] w fun e w' => e = .returned (.int .i64 (Lib.indexByte s.data.toList c.toNat.toUInt8)) ∧ w' = w := by
  go_enter Try.func98, Try.ntmps98
  go_wp2_with (go_at_call 100; refine (Try.stringslite_IndexByte _ _ _).mono ?_; rintro e w' ⟨rfl, hw⟩; rw [hw])
  go_ret
  exact ⟨rfl, rfl⟩

end Go.Proofs

/-
  What a byte is: the project's and the document's words, walked.
-/
namespace Go.Proofs.Ytobplffailbkbaa
open Go.RowKit

def BoolPost (b : Bool) (w : World) (e : Ending) (w' : World) : Prop := e = .returned (.bool b) ∧ w = w'
def NatPost (n : Nat) (w : World) (e : Ending) (w' : World) : Prop := e = .returned (.int .i64 (n : Int)) ∧ w = w'

theorem ret_bool {a b : Bool} (h : a = b) : Ending.returned (.bool a) = .returned (.bool b) := by rw [h]
theorem ret_nat {a b : Int} (h : a = b) : Ending.returned (.int .i64 a) = .returned (.int .i64 b) := by rw [h]

set_option maxRecDepth 100000 in
theorem letter_any (c : UInt8) (w : World) : Calls Try.prog 78 #[.int .u8 (c.toNat : Int)] w (BoolPost (isLet c) w) := by
  have hc : (c.toNat : Int) < 256 := by have := c.toNat_lt; omega
  go_enter Try.func78, Try.ntmps78
  go_wp2
  all_goals
    go_ret
    refine ⟨ret_bool ?_, rfl⟩
    unfold isLet
    rw [Bool.eq_iff_iff]
    simp
    try omega

set_option maxRecDepth 100000 in
theorem digit_any (c : UInt8) (w : World) : Calls Try.prog 80 #[.int .u8 (c.toNat : Int)] w (BoolPost (isDig c) w) := by
  have hc : (c.toNat : Int) < 256 := by have := c.toNat_lt; omega
  go_enter Try.func80, Try.ntmps80
  go_wp2
  all_goals
    go_ret
    refine ⟨ret_bool ?_, rfl⟩
    unfold isDig
    rw [Bool.eq_iff_iff]
    simp
    try omega

set_option maxRecDepth 100000 in
theorem white_any (c : UInt8) (w : World) : Calls Try.prog 75 #[.int .u8 (c.toNat : Int)] w (BoolPost (isWhi c) w) := by
  have hc : (c.toNat : Int) < 256 := by have := c.toNat_lt; omega
  go_enter Try.func75, Try.ntmps75
  go_wp2
  all_goals
    go_ret
    refine ⟨ret_bool ?_, rfl⟩
    unfold isWhi
    rw [Bool.eq_iff_iff]
    simp
    try omega

set_option maxRecDepth 100000 in
theorem rLetter_any (c : UInt8) (w : World) : Calls Try.prog 63 #[.int .u8 (c.toNat : Int)] w (BoolPost (isLet c) w) := by
  have hc : (c.toNat : Int) < 256 := by have := c.toNat_lt; omega
  go_enter Try.func63, Try.ntmps63
  go_wp2
  all_goals
    go_ret
    refine ⟨ret_bool ?_, rfl⟩
    unfold isLet
    rw [Bool.eq_iff_iff]
    simp
    try omega

set_option maxRecDepth 100000 in
theorem rDigit_any (c : UInt8) (w : World) : Calls Try.prog 64 #[.int .u8 (c.toNat : Int)] w (BoolPost (isDig c) w) := by
  have hc : (c.toNat : Int) < 256 := by have := c.toNat_lt; omega
  go_enter Try.func64, Try.ntmps64
  go_wp2
  all_goals
    go_ret
    refine ⟨ret_bool ?_, rfl⟩
    unfold isDig
    rw [Bool.eq_iff_iff]
    simp
    try omega

set_option maxRecDepth 100000 in
theorem rWhite_any (c : UInt8) (w : World) : Calls Try.prog 39 #[.int .u8 (c.toNat : Int)] w (BoolPost (isWhi c) w) := by
  have hc : (c.toNat : Int) < 256 := by have := c.toNat_lt; omega
  go_enter Try.func39, Try.ntmps39
  go_wp2
  all_goals
    go_ret
    refine ⟨ret_bool ?_, rfl⟩
    unfold isWhi
    rw [Bool.eq_iff_iff]
    simp
    try omega

set_option maxRecDepth 100000 in
theorem endless_any (k : Nat) (c : UInt8) (w : World) (_hk : k ≤ 100) : Calls Try.prog 59 #[.int .i64 (k : Int), .int .u8 (c.toNat : Int)] w (BoolPost (badN k c) w) := by
  have hc : (c.toNat : Int) < 256 := by have := c.toNat_lt; omega
  go_enter Try.func59, Try.ntmps59
  go_wp2
  all_goals
    go_ret
    refine ⟨ret_bool ?_, rfl⟩
    unfold badN
    rw [Bool.eq_iff_iff]
    simp
    try omega

theorem letter_is {c : UInt8} {b : Bool} (h : isLet c = b) (W : World) : Calls Try.prog 78 #[.int .u8 (c.toNat : Int)] W (BoolPost b W) := h ▸ letter_any c W
theorem digit_is {c : UInt8} {b : Bool} (h : isDig c = b) (W : World) : Calls Try.prog 80 #[.int .u8 (c.toNat : Int)] W (BoolPost b W) := h ▸ digit_any c W
theorem white_is {c : UInt8} {b : Bool} (h : isWhi c = b) (W : World) : Calls Try.prog 75 #[.int .u8 (c.toNat : Int)] W (BoolPost b W) := h ▸ white_any c W

theorem rLetter_is {c : UInt8} {b : Bool} (h : isLet c = b) (W : World) : Calls Try.prog 63 #[.int .u8 (c.toNat : Int)] W (BoolPost b W) := h ▸ rLetter_any c W
theorem rDigit_is {c : UInt8} {b : Bool} (h : isDig c = b) (W : World) : Calls Try.prog 64 #[.int .u8 (c.toNat : Int)] W (BoolPost b W) := h ▸ rDigit_any c W
theorem rWhite_is {c : UInt8} {b : Bool} (h : isWhi c = b) (W : World) : Calls Try.prog 39 #[.int .u8 (c.toNat : Int)] W (BoolPost b W) := h ▸ rWhite_any c W

theorem endless_is {k : Nat} {c : UInt8} {b : Bool} (hk : k ≤ 100) (h : badN k c = b) (W : World) : Calls Try.prog 59 #[.int .i64 (k : Int), .int .u8 (c.toNat : Int)] W (BoolPost b W) := h ▸ endless_any k c W hk

end Go.Proofs.Ytobplffailbkbaa

/-
  The document's own Trigraph, walked.
-/
namespace Go.Proofs.Ytobplffailbkbaa
open Go.RowKit

def TriPost (c : UInt8) (w : World) (e : Ending) (w' : World) : Prop :=
  e = .returned (.tuple #[.int .u8 ((triB c).toNat : Int), .bool (isTri c)]) ∧ w = w'

theorem triPost_sign {c : UInt8} {w : World} (k : Nat) (hk : k < 9) (x : Int) (h1 : signL.getD k 0 = c) (h2 : ((standL.getD k 0).toNat : Int) = x) : TriPost c w (.returned (.tuple #[.int .u8 x, .bool true])) w := by
  have h := tri_sign k hk
  rw [h1] at h
  refine ⟨?_, rfl⟩
  rw [h.1, h.2, h2]

theorem triPost_none {c : UInt8} {w : World} (h : ∀ j < 9, signL.getD j 0 ≠ c) : TriPost c w (.returned (.tuple #[.int .u8 0, .bool false])) w := by
  have h := tri_none h
  refine ⟨?_, rfl⟩
  unfold triB isTri
  rw [h]
  rfl

def RTriRel (c : UInt8) (i : Value) : Prop := ∃ k : Nat, i = .int .i64 (k : Int) ∧ k ≤ 9 ∧ ∀ j < k, signL.getD j 0 ≠ c

theorem sign_ne {c : UInt8} {n : Nat} (k : Nat) (h : ((n : Int) == (c.toNat : Int)) = false) (hn : (signL.getD k 0).toNat = n) : signL.getD k 0 ≠ c := by
  rintro rfl
  subst hn
  simp at h
theorem sign_eq {c : UInt8} {n : Nat} (k : Nat) (h : ((n : Int) == (c.toNat : Int)) = true) (hn : (signL.getD k 0).toNat = n) : signL.getD k 0 = c := by
  subst hn
  rw [beq_iff_eq] at h
  exact UInt8.toNat_inj.1 (by omega)
theorem sign_next {c : UInt8} {k : Nat} (h : ∀ j < k, signL.getD j 0 ≠ c) (h1 : signL.getD k 0 ≠ c) : ∀ j < k + 1, signL.getD j 0 ≠ c := by
  intro j hj
  by_cases e : j = k
  · rw [e]
    exact h1
  · exact h j (by omega)

set_option maxRecDepth 100000 in
set_option maxHeartbeats 1600000 in
theorem rTri_any (c : UInt8) (w : World) : Calls Try.prog 83 #[.int .u8 (c.toNat : Int)] w (TriPost c w) := by
  have hc : (c.toNat : Int) < 256 := by have := c.toNat_lt; omega
  go_enter Try.func83, Try.ntmps83
  go_wp2
  go_loop [4] (RTriRel c) (fun i => 9 - (intOf i).toNat)
  case atStart => exact ⟨0, rfl, by omega, fun j hj => by omega⟩
  case round =>
    obtain ⟨k, rfl, hk, hall⟩ := hrel
    have HA := Lib.hid hall
    clear hall
    obtain rfl | rfl | rfl | rfl | rfl | rfl | rfl | rfl | rfl | rfl : k = 0 ∨ k = 1 ∨ k = 2 ∨ k = 3 ∨ k = 4 ∨ k = 5 ∨ k = 6 ∨ k = 7 ∨ k = 8 ∨ k = 9 := by omega
    · go_wp2
      · go_ret2
        exact triPost_sign 0 (by omega) _ (sign_eq 0 ‹_› rfl) rfl
      · go_round
        case rel => exact ⟨1, rfl, by omega, sign_next HA.out (sign_ne 0 ‹_› rfl)⟩
        case measure => decide
    · go_wp2
      · go_ret2
        exact triPost_sign 1 (by omega) _ (sign_eq 1 ‹_› rfl) rfl
      · go_round
        case rel => exact ⟨2, rfl, by omega, sign_next HA.out (sign_ne 1 ‹_› rfl)⟩
        case measure => decide
    · go_wp2
      · go_ret2
        exact triPost_sign 2 (by omega) _ (sign_eq 2 ‹_› rfl) rfl
      · go_round
        case rel => exact ⟨3, rfl, by omega, sign_next HA.out (sign_ne 2 ‹_› rfl)⟩
        case measure => decide
    · go_wp2
      · go_ret2
        exact triPost_sign 3 (by omega) _ (sign_eq 3 ‹_› rfl) rfl
      · go_round
        case rel => exact ⟨4, rfl, by omega, sign_next HA.out (sign_ne 3 ‹_› rfl)⟩
        case measure => decide
    · go_wp2
      · go_ret2
        exact triPost_sign 4 (by omega) _ (sign_eq 4 ‹_› rfl) rfl
      · go_round
        case rel => exact ⟨5, rfl, by omega, sign_next HA.out (sign_ne 4 ‹_› rfl)⟩
        case measure => decide
    · go_wp2
      · go_ret2
        exact triPost_sign 5 (by omega) _ (sign_eq 5 ‹_› rfl) rfl
      · go_round
        case rel => exact ⟨6, rfl, by omega, sign_next HA.out (sign_ne 5 ‹_› rfl)⟩
        case measure => decide
    · go_wp2
      · go_ret2
        exact triPost_sign 6 (by omega) _ (sign_eq 6 ‹_› rfl) rfl
      · go_round
        case rel => exact ⟨7, rfl, by omega, sign_next HA.out (sign_ne 6 ‹_› rfl)⟩
        case measure => decide
    · go_wp2
      · go_ret2
        exact triPost_sign 7 (by omega) _ (sign_eq 7 ‹_› rfl) rfl
      · go_round
        case rel => exact ⟨8, rfl, by omega, sign_next HA.out (sign_ne 7 ‹_› rfl)⟩
        case measure => decide
    · go_wp2
      · go_ret2
        exact triPost_sign 8 (by omega) _ (sign_eq 8 ‹_› rfl) rfl
      · go_round
        case rel => exact ⟨9, rfl, by omega, sign_next HA.out (sign_ne 8 ‹_› rfl)⟩
        case measure => decide
    · go_wp2
      go_ret2
      exact triPost_none HA.out

end Go.Proofs.Ytobplffailbkbaa

/-
  The document's own walk over bytes, trigraphs as one, in memory.
-/
namespace Go.Proofs.Ytobplffailbkbaa
open Go.RowKit

/-- The cells of characters. -/
def rcell (r : Rn) : List Value := [.int .u8 (r.c.toNat : Int), .int .i64 (r.f : Int), .int .i64 (r.t : Int)]
def rcells (L : List Rn) : List Value := L.flatMap rcell

theorem rcells_append (a b : List Rn) : rcells (a ++ b) = rcells a ++ rcells b := by simp [rcells]
theorem rcells_len (L : List Rn) : (rcells L).length = L.length * 3 := by
  induction L with
  | nil => rfl
  | cons a r ih => simp [rcells, rcell] at ih ⊢; omega
theorem rcell_one (r : Rn) : ∀ u ∈ rcell r, u.oneCell' = true := by
  intro u hu
  simp only [rcell, List.mem_cons, List.not_mem_nil, or_false] at hu
  rcases hu with rfl | rfl | rfl <;> rfl
theorem rcells_get : ∀ (L : List Rn) (i : Nat) (r : Rn), L[i]? = some r → (rcells L)[i * 3]? = some (.int .u8 (r.c.toNat : Int)) ∧ (rcells L)[i * 3 + 1]? = some (.int .i64 (r.f : Int)) ∧ (rcells L)[i * 3 + 2]? = some (.int .i64 (r.t : Int))
  | [], i, r, h => by simp at h
  | a :: q, 0, r, h => by
    simp at h
    subst h
    exact ⟨rfl, rfl, rfl⟩
  | a :: q, i + 1, r, h => by
    have := rcells_get q i r (by simpa using h)
    show (rcell a ++ rcells q)[(i + 1) * 3]? = _ ∧ (rcell a ++ rcells q)[(i + 1) * 3 + 1]? = _ ∧ (rcell a ++ rcells q)[(i + 1) * 3 + 2]? = _
    have hl : (rcell a).length = 3 := rfl
    rw [show (i + 1) * 3 = 3 + i * 3 from by omega, show 3 + i * 3 + 1 = 3 + (i * 3 + 1) from by omega, show 3 + i * 3 + 2 = 3 + (i * 3 + 2) from by omega, List.getElem?_append_right (by omega), List.getElem?_append_right (by omega), List.getElem?_append_right (by omega), hl]
    simpa using this

theorem src_three (w : World) (x y z : Int) (e : TypeId) : Src (w.alloc (.cells #[.int .u8 x, .int .i64 y, .int .i64 z] e)) (.slice (some ⟨w.heap.size, 0, none⟩) 1 1) 1 3 [.int .u8 x, .int .i64 y, .int .i64 z] :=
  .inr ⟨_, 1, rfl, rfl, fun j u hj => by
    match j, hj with
    | 0, hj => simp at hj; subst hj; simp [Addr.add]
    | 1, hj => simp at hj; subst hj; simp [Addr.add]
    | 2, hj => simp at hj; subst hj; simp [Addr.add]⟩

theorem three_one {x y z : Int} : ∀ u ∈ [Value.int .u8 x, .int .i64 y, .int .i64 z], u.oneCell' = true := by
  intro u hu
  simp only [List.mem_cons, List.not_mem_nil, or_false] at hu
  rcases hu with rfl | rfl | rfl <;> rfl

theorem rcells_push {L : List Rn} {r : Rn} {x y z : Int} (hx : x = (r.c.toNat : Int)) (hy : y = (r.f : Int)) (hz : z = (r.t : Int)) : rcells L ++ [.int .u8 x, .int .i64 y, .int .i64 z] = rcells (L ++ [r]) := by
  rw [rcells_append, hx, hy, hz]
  simp [rcells, rcell]

theorem Try.infoRRune : (Try.prog.info? 93).map (fun i => (i.zero, i.size, i.bytes)) = some (some (.agg #[.int .u8 0, .int .i64 0, .int .i64 0]), 3, 24) := by kernel_rfl

theorem get_byte (s : ByteArray) (i : Nat) (h : i < s.size) : s.data.toList.getD i 0 = s[i] := by
  obtain ⟨d⟩ := s
  have h' : i < d.size := h
  show d.toList.getD i 0 = d[i]
  simp [List.getD, h']

theorem len_byte (s : ByteArray) : s.data.toList.length = s.size := by
  obtain ⟨d⟩ := s
  simp [ByteArray.size]

/-- A row of the document's characters. -/
def RRow (W : World) (v : Value) (L : List Rn) (w : World) : Prop := Up W 93 3 v L.length (rcells L) w

theorem RRow.push {W : World} {v : Value} {L : List Rn} {w : World} {x y z : Int} (r : Rn) (h : Up W 93 3 v (L.length + 1) (rcells L ++ [.int .u8 x, .int .i64 y, .int .i64 z]) w) (hx : x = (r.c.toNat : Int)) (hy : y = (r.f : Int)) (hz : z = (r.t : Int)) : RRow W v (L ++ [r]) w := by
  rw [rcells_push hx hy hz] at h
  unfold RRow
  rw [List.length_append]
  exact h

theorem one_tri {s : ByteArray} {k : Nat} (h2 : k + 2 < s.size) (ha : ((s[k].toNat : Nat) : Int) = 63) (hb : (((s[k + 1].toNat : Nat) : Int) == 63) = true) (ht : isTri s[k + 2] = true) : one s.data.toList k = ⟨triB s[k + 2], k, k + 3⟩ := by
  rw [beq_iff_eq] at hb
  have e1 : s.data.toList.getD k 0 = 63 := by rw [get_byte s k (by omega)]; exact UInt8.toNat_inj.1 (by show _ = 63; omega)
  have e2 : s.data.toList.getD (k + 1) 0 = 63 := by rw [get_byte s (k + 1) (by omega)]; exact UInt8.toNat_inj.1 (by show _ = 63; omega)
  have e3 : triAt s.data.toList k = tri s[k + 2] := by
    unfold triAt
    rw [if_pos ⟨by rw [len_byte]; exact h2, e1, e2⟩, get_byte s (k + 2) h2]
  unfold one
  unfold isTri at ht
  unfold triB
  rw [e3]
  cases hq : tri s[k + 2] with
  | none => rw [hq] at ht; cases ht
  | some d => rfl

theorem one_not {s : ByteArray} {k : Nat} (hk : k < s.size) (h : triAt s.data.toList k = none) : one s.data.toList k = ⟨s[k], k, k + 1⟩ := by
  unfold one
  rw [h, get_byte s k hk]

theorem one_short {s : ByteArray} {k : Nat} (hk : k < s.size) (h : ¬ k + 2 < s.size) : one s.data.toList k = ⟨s[k], k, k + 1⟩ := by
  apply one_not hk
  unfold triAt
  rw [if_neg]
  rw [len_byte]
  exact fun h1 => h h1.1

theorem one_a {s : ByteArray} {k : Nat} (hk : k < s.size) (h : ¬ ((s[k].toNat : Nat) : Int) = 63) : one s.data.toList k = ⟨s[k], k, k + 1⟩ := by
  apply one_not hk
  apply triAt_not
  rw [get_byte s k hk]
  intro e
  rw [e] at h
  exact h rfl

theorem one_b {s : ByteArray} {k : Nat} (hk : k + 1 < s.size) (h : (((s[k + 1].toNat : Nat) : Int) == 63) = false) : one s.data.toList k = ⟨s[k], k, k + 1⟩ := by
  apply one_not (by omega)
  apply triAt_not2
  rw [get_byte s (k + 1) hk]
  intro e
  rw [e] at h
  exact absurd h (by decide)

theorem one_no {s : ByteArray} {k : Nat} (hk : k + 2 < s.size) (h : isTri s[k + 2] = false) : one s.data.toList k = ⟨s[k], k, k + 1⟩ := by
  apply one_not (by omega)
  unfold triAt
  split
  · rw [get_byte s (k + 2) hk]
    unfold isTri at h
    simpa using h
  · rfl

def RPlainRel (W : World) (l : List UInt8) (o i : Value) (w : World) : Prop :=
  ∃ (k : Nat) (L : List Rn) (a : Option Addr) (n cap : Nat), i = .int .i64 (k : Int) ∧ k ≤ l.length ∧ L.length ≤ k ∧ o = .slice a n cap ∧ n = L.length ∧ L ++ pls l k = pls l 0 ∧ RRow W o L w

def RRowPost (W : World) (L : List Rn) (e : Ending) (w' : World) : Prop :=
  ∃ (a : Option Addr) (n cap : Nat), n = L.length ∧ e = .returned (.slice a n cap) ∧ RRow W (.slice a n cap) L w'

theorem pls_push {l : List UInt8} {k : Nat} {L : List Rn} {r : Rn} (hk : k < l.length) (h : L ++ pls l k = pls l 0) (ho : one l k = r) : (L ++ [r]) ++ pls l r.t = pls l 0 := by
  rw [← h, pls_step hk, ho, List.append_assoc]
  rfl

theorem rplain_next {W : World} {s : ByteArray} {k : Nat} {L : List Rn} {w : World} {a : Option Addr} {cap : Nat} {r : Rn} {x : Int} (hx : x = (r.t : Int)) (hk : k < s.size) (hLk : L.length ≤ k) (ho : one s.data.toList k = r) (hL : L ++ pls s.data.toList k = pls s.data.toList 0) (hU : RRow W (.slice a (L.length + 1) cap) (L ++ [r]) w) :
    RPlainRel W s.data.toList (.slice a (L.length + 1) cap) (.int .i64 x) w := by
  have h1 := one_t s.data.toList k
  have hl := len_byte s
  rw [ho] at h1
  refine ⟨r.t, L ++ [r], a, L.length + 1, cap, by rw [hx], by have := h1.2.2 (by omega); omega, by simp; omega, rfl, by simp, pls_push (by omega) hL ho, hU⟩

set_option maxRecDepth 100000 in
set_option maxHeartbeats 1600000 in
theorem rPlain_any (s : ByteArray) (w : World) (hs : s.size ≤ 100000) : Calls Try.prog 68 #[.string s] w (RRowPost w (pls s.data.toList 0)) := by
  obtain ⟨i0, hi, hz0, hz1, hz2⟩ := info_parts Try.infoRRune
  have R0 : Up w 93 3 (.slice none 0 0) 0 [] w := up_nil w _ 3
  have HR0 := Lib.hid R0
  clear R0
  have hlen := len_byte s
  have HL := Lib.hid hlen
  clear hlen
  go_enter Try.func68, Try.ntmps68
  go_wp2
  go_loopw [3, 4] (fun o i w' => RPlainRel w s.data.toList o i w') (fun _ i _ => s.size - (intOf i).toNat)
  case atStart => exact ⟨0, [], none, 0, 0, rfl, Nat.zero_le _, Nat.le_refl _, rfl, rfl, rfl, HR0.out⟩
  case round =>
    obtain ⟨k, L, a, n, cap, rfl, hk, hLk, rfl, rfl, hL, hU⟩ := hrel
    rw [HL.out] at hk
    have HU := Lib.hid hU
    have HLL := Lib.hid hL
    clear hU hL
    by_cases hlt : k < s.size
    · by_cases h2 : k + 2 < s.size
      · go_wp2_with (first
          | (go_at_call 83; (with_reducible refine (rTri_any (s[k + 2]'h2) _).mono ?_); rintro e w1 ⟨rfl, rfl⟩)
          | (at_builtin; refine wpList_append_ex rfl (.tmp 48) (.tmp 56) 90 rfl _ (app_up Try.underlying90 hi hz0 hz1 hz2 rfl (by decide) (by decide) (HU.out.alloc _) (src_three _ _ _ _ _) three_one (by omega)) ?_; intro v2 w2 hu2; obtain ⟨a2, cap2, rfl, -, -, -⟩ := row_form hu2.1; have U2 := Lib.hid (RRow.push ⟨s[k], k, k + 1⟩ hu2 (by first | rfl | (show _ = ((s[k].toNat : Nat) : Int); omega)) rfl (by simp)); clear hu2)
          | (at_builtin; refine wpList_append_ex rfl (.tmp 38) (.tmp 44) 90 rfl _ (app_up Try.underlying90 hi hz0 hz1 hz2 rfl (by decide) (by decide) (HU.out.alloc _) (src_three _ _ _ _ _) three_one (by omega)) ?_; intro v2 w2 hu2; obtain ⟨a2, cap2, rfl, -, -, -⟩ := row_form hu2.1; have U2 := Lib.hid (RRow.push ⟨triB s[k + 2], k, k + 3⟩ hu2 (by first | rfl | (show _ = ((s[k].toNat : Nat) : Int); omega)) rfl (by simp)); clear hu2))
        all_goals go_roundw
        all_goals (first
          | (case rel => exact rplain_next (by simp) hlt hLk (by first | exact one_tri h2 ‹_› ‹_› ‹_› | exact one_a hlt ‹_› | exact one_b (by omega) ‹_› | exact one_no h2 ‹_›) HLL.out U2.out)
          | (case measure => simp [intOf]; omega))
      · go_wp2_with (at_builtin; refine wpList_append_ex rfl (.tmp 48) (.tmp 56) 90 rfl _ (app_up Try.underlying90 hi hz0 hz1 hz2 rfl (by decide) (by decide) (HU.out.alloc _) (src_three _ _ _ _ _) three_one (by omega)) ?_; intro v2 w2 hu2; obtain ⟨a2, cap2, rfl, -, -, -⟩ := row_form hu2.1; have U2 := Lib.hid (RRow.push ⟨s[k], k, k + 1⟩ hu2 (by first | rfl | (show _ = ((s[k].toNat : Nat) : Int); omega)) rfl (by simp)); clear hu2)
        go_roundw
        case rel => exact rplain_next (by simp) hlt hLk (one_short hlt h2) HLL.out U2.out
        case measure => simp [intOf]; omega
    · go_wp2
      go_ret
      have e : pls s.data.toList k = [] := pls_end (by rw [HL.out]; omega)
      have h3 := HLL.out
      rw [e, List.append_nil] at h3
      rw [← h3]
      exact ⟨a, _, cap, rfl, rfl, HU.out⟩

end Go.Proofs.Ytobplffailbkbaa
