/-
  Texts of the proof, put together: LxL.
-/
import Derived.Test.YtipipookgcdfbaaG01

/-
  Tokens, over lists of bytes: what begins somewhere, and how long it is.
-/
namespace Go.Proofs.Ytipipookgcdfbaa

def isLet (c : UInt8) : Bool := (decide (97 ≤ c.toNat) && decide (c.toNat ≤ 122)) || (decide (65 ≤ c.toNat) && decide (c.toNat ≤ 90)) || decide (c.toNat = 95)
def isDig (c : UInt8) : Bool := decide (48 ≤ c.toNat) && decide (c.toNat ≤ 57)
def isWhi (c : UInt8) : Bool := decide (c.toNat = 32) || decide (c.toNat = 9) || (decide (11 ≤ c.toNat) && decide (c.toNat ≤ 13))
def isWord (c : UInt8) : Bool := isLet c || isDig c
def isExp (c : UInt8) : Bool := decide (c.toNat = 101) || decide (c.toNat = 69) || decide (c.toNat = 112) || decide (c.toNat = 80)
def isSign (c : UInt8) : Bool := decide (c.toNat = 43) || decide (c.toNat = 45)

def wordN : List UInt8 → Nat
  | [] => 0
  | c :: r => if isWord c then wordN r + 1 else 0
def numC (p c : UInt8) : Bool := isWord c || decide (c.toNat = 46) || (isExp p && isSign c)
def numN (p : UInt8) : List UInt8 → Nat
  | [] => 0
  | c :: r => if numC p c then numN c r + 1 else 0
def qN (q : UInt8) : Bool → List UInt8 → Option Nat
  | _, [] => none
  | t, c :: r => if c = 10 then none else if t then (qN q false r).map (· + 1) else if c = 92 then (qN q true r).map (· + 1) else if c = q then some 1 else (qN q false r).map (· + 1)
def lettN (l : List UInt8) : Nat :=
  if l.getD 0 0 = 117 ∧ l.getD 1 0 = 56 ∧ l.getD 2 0 = 34 then 2
  else if (l.getD 0 0 = 76 ∨ l.getD 0 0 = 117 ∨ l.getD 0 0 = 85) ∧ (l.getD 1 0 = 34 ∨ l.getD 1 0 = 39) then 1 else 0
def conN (l : List UInt8) : Option (Nat × Nat) :=
  if l.getD (lettN l) 0 = 34 then (qN 34 false (l.drop (lettN l + 1))).map fun n => (4, lettN l + 1 + n)
  else if l.getD (lettN l) 0 = 39 then (qN 39 false (l.drop (lettN l + 1))).map fun n => (3, lettN l + 1 + n)
  else none
/-- The punctuators, the longest first. -/
def PL : List (List UInt8) := [[37, 58, 37, 58], [46, 46, 46], [60, 60, 61], [62, 62, 61], [45, 62], [43, 43], [45, 45], [60, 60], [62, 62], [60, 61], [62, 61], [61, 61], [33, 61], [38, 38], [124, 124], [42, 61], [47, 61], [37, 61], [43, 61], [45, 61], [38, 61], [94, 61], [124, 61], [35, 35], [60, 58], [58, 62], [60, 37], [37, 62], [37, 58], [91], [93], [40], [41], [123], [125], [46], [38], [42], [43], [45], [126], [33], [47], [37], [60], [62], [94], [124], [63], [58], [59], [61], [44], [35]]
def punctN (l : List UInt8) : Nat := match PL.find? (fun p => p.isPrefixOf l) with
  | some p => p.length
  | none => 0
def tok (l : List UInt8) : Nat × Nat := match conN l with
  | some x => x
  | none => if isLet (l.getD 0 0) then (1, wordN (l.drop 1) + 1)
    else if isDig (l.getD 0 0) || (decide (l.getD 0 0 = 46) && isDig (l.getD 1 0)) then (2, numN (l.getD 0 0) (l.drop 1) + 1)
    else if 0 < punctN l then (5, punctN l) else (6, 1)
def badN (k : Nat) (c : UInt8) : Bool := decide (k = 6) && (decide (c.toNat = 34) || decide (c.toNat = 39))
def remN : List UInt8 → Nat
  | [] => 0
  | c :: r => if c = 10 then 0 else remN r + 1
def comN : List UInt8 → Option Nat
  | [] => none
  | c :: r => if c = 42 ∧ r.getD 0 0 = 47 then some 2 else (comN r).map (· + 1)
def begN (l : List UInt8) : Nat :=
  if l.getD 0 0 = 10 then 2 else if isWhi (l.getD 0 0) then 3
  else if l.getD 0 0 = 47 ∧ l.getD 1 0 = 47 then 4 else if l.getD 0 0 = 47 ∧ l.getD 1 0 = 42 then 5 else 1
inductive It where
  | nl | gap (n : Nat) | opn | tk (k n : Nat)
def item (l : List UInt8) : It :=
  if begN l = 2 then .nl else if begN l = 3 then .gap 1 else if begN l = 4 then .gap (remN l)
  else if begN l = 5 then (match comN (l.drop 2) with
    | some n => .gap (n + 2)
    | none => .opn) else .tk (tok l).1 (tok l).2

theorem getD_drop (l : List UInt8) (i k : Nat) : (l.drop i).getD k 0 = l.getD (i + k) 0 := by
  simp [List.getD, List.getElem?_drop]
theorem drop_cons {l : List UInt8} {i : Nat} (h : i < l.length) : l.drop i = l.getD i 0 :: l.drop (i + 1) := by
  rw [List.drop_eq_getElem_cons h]
  simp [List.getD, List.getElem?_eq_getElem h]
theorem getD_lt {l : List UInt8} {i : Nat} (h : l.getD i 0 ≠ 0) : i < l.length := by
  rcases Nat.lt_or_ge i l.length with h1 | h1
  · exact h1
  · exact absurd (by simp [List.getD, List.getElem?_eq_none h1]) h

theorem isWord_ne {c : UInt8} (h : isWord c = true) : c ≠ 10 ∧ c ≠ 34 ∧ c ≠ 39 ∧ c ≠ 47 ∧ c ≠ 0 ∧ isWhi c = false ∧ c ≠ 92 ∧ c ≠ 63 := by
  have e : ∀ n : Nat, n < 256 → c.toNat ≠ n → c ≠ UInt8.ofNat n := by
    intro n hn h1 h2
    apply h1
    rw [h2]
    simp
    omega
  have hc : (97 ≤ c.toNat ∧ c.toNat ≤ 122) ∨ (65 ≤ c.toNat ∧ c.toNat ≤ 90) ∨ c.toNat = 95 ∨ (48 ≤ c.toNat ∧ c.toNat ≤ 57) := by
    unfold isWord isLet isDig at h
    simp only [Bool.or_eq_true, Bool.and_eq_true, decide_eq_true_eq] at h
    omega
  refine ⟨e 10 (by omega) (by omega), e 34 (by omega) (by omega), e 39 (by omega) (by omega), e 47 (by omega) (by omega), e 0 (by omega) (by omega), ?_, e 92 (by omega) (by omega), e 63 (by omega) (by omega)⟩
  unfold isWhi
  simp
  omega

theorem wordN_le : ∀ l : List UInt8, wordN l ≤ l.length
  | [] => Nat.le_refl _
  | c :: r => by
    unfold wordN
    split
    · have := wordN_le r
      simp
      omega
    · simp
theorem wordN_in : ∀ (l : List UInt8) (j : Nat), j < wordN l → isWord (l.getD j 0) = true
  | [], j, h => by simp [wordN] at h
  | c :: r, 0, h => by
    unfold wordN at h
    split at h
    · assumption
    · omega
  | c :: r, j + 1, h => by
    unfold wordN at h
    split at h
    · simpa using wordN_in r j (by omega)
    · omega

theorem numC_ne {p c : UInt8} (h : numC p c = true) : c ≠ 10 ∧ c ≠ 34 ∧ c ≠ 39 := by
  unfold numC at h
  simp only [Bool.or_eq_true, Bool.and_eq_true, decide_eq_true_eq] at h
  rcases h with (h | h) | h
  · have := isWord_ne h
    exact ⟨this.1, this.2.1, this.2.2.1⟩
  · refine ⟨?_, ?_, ?_⟩ <;> (intro e; rw [e] at h; revert h; decide)
  · obtain ⟨-, h⟩ := h
    unfold isSign at h
    simp only [Bool.or_eq_true, decide_eq_true_eq] at h
    refine ⟨?_, ?_, ?_⟩ <;> (intro e; rw [e] at h; revert h; decide)
theorem numN_le : ∀ (p : UInt8) (l : List UInt8), numN p l ≤ l.length
  | _, [] => Nat.le_refl _
  | p, c :: r => by
    unfold numN
    split
    · have := numN_le c r
      simp
      omega
    · simp
theorem numN_in : ∀ (p : UInt8) (l : List UInt8) (j : Nat), j < numN p l → l.getD j 0 ≠ 10
  | _, [], j, h => by simp [numN] at h
  | p, c :: r, 0, h => by
    unfold numN at h
    split at h
    · rename_i h1
      simpa using (numC_ne h1).1
    · omega
  | p, c :: r, j + 1, h => by
    unfold numN at h
    split at h
    · simpa using numN_in c r j (by omega)
    · omega

theorem qN_in (q : UInt8) : ∀ (t : Bool) (l : List UInt8) (n : Nat), q ≠ 10 → qN q t l = some n → 0 < n ∧ n ≤ l.length ∧ ∀ j, j < n → l.getD j 0 ≠ 10
  | _, [], _, _, h => by cases h
  | t, c :: r, n, hq, h => by
    unfold qN at h
    split at h
    · cases h
    · rename_i h10
      have go : ∀ t', (qN q t' r).map (· + 1) = some n → 0 < n ∧ n ≤ (c :: r).length ∧ ∀ j, j < n → (c :: r).getD j 0 ≠ 10 := by
        intro t' h1
        rw [Option.map_eq_some_iff] at h1
        obtain ⟨m, hm, rfl⟩ := h1
        have := qN_in q t' r m hq hm
        refine ⟨by omega, by simp; omega, fun j hj => ?_⟩
        cases j with
        | zero => simpa using h10
        | succ j => simpa using this.2.2 j (by omega)
      repeat' (split at h)
      · exact go _ h
      · exact go _ h
      · cases h
        refine ⟨by omega, by simp, fun j hj => ?_⟩
        obtain rfl : j = 0 := by omega
        simpa using h10
      · exact go _ h

theorem lettN_is (l : List UInt8) : (lettN l = 0 ∨ (lettN l = 1 ∧ isWord (l.getD 0 0) = true ∧ (l.getD 1 0 = 34 ∨ l.getD 1 0 = 39)) ∨ (lettN l = 2 ∧ isWord (l.getD 0 0) = true ∧ isWord (l.getD 1 0) = true ∧ l.getD 2 0 = 34)) := by
  unfold lettN
  split
  · rename_i h
    exact .inr (.inr ⟨rfl, by rw [h.1]; decide, by rw [h.2.1]; decide, h.2.2⟩)
  · split
    · rename_i h
      refine .inr (.inl ⟨rfl, ?_, h.2⟩)
      rcases h.1 with h1 | h1 | h1 <;> (rw [h1]; decide)
    · exact .inl rfl

theorem lettN_in (l : List UInt8) (j : Nat) (h : j < lettN l) : isWord (l.getD j 0) = true := by
  rcases lettN_is l with h1 | h1 | h1
  · omega
  · obtain rfl : j = 0 := by omega
    exact h1.2.1
  · have : j = 0 ∨ j = 1 := by omega
    rcases this with rfl | rfl
    · exact h1.2.1
    · exact h1.2.2.1

theorem conN_in {l : List UInt8} {x : Nat × Nat} (h : conN l = some x) : 0 < x.2 ∧ x.2 ≤ l.length ∧ (x.1 = 3 ∨ x.1 = 4) ∧ ∀ j, j < x.2 → l.getD j 0 ≠ 10 := by
  have go : ∀ (q : UInt8) (n : Nat), q ≠ 10 → q ≠ 0 → l.getD (lettN l) 0 = q → qN q false (l.drop (lettN l + 1)) = some n → 0 < lettN l + 1 + n ∧ lettN l + 1 + n ≤ l.length ∧ ∀ j, j < lettN l + 1 + n → l.getD j 0 ≠ 10 := by
    intro q n hq h0 hl hn
    have h1 := qN_in q _ _ n hq hn
    rw [List.length_drop] at h1
    have h2 : lettN l < l.length := getD_lt (by rw [hl]; exact h0)
    refine ⟨by omega, by omega, fun j hj => ?_⟩
    by_cases hj1 : j < lettN l
    · exact (isWord_ne (lettN_in l j hj1)).1
    · by_cases hj2 : j = lettN l
      · rw [hj2, hl]
        exact hq
      · have := h1.2.2 (j - (lettN l + 1)) (by omega)
        rw [getD_drop, show lettN l + 1 + (j - (lettN l + 1)) = j from by omega] at this
        exact this
  unfold conN at h
  split at h
  · rename_i hq
    rw [Option.map_eq_some_iff] at h
    obtain ⟨n, hn, rfl⟩ := h
    have := go 34 n (by decide) (by decide) hq hn
    exact ⟨this.1, this.2.1, .inr rfl, this.2.2⟩
  · split at h
    · rename_i hq
      rw [Option.map_eq_some_iff] at h
      obtain ⟨n, hn, rfl⟩ := h
      have := go 39 n (by decide) (by decide) hq hn
      exact ⟨this.1, this.2.1, .inl rfl, this.2.2⟩
    · cases h

theorem punctN_is {l : List UInt8} (h : 0 < punctN l) : ∃ p ∈ PL, p <+: l ∧ p.length = punctN l := by
  unfold punctN at h ⊢
  split
  · rename_i p hp
    have h2 : p.isPrefixOf l = true := List.find?_some (p := fun p : List UInt8 => p.isPrefixOf l) hp
    exact ⟨p, List.mem_of_find?_eq_some hp, List.isPrefixOf_iff_prefix.1 h2, rfl⟩
  · rename_i hp
    rw [hp] at h
    simp at h

theorem PL_len : ∀ p ∈ PL, 1 ≤ p.length ∧ p.length ≤ 4 := by decide
theorem PL_no : ∀ p ∈ PL, ∀ c ∈ p, c ≠ 10 ∧ c ≠ 34 ∧ c ≠ 39 ∧ isWord c = false ∧ c ≠ 32 ∧ c ≠ 92 := by decide

theorem prefix_get {p l : List UInt8} (h : p <+: l) {j : Nat} (hj : j < p.length) : l.getD j 0 = p.getD j 0 := by
  obtain ⟨r, rfl⟩ := h
  simp [List.getD, List.getElem?_append_left hj]

theorem get_mem {p : List UInt8} {j : Nat} (hj : j < p.length) : p.getD j 0 ∈ p := by
  simp [List.getD, List.getElem?_eq_getElem hj]

/-- A token has a length, and no byte 10 in it. -/
theorem tok_in {l : List UInt8} (h0 : 0 < l.length) (h10 : l.getD 0 0 ≠ 10) : 0 < (tok l).2 ∧ (tok l).2 ≤ l.length ∧ ∀ j, j < (tok l).2 → l.getD j 0 ≠ 10 := by
  unfold tok
  split
  · rename_i x h
    have := conN_in h
    exact ⟨this.1, this.2.1, this.2.2.2⟩
  · split
    · have h1 := wordN_le (l.drop 1)
      rw [List.length_drop] at h1
      refine ⟨by simp, by simp only; omega, fun j hj => ?_⟩
      cases j with
      | zero => exact h10
      | succ j =>
        have := wordN_in (l.drop 1) j (by simp only at hj; omega)
        rw [getD_drop] at this
        rw [Nat.add_comm j 1]
        exact (isWord_ne this).1
    · split
      · have h1 := numN_le (l.getD 0 0) (l.drop 1)
        rw [List.length_drop] at h1
        refine ⟨by simp, by simp only; omega, fun j hj => ?_⟩
        cases j with
        | zero => exact h10
        | succ j =>
          have := numN_in (l.getD 0 0) (l.drop 1) j (by simp only at hj; omega)
          rw [getD_drop] at this
          rw [Nat.add_comm j 1]
          exact this
      · split
        · rename_i hp
          obtain ⟨p, hm, hpre, hlen⟩ := punctN_is hp
          refine ⟨hp, by rw [← hlen]; exact hpre.length_le, fun j hj => ?_⟩
          rw [← hlen] at hj
          rw [prefix_get hpre hj]
          exact (PL_no p hm _ (get_mem hj)).1
        · refine ⟨by simp, by simp only; omega, fun j hj => ?_⟩
          simp at hj
          rw [hj]
          exact h10

theorem remN_in : ∀ (l : List UInt8), remN l ≤ l.length ∧ ∀ j, j < remN l → l.getD j 0 ≠ 10
  | [] => by simp [remN]
  | c :: r => by
    have h := remN_in r
    unfold remN
    split
    · simp
    · rename_i hc
      refine ⟨by simp; omega, fun j hj => ?_⟩
      cases j with
      | zero => simpa using hc
      | succ j => simpa using h.2 j (by omega)

theorem comN_in : ∀ (l : List UInt8) (n : Nat), comN l = some n → 2 ≤ n ∧ n ≤ l.length ∧ l.getD (n - 1) 0 = 47
  | [], _, h => by cases h
  | c :: r, n, h => by
    unfold comN at h
    split at h
    · rename_i h1
      cases h
      have h2 : 0 < r.length := getD_lt (by rw [h1.2]; decide)
      refine ⟨Nat.le_refl _, by simp; omega, ?_⟩
      simpa using h1.2
    · rw [Option.map_eq_some_iff] at h
      obtain ⟨m, hm, rfl⟩ := h
      have := comN_in r m hm
      refine ⟨by omega, by simp; omega, ?_⟩
      obtain ⟨m', rfl⟩ : ∃ m', m = m' + 1 := ⟨m - 1, by omega⟩
      simpa using this.2.2

theorem begN_five (l : List UInt8) : begN l = 1 ∨ begN l = 2 ∨ begN l = 3 ∨ begN l = 4 ∨ begN l = 5 := by
  unfold begN
  repeat' split
  all_goals simp

theorem begN_two {l : List UInt8} (h : begN l = 2) : l.getD 0 0 = 10 := by
  unfold begN at h
  repeat' (split at h)
  all_goals (first | assumption | omega)
theorem begN_two' {l : List UInt8} (h : l.getD 0 0 = 10) : begN l = 2 := by
  unfold begN
  rw [if_pos h]
theorem begN_four {l : List UInt8} (h : begN l = 4) : l.getD 0 0 = 47 ∧ l.getD 1 0 = 47 := by
  unfold begN at h
  repeat' (split at h)
  all_goals (first | assumption | omega)
theorem begN_fiveC {l : List UInt8} (h : begN l = 5) : l.getD 0 0 = 47 ∧ l.getD 1 0 = 42 := by
  unfold begN at h
  repeat' (split at h)
  all_goals (first | assumption | omega)

/-- How long an item is, that is not open: it lies within the list, and its last byte is a 10 only of nl. -/
def It.len : It → Nat
  | .nl => 1
  | .gap n => n
  | .opn => 0
  | .tk _ n => n

theorem item_nl {l : List UInt8} (h : begN l = 2) : item l = .nl := by unfold item; rw [if_pos h]
theorem item_sp {l : List UInt8} (h : begN l = 3) : item l = .gap 1 := by unfold item; rw [if_neg (by omega), if_pos h]
theorem item_rem {l : List UInt8} (h : begN l = 4) : item l = .gap (remN l) := by unfold item; rw [if_neg (by omega), if_neg (by omega), if_pos h]
theorem item_com {l : List UInt8} {n : Nat} (h : begN l = 5) (hn : comN (l.drop 2) = some n) : item l = .gap (n + 2) := by
  unfold item
  rw [if_neg (by omega), if_neg (by omega), if_neg (by omega), if_pos h, hn]
theorem item_opn {l : List UInt8} (h : begN l = 5) (hn : comN (l.drop 2) = none) : item l = .opn := by
  unfold item
  rw [if_neg (by omega), if_neg (by omega), if_neg (by omega), if_pos h, hn]
theorem item_tk {l : List UInt8} (h : begN l = 1) : item l = .tk (tok l).1 (tok l).2 := by
  unfold item
  rw [if_neg (by omega), if_neg (by omega), if_neg (by omega), if_neg (by omega)]

theorem remN_pos {l : List UInt8} (h0 : 0 < l.length) (h : l.getD 0 0 ≠ 10) : 0 < remN l := by
  cases l with
  | nil => simp at h0
  | cons c r =>
    unfold remN
    rw [if_neg (by simpa using h)]
    omega

theorem item_in {l : List UInt8} (h0 : 0 < l.length) (ho : item l ≠ .opn) : 0 < (item l).len ∧ (item l).len ≤ l.length ∧ (item l ≠ .nl → l.getD ((item l).len - 1) 0 ≠ 10) := by
  by_cases h2 : begN l = 2
  · rw [item_nl h2]
    exact ⟨by simp [It.len], by simp [It.len]; omega, fun h => absurd rfl h⟩
  · have h10 : l.getD 0 0 ≠ 10 := fun h => h2 (begN_two' h)
    rcases begN_five l with h | h | h | h | h
    · rw [item_tk h]
      have ht := tok_in h0 h10
      exact ⟨ht.1, ht.2.1, fun _ => ht.2.2 _ (by simp only [It.len]; omega)⟩
    · exact absurd h h2
    · rw [item_sp h]
      exact ⟨by simp [It.len], by simp [It.len]; omega, fun _ => by simpa [It.len] using h10⟩
    · rw [item_rem h]
      have hr := remN_in l
      have h1 := remN_pos h0 h10
      exact ⟨h1, hr.1, fun _ => hr.2 _ (by simp only [It.len]; omega)⟩
    · cases hc : comN (l.drop 2) with
      | none => exact absurd (item_opn h hc) ho
      | some n =>
        rw [item_com h hc]
        have h1 := comN_in _ n hc
        rw [List.length_drop, getD_drop] at h1
        refine ⟨by simp [It.len], by simp only [It.len]; omega, fun _ => ?_⟩
        simp only [It.len]
        rw [show n + 2 - 1 = 2 + (n - 1) from by omega, h1.2.2]
        decide

end Go.Proofs.Ytipipookgcdfbaa
