/-
  Texts of the proof, put together: LxL, LxR, PartsL.
-/
import Derived.Test.YtpnboieppkjfnaaGreatG01

/-
  Tokens, over lists of bytes: what begins somewhere, and how long it is.
-/
namespace Go.Proofs.YtpnboieppkjfnaaGreat

def isLet (c : UInt8) : Bool := (decide (97 ≤ c.toNat) && decide (c.toNat ≤ 122)) || (decide (65 ≤ c.toNat) && decide (c.toNat ≤ 90)) || decide (c.toNat = 95)
def isDig (c : UInt8) : Bool := decide (48 ≤ c.toNat) && decide (c.toNat ≤ 57)
def isWhi (c : UInt8) : Bool := decide (c.toNat = 32) || decide (c.toNat = 9) || (decide (11 ≤ c.toNat) && decide (c.toNat ≤ 13))
def isWord (c : UInt8) : Bool := isLet c || isDig c
def isExp (c : UInt8) : Bool := decide (c.toNat = 101) || decide (c.toNat = 69) || decide (c.toNat = 112) || decide (c.toNat = 80)
def isSign (c : UInt8) : Bool := decide (c.toNat = 43) || decide (c.toNat = 45)

def wordN : List UInt8 → Nat
  | [] => 0
  | c :: r => if isWord c then wordN r + 1 else 0
def numC (p c : UInt8) : Bool := isWord c || decide (c.toNat = 46) || (isExp p && isSign c)
def numN (p : UInt8) : List UInt8 → Nat
  | [] => 0
  | c :: r => if numC p c then numN c r + 1 else 0
def qN (q : UInt8) : Bool → List UInt8 → Option Nat
  | _, [] => none
  | t, c :: r => if c = 10 then none else if t then (qN q false r).map (· + 1) else if c = 92 then (qN q true r).map (· + 1) else if c = q then some 1 else (qN q false r).map (· + 1)
def lettN (l : List UInt8) : Nat :=
  if l.getD 0 0 = 117 ∧ l.getD 1 0 = 56 ∧ l.getD 2 0 = 34 then 2
  else if (l.getD 0 0 = 76 ∨ l.getD 0 0 = 117 ∨ l.getD 0 0 = 85) ∧ (l.getD 1 0 = 34 ∨ l.getD 1 0 = 39) then 1 else 0
def conN (l : List UInt8) : Option (Nat × Nat) :=
  if l.getD (lettN l) 0 = 34 then (qN 34 false (l.drop (lettN l + 1))).map fun n => (4, lettN l + 1 + n)
  else if l.getD (lettN l) 0 = 39 then (qN 39 false (l.drop (lettN l + 1))).map fun n => (3, lettN l + 1 + n)
  else none
/-- The punctuators, the longest first. -/
def PL : List (List UInt8) := [[37, 58, 37, 58], [46, 46, 46], [60, 60, 61], [62, 62, 61], [45, 62], [43, 43], [45, 45], [60, 60], [62, 62], [60, 61], [62, 61], [61, 61], [33, 61], [38, 38], [124, 124], [42, 61], [47, 61], [37, 61], [43, 61], [45, 61], [38, 61], [94, 61], [124, 61], [35, 35], [60, 58], [58, 62], [60, 37], [37, 62], [37, 58], [91], [93], [40], [41], [123], [125], [46], [38], [42], [43], [45], [126], [33], [47], [37], [60], [62], [94], [124], [63], [58], [59], [61], [44], [35]]
def punctN (l : List UInt8) : Nat := match PL.find? (fun p => p.isPrefixOf l) with
  | some p => p.length
  | none => 0
def tok (l : List UInt8) : Nat × Nat := match conN l with
  | some x => x
  | none => if isLet (l.getD 0 0) then (1, wordN (l.drop 1) + 1)
    else if isDig (l.getD 0 0) || (decide (l.getD 0 0 = 46) && isDig (l.getD 1 0)) then (2, numN (l.getD 0 0) (l.drop 1) + 1)
    else if 0 < punctN l then (5, punctN l) else (6, 1)
def badN (k : Nat) (c : UInt8) : Bool := decide (k = 6) && (decide (c.toNat = 34) || decide (c.toNat = 39))
def remN : List UInt8 → Nat
  | [] => 0
  | c :: r => if c = 10 then 0 else remN r + 1
def comN : List UInt8 → Option Nat
  | [] => none
  | c :: r => if c = 42 ∧ r.getD 0 0 = 47 then some 2 else (comN r).map (· + 1)
def begN (l : List UInt8) : Nat :=
  if l.getD 0 0 = 10 then 2 else if isWhi (l.getD 0 0) then 3
  else if l.getD 0 0 = 47 ∧ l.getD 1 0 = 47 then 4 else if l.getD 0 0 = 47 ∧ l.getD 1 0 = 42 then 5 else 1
inductive It where
  | nl | gap (n : Nat) | opn | tk (k n : Nat)
def item (l : List UInt8) : It :=
  if begN l = 2 then .nl else if begN l = 3 then .gap 1 else if begN l = 4 then .gap (remN l)
  else if begN l = 5 then (match comN (l.drop 2) with
    | some n => .gap (n + 2)
    | none => .opn) else .tk (tok l).1 (tok l).2

theorem getD_drop (l : List UInt8) (i k : Nat) : (l.drop i).getD k 0 = l.getD (i + k) 0 := by
  simp [List.getD, List.getElem?_drop]
theorem drop_cons {l : List UInt8} {i : Nat} (h : i < l.length) : l.drop i = l.getD i 0 :: l.drop (i + 1) := by
  rw [List.drop_eq_getElem_cons h]
  simp [List.getD, List.getElem?_eq_getElem h]
theorem getD_lt {l : List UInt8} {i : Nat} (h : l.getD i 0 ≠ 0) : i < l.length := by
  rcases Nat.lt_or_ge i l.length with h1 | h1
  · exact h1
  · exact absurd (by simp [List.getD, List.getElem?_eq_none h1]) h

theorem isWord_ne {c : UInt8} (h : isWord c = true) : c ≠ 10 ∧ c ≠ 34 ∧ c ≠ 39 ∧ c ≠ 47 ∧ c ≠ 0 ∧ isWhi c = false ∧ c ≠ 92 ∧ c ≠ 63 := by
  have e : ∀ n : Nat, n < 256 → c.toNat ≠ n → c ≠ UInt8.ofNat n := by
    intro n hn h1 h2
    apply h1
    rw [h2]
    simp
    omega
  have hc : (97 ≤ c.toNat ∧ c.toNat ≤ 122) ∨ (65 ≤ c.toNat ∧ c.toNat ≤ 90) ∨ c.toNat = 95 ∨ (48 ≤ c.toNat ∧ c.toNat ≤ 57) := by
    unfold isWord isLet isDig at h
    simp only [Bool.or_eq_true, Bool.and_eq_true, decide_eq_true_eq] at h
    omega
  refine ⟨e 10 (by omega) (by omega), e 34 (by omega) (by omega), e 39 (by omega) (by omega), e 47 (by omega) (by omega), e 0 (by omega) (by omega), ?_, e 92 (by omega) (by omega), e 63 (by omega) (by omega)⟩
  unfold isWhi
  simp
  omega

theorem wordN_le : ∀ l : List UInt8, wordN l ≤ l.length
  | [] => Nat.le_refl _
  | c :: r => by
    unfold wordN
    split
    · have := wordN_le r
      simp
      omega
    · simp
theorem wordN_in : ∀ (l : List UInt8) (j : Nat), j < wordN l → isWord (l.getD j 0) = true
  | [], j, h => by simp [wordN] at h
  | c :: r, 0, h => by
    unfold wordN at h
    split at h
    · assumption
    · omega
  | c :: r, j + 1, h => by
    unfold wordN at h
    split at h
    · simpa using wordN_in r j (by omega)
    · omega

theorem numC_ne {p c : UInt8} (h : numC p c = true) : c ≠ 10 ∧ c ≠ 34 ∧ c ≠ 39 := by
  unfold numC at h
  simp only [Bool.or_eq_true, Bool.and_eq_true, decide_eq_true_eq] at h
  rcases h with (h | h) | h
  · have := isWord_ne h
    exact ⟨this.1, this.2.1, this.2.2.1⟩
  · refine ⟨?_, ?_, ?_⟩ <;> (intro e; rw [e] at h; revert h; decide)
  · obtain ⟨-, h⟩ := h
    unfold isSign at h
    simp only [Bool.or_eq_true, decide_eq_true_eq] at h
    refine ⟨?_, ?_, ?_⟩ <;> (intro e; rw [e] at h; revert h; decide)
theorem numN_le : ∀ (p : UInt8) (l : List UInt8), numN p l ≤ l.length
  | _, [] => Nat.le_refl _
  | p, c :: r => by
    unfold numN
    split
    · have := numN_le c r
      simp
      omega
    · simp
theorem numN_in : ∀ (p : UInt8) (l : List UInt8) (j : Nat), j < numN p l → l.getD j 0 ≠ 10
  | _, [], j, h => by simp [numN] at h
  | p, c :: r, 0, h => by
    unfold numN at h
    split at h
    · rename_i h1
      simpa using (numC_ne h1).1
    · omega
  | p, c :: r, j + 1, h => by
    unfold numN at h
    split at h
    · simpa using numN_in c r j (by omega)
    · omega

theorem qN_in (q : UInt8) : ∀ (t : Bool) (l : List UInt8) (n : Nat), q ≠ 10 → qN q t l = some n → 0 < n ∧ n ≤ l.length ∧ ∀ j, j < n → l.getD j 0 ≠ 10
  | _, [], _, _, h => by cases h
  | t, c :: r, n, hq, h => by
    unfold qN at h
    split at h
    · cases h
    · rename_i h10
      have go : ∀ t', (qN q t' r).map (· + 1) = some n → 0 < n ∧ n ≤ (c :: r).length ∧ ∀ j, j < n → (c :: r).getD j 0 ≠ 10 := by
        intro t' h1
        rw [Option.map_eq_some_iff] at h1
        obtain ⟨m, hm, rfl⟩ := h1
        have := qN_in q t' r m hq hm
        refine ⟨by omega, by simp; omega, fun j hj => ?_⟩
        cases j with
        | zero => simpa using h10
        | succ j => simpa using this.2.2 j (by omega)
      repeat' (split at h)
      · exact go _ h
      · exact go _ h
      · cases h
        refine ⟨by omega, by simp, fun j hj => ?_⟩
        obtain rfl : j = 0 := by omega
        simpa using h10
      · exact go _ h

theorem lettN_is (l : List UInt8) : (lettN l = 0 ∨ (lettN l = 1 ∧ isWord (l.getD 0 0) = true ∧ (l.getD 1 0 = 34 ∨ l.getD 1 0 = 39)) ∨ (lettN l = 2 ∧ isWord (l.getD 0 0) = true ∧ isWord (l.getD 1 0) = true ∧ l.getD 2 0 = 34)) := by
  unfold lettN
  split
  · rename_i h
    exact .inr (.inr ⟨rfl, by rw [h.1]; decide, by rw [h.2.1]; decide, h.2.2⟩)
  · split
    · rename_i h
      refine .inr (.inl ⟨rfl, ?_, h.2⟩)
      rcases h.1 with h1 | h1 | h1 <;> (rw [h1]; decide)
    · exact .inl rfl

theorem lettN_in (l : List UInt8) (j : Nat) (h : j < lettN l) : isWord (l.getD j 0) = true := by
  rcases lettN_is l with h1 | h1 | h1
  · omega
  · obtain rfl : j = 0 := by omega
    exact h1.2.1
  · have : j = 0 ∨ j = 1 := by omega
    rcases this with rfl | rfl
    · exact h1.2.1
    · exact h1.2.2.1

theorem conN_in {l : List UInt8} {x : Nat × Nat} (h : conN l = some x) : 0 < x.2 ∧ x.2 ≤ l.length ∧ (x.1 = 3 ∨ x.1 = 4) ∧ ∀ j, j < x.2 → l.getD j 0 ≠ 10 := by
  have go : ∀ (q : UInt8) (n : Nat), q ≠ 10 → q ≠ 0 → l.getD (lettN l) 0 = q → qN q false (l.drop (lettN l + 1)) = some n → 0 < lettN l + 1 + n ∧ lettN l + 1 + n ≤ l.length ∧ ∀ j, j < lettN l + 1 + n → l.getD j 0 ≠ 10 := by
    intro q n hq h0 hl hn
    have h1 := qN_in q _ _ n hq hn
    rw [List.length_drop] at h1
    have h2 : lettN l < l.length := getD_lt (by rw [hl]; exact h0)
    refine ⟨by omega, by omega, fun j hj => ?_⟩
    by_cases hj1 : j < lettN l
    · exact (isWord_ne (lettN_in l j hj1)).1
    · by_cases hj2 : j = lettN l
      · rw [hj2, hl]
        exact hq
      · have := h1.2.2 (j - (lettN l + 1)) (by omega)
        rw [getD_drop, show lettN l + 1 + (j - (lettN l + 1)) = j from by omega] at this
        exact this
  unfold conN at h
  split at h
  · rename_i hq
    rw [Option.map_eq_some_iff] at h
    obtain ⟨n, hn, rfl⟩ := h
    have := go 34 n (by decide) (by decide) hq hn
    exact ⟨this.1, this.2.1, .inr rfl, this.2.2⟩
  · split at h
    · rename_i hq
      rw [Option.map_eq_some_iff] at h
      obtain ⟨n, hn, rfl⟩ := h
      have := go 39 n (by decide) (by decide) hq hn
      exact ⟨this.1, this.2.1, .inl rfl, this.2.2⟩
    · cases h

theorem punctN_is {l : List UInt8} (h : 0 < punctN l) : ∃ p ∈ PL, p <+: l ∧ p.length = punctN l := by
  unfold punctN at h ⊢
  split
  · rename_i p hp
    have h2 : p.isPrefixOf l = true := List.find?_some (p := fun p : List UInt8 => p.isPrefixOf l) hp
    exact ⟨p, List.mem_of_find?_eq_some hp, List.isPrefixOf_iff_prefix.1 h2, rfl⟩
  · rename_i hp
    rw [hp] at h
    simp at h

theorem PL_len : ∀ p ∈ PL, 1 ≤ p.length ∧ p.length ≤ 4 := by decide
theorem PL_no : ∀ p ∈ PL, ∀ c ∈ p, c ≠ 10 ∧ c ≠ 34 ∧ c ≠ 39 ∧ isWord c = false ∧ c ≠ 32 ∧ c ≠ 92 := by decide

theorem prefix_get {p l : List UInt8} (h : p <+: l) {j : Nat} (hj : j < p.length) : l.getD j 0 = p.getD j 0 := by
  obtain ⟨r, rfl⟩ := h
  simp [List.getD, List.getElem?_append_left hj]

theorem get_mem {p : List UInt8} {j : Nat} (hj : j < p.length) : p.getD j 0 ∈ p := by
  simp [List.getD, List.getElem?_eq_getElem hj]

/-- A token has a length, and no byte 10 in it. -/
theorem tok_in {l : List UInt8} (h0 : 0 < l.length) (h10 : l.getD 0 0 ≠ 10) : 0 < (tok l).2 ∧ (tok l).2 ≤ l.length ∧ ∀ j, j < (tok l).2 → l.getD j 0 ≠ 10 := by
  unfold tok
  split
  · rename_i x h
    have := conN_in h
    exact ⟨this.1, this.2.1, this.2.2.2⟩
  · split
    · have h1 := wordN_le (l.drop 1)
      rw [List.length_drop] at h1
      refine ⟨by simp, by simp only; omega, fun j hj => ?_⟩
      cases j with
      | zero => exact h10
      | succ j =>
        have := wordN_in (l.drop 1) j (by simp only at hj; omega)
        rw [getD_drop] at this
        rw [Nat.add_comm j 1]
        exact (isWord_ne this).1
    · split
      · have h1 := numN_le (l.getD 0 0) (l.drop 1)
        rw [List.length_drop] at h1
        refine ⟨by simp, by simp only; omega, fun j hj => ?_⟩
        cases j with
        | zero => exact h10
        | succ j =>
          have := numN_in (l.getD 0 0) (l.drop 1) j (by simp only at hj; omega)
          rw [getD_drop] at this
          rw [Nat.add_comm j 1]
          exact this
      · split
        · rename_i hp
          obtain ⟨p, hm, hpre, hlen⟩ := punctN_is hp
          refine ⟨hp, by rw [← hlen]; exact hpre.length_le, fun j hj => ?_⟩
          rw [← hlen] at hj
          rw [prefix_get hpre hj]
          exact (PL_no p hm _ (get_mem hj)).1
        · refine ⟨by simp, by simp only; omega, fun j hj => ?_⟩
          simp at hj
          rw [hj]
          exact h10

theorem remN_in : ∀ (l : List UInt8), remN l ≤ l.length ∧ ∀ j, j < remN l → l.getD j 0 ≠ 10
  | [] => by simp [remN]
  | c :: r => by
    have h := remN_in r
    unfold remN
    split
    · simp
    · rename_i hc
      refine ⟨by simp; omega, fun j hj => ?_⟩
      cases j with
      | zero => simpa using hc
      | succ j => simpa using h.2 j (by omega)

theorem comN_in : ∀ (l : List UInt8) (n : Nat), comN l = some n → 2 ≤ n ∧ n ≤ l.length ∧ l.getD (n - 1) 0 = 47
  | [], _, h => by cases h
  | c :: r, n, h => by
    unfold comN at h
    split at h
    · rename_i h1
      cases h
      have h2 : 0 < r.length := getD_lt (by rw [h1.2]; decide)
      refine ⟨Nat.le_refl _, by simp; omega, ?_⟩
      simpa using h1.2
    · rw [Option.map_eq_some_iff] at h
      obtain ⟨m, hm, rfl⟩ := h
      have := comN_in r m hm
      refine ⟨by omega, by simp; omega, ?_⟩
      obtain ⟨m', rfl⟩ : ∃ m', m = m' + 1 := ⟨m - 1, by omega⟩
      simpa using this.2.2

theorem begN_five (l : List UInt8) : begN l = 1 ∨ begN l = 2 ∨ begN l = 3 ∨ begN l = 4 ∨ begN l = 5 := by
  unfold begN
  repeat' split
  all_goals simp

theorem begN_two {l : List UInt8} (h : begN l = 2) : l.getD 0 0 = 10 := by
  unfold begN at h
  repeat' (split at h)
  all_goals (first | assumption | omega)
theorem begN_two' {l : List UInt8} (h : l.getD 0 0 = 10) : begN l = 2 := by
  unfold begN
  rw [if_pos h]
theorem begN_four {l : List UInt8} (h : begN l = 4) : l.getD 0 0 = 47 ∧ l.getD 1 0 = 47 := by
  unfold begN at h
  repeat' (split at h)
  all_goals (first | assumption | omega)
theorem begN_fiveC {l : List UInt8} (h : begN l = 5) : l.getD 0 0 = 47 ∧ l.getD 1 0 = 42 := by
  unfold begN at h
  repeat' (split at h)
  all_goals (first | assumption | omega)

/-- How long an item is, that is not open: it lies within the list, and its last byte is a 10 only of nl. -/
def It.len : It → Nat
  | .nl => 1
  | .gap n => n
  | .opn => 0
  | .tk _ n => n

theorem item_nl {l : List UInt8} (h : begN l = 2) : item l = .nl := by unfold item; rw [if_pos h]
theorem item_sp {l : List UInt8} (h : begN l = 3) : item l = .gap 1 := by unfold item; rw [if_neg (by omega), if_pos h]
theorem item_rem {l : List UInt8} (h : begN l = 4) : item l = .gap (remN l) := by unfold item; rw [if_neg (by omega), if_neg (by omega), if_pos h]
theorem item_com {l : List UInt8} {n : Nat} (h : begN l = 5) (hn : comN (l.drop 2) = some n) : item l = .gap (n + 2) := by
  unfold item
  rw [if_neg (by omega), if_neg (by omega), if_neg (by omega), if_pos h, hn]
theorem item_opn {l : List UInt8} (h : begN l = 5) (hn : comN (l.drop 2) = none) : item l = .opn := by
  unfold item
  rw [if_neg (by omega), if_neg (by omega), if_neg (by omega), if_pos h, hn]
theorem item_tk {l : List UInt8} (h : begN l = 1) : item l = .tk (tok l).1 (tok l).2 := by
  unfold item
  rw [if_neg (by omega), if_neg (by omega), if_neg (by omega), if_neg (by omega)]

theorem remN_pos {l : List UInt8} (h0 : 0 < l.length) (h : l.getD 0 0 ≠ 10) : 0 < remN l := by
  cases l with
  | nil => simp at h0
  | cons c r =>
    unfold remN
    rw [if_neg (by simpa using h)]
    omega

theorem item_in {l : List UInt8} (h0 : 0 < l.length) (ho : item l ≠ .opn) : 0 < (item l).len ∧ (item l).len ≤ l.length ∧ (item l ≠ .nl → l.getD ((item l).len - 1) 0 ≠ 10) := by
  by_cases h2 : begN l = 2
  · rw [item_nl h2]
    exact ⟨by simp [It.len], by simp [It.len]; omega, fun h => absurd rfl h⟩
  · have h10 : l.getD 0 0 ≠ 10 := fun h => h2 (begN_two' h)
    rcases begN_five l with h | h | h | h | h
    · rw [item_tk h]
      have ht := tok_in h0 h10
      exact ⟨ht.1, ht.2.1, fun _ => ht.2.2 _ (by simp only [It.len]; omega)⟩
    · exact absurd h h2
    · rw [item_sp h]
      exact ⟨by simp [It.len], by simp [It.len]; omega, fun _ => by simpa [It.len] using h10⟩
    · rw [item_rem h]
      have hr := remN_in l
      have h1 := remN_pos h0 h10
      exact ⟨h1, hr.1, fun _ => hr.2 _ (by simp only [It.len]; omega)⟩
    · cases hc : comN (l.drop 2) with
      | none => exact absurd (item_opn h hc) ho
      | some n =>
        rw [item_com h hc]
        have h1 := comN_in _ n hc
        rw [List.length_drop, getD_drop] at h1
        refine ⟨by simp [It.len], by simp only [It.len]; omega, fun _ => ?_⟩
        simp only [It.len]
        rw [show n + 2 - 1 = 2 + (n - 1) from by omega, h1.2.2]
        decide

end Go.Proofs.YtpnboieppkjfnaaGreat

/-
  Lines of a text, over lists: the run over the characters, item by item.
-/
namespace Go.Proofs.YtpnboieppkjfnaaGreat

structure Tk where
  k : Nat
  x : List UInt8
  sp : Bool
  f : Nat
  t : Nat
structure Ln where
  toks : List Tk
  f : Nat
  t : Nat
  o : Bool
structure Dg where
  c : Nat
  f : Nat
  t : Nat
structure Acc where
  fr : Nat
  sp : Bool
  toks : List Tk
  lines : List Ln
  diags : List Dg

def rnF (L : List Rn) (i : Nat) : Nat := match L[i]? with
  | some r => r.f
  | none => 0
def rnT (L : List Rn) (i : Nat) : Nat := match L[i]? with
  | some r => r.t
  | none => 0
def bytesOf (L : List Rn) : List UInt8 := L.map Rn.c

/-- Where a line ends, behind whose byte 10 (or open comment) the place i is. -/
def toA (L : List Rn) (sz i : Nat) : Nat := if i < L.length then rnT L (i - 1) else sz
def endA (a : Acc) (to : Nat) (o : Bool) : Acc := { a with fr := to, sp := false, toks := [], lines := a.lines ++ [⟨a.toks, a.fr, to, o⟩] }
def tellA (L : List Rn) (a : Acc) (c i e : Nat) : Acc := { a with diags := a.diags ++ [⟨c, rnF L i, rnT L (e - 1)⟩] }
def pushA (L : List Rn) (a : Acc) (k i n : Nat) : Acc := { a with sp := false, toks := a.toks ++ [⟨k, ((bytesOf L).drop i).take n, a.sp, rnF L i, rnT L (i + n - 1)⟩] }
def takeA (L : List Rn) (a : Acc) (k i n : Nat) : Acc := pushA L (if badN k ((bytesOf L).getD i 0) then tellA L a 2 i (i + n) else a) k i n

def lenA (L : List Rn) (i : Nat) : It → Nat
  | .nl => 1
  | .gap n => n
  | .opn => L.length - i
  | .tk _ n => n
def stepA (L : List Rn) (sz i : Nat) (a : Acc) : It → Acc
  | .nl => endA a (toA L sz (i + 1)) false
  | .gap _ => { a with sp := true }
  | .opn => endA (tellA L a 1 i (i + 2)) sz true
  | .tk k n => takeA L a k i n
def runA (L : List Rn) (sz : Nat) : Nat → Nat → Acc → Acc
  | 0, _, a => a
  | m + 1, i, a => if i < L.length then runA L sz m (i + lenA L i (item ((bytesOf L).drop i))) (stepA L sz i a (item ((bytesOf L).drop i))) else a

def acc0 : Acc := ⟨0, false, [], [], []⟩
def linesA (L : List Rn) (sz : Nat) : Acc := runA L sz L.length 0 acc0
/-- From i on. -/
def fromA (L : List Rn) (sz i : Nat) (a : Acc) : Acc := runA L sz (L.length - i) i a

theorem bytesOf_len (L : List Rn) : (bytesOf L).length = L.length := by simp [bytesOf]

theorem lenA_in {L : List Rn} {i : Nat} (hi : i < L.length) : 0 < lenA L i (item ((bytesOf L).drop i)) ∧ i + lenA L i (item ((bytesOf L).drop i)) ≤ L.length := by
  have hl : 0 < ((bytesOf L).drop i).length := by rw [List.length_drop, bytesOf_len]; omega
  have h := item_in (l := (bytesOf L).drop i) hl
  rw [List.length_drop, bytesOf_len] at h
  cases he : item ((bytesOf L).drop i) with
  | opn => simp only [lenA]; omega
  | nl => simp only [lenA]; omega
  | gap n =>
    rw [he] at h
    have := h (by simp)
    simp only [lenA, It.len] at *
    omega
  | tk k n =>
    rw [he] at h
    have := h (by simp)
    simp only [lenA, It.len] at *
    omega

theorem runA_fuel (L : List Rn) (sz : Nat) : ∀ (n m i : Nat) (a : Acc), L.length - i ≤ n → L.length - i ≤ m → runA L sz n i a = runA L sz m i a
  | 0, 0, _, _, _, _ => rfl
  | 0, m + 1, i, a, h, _ => by
    unfold runA
    rw [if_neg (by omega)]
  | n + 1, 0, i, a, _, h => by
    unfold runA
    rw [if_neg (by omega)]
  | n + 1, m + 1, i, a, h1, h2 => by
    unfold runA
    split
    · rename_i hi
      have := lenA_in hi
      exact runA_fuel L sz n m _ _ (by omega) (by omega)
    · rfl

theorem fromA_end {L : List Rn} {sz i : Nat} {a : Acc} (h : L.length ≤ i) : fromA L sz i a = a := by
  unfold fromA
  rw [show L.length - i = 0 from by omega]
  rfl
theorem fromA_step {L : List Rn} {sz i : Nat} {a : Acc} (h : i < L.length) : fromA L sz i a = fromA L sz (i + lenA L i (item ((bytesOf L).drop i))) (stepA L sz i a (item ((bytesOf L).drop i))) := by
  have hl := lenA_in h
  unfold fromA
  obtain ⟨n, hn⟩ : ∃ n, L.length - i = n + 1 := ⟨L.length - i - 1, by omega⟩
  rw [hn]
  show (if i < L.length then _ else _) = _
  rw [if_pos h]
  exact runA_fuel L sz n _ _ _ (by omega) (by omega)

end Go.Proofs.YtpnboieppkjfnaaGreat

/-
  Two pieces of a text, over lists: what stands in them is what stands in the whole, unless it was cut within what belongs together.
-/
namespace Go.Proofs.YtpnboieppkjfnaaGreat

/-- The first piece ends with nothing that may begin a trigraph or a splice. -/
def Whole (a : List UInt8) : Prop :=
  (0 < a.length → a.getD (a.length - 1) 0 ≠ 63 ∧ a.getD (a.length - 1) 0 ≠ 92) ∧ (2 < a.length → ¬ (a.getD (a.length - 3) 0 = 63 ∧ a.getD (a.length - 2) 0 = 63 ∧ a.getD (a.length - 1) 0 = 47))

theorem get_left {a b : List UInt8} {i : Nat} (h : i < a.length) : (a ++ b).getD i 0 = a.getD i 0 := by
  simp only [List.getD]
  rw [List.getElem?_append_left h]
theorem get_right (a b : List UInt8) (j : Nat) : (a ++ b).getD (a.length + j) 0 = b.getD j 0 := by
  simp only [List.getD]
  rw [List.getElem?_append_right (by omega)]
  congr 2
  omega

theorem triAt_left {a b : List UInt8} (hw : Whole a) {i : Nat} (hi : i < a.length) : triAt (a ++ b) i = triAt a i := by
  by_cases h2 : i + 2 < a.length
  · unfold triAt
    rw [get_left hi, get_left (i := i + 1) (by omega), get_left (i := i + 2) (by omega), List.length_append]
    by_cases h : a.getD i 0 = 63 ∧ a.getD (i + 1) 0 = 63
    · rw [if_pos ⟨by omega, h⟩, if_pos ⟨h2, h⟩]
    · rw [if_neg fun h1 => h h1.2, if_neg fun h1 => h h1.2]
  · have e1 : triAt a i = none := by
      unfold triAt
      rw [if_neg fun h1 => h2 h1.1]
    rw [e1]
    have hl := (hw.1 (by omega)).1
    by_cases h1 : i + 1 < a.length
    · apply triAt_not2
      rw [get_left h1, show i + 1 = a.length - 1 from by omega]
      exact hl
    · apply triAt_not
      rw [get_left hi, show i = a.length - 1 from by omega]
      exact hl

theorem one_left {a b : List UInt8} (hw : Whole a) {i : Nat} (hi : i < a.length) : one (a ++ b) i = one a i := by
  unfold one
  rw [triAt_left hw hi, get_left hi]

theorem spl_left {a b : List UInt8} (hw : Whole a) {i : Nat} (hi : i < a.length) : spl (a ++ b) (one a i) = spl a (one a i) := by
  have ht := one_t a i
  by_cases h : (one a i).t < a.length
  · unfold spl
    rw [get_left h, List.length_append]
    rw [decide_eq_true h, decide_eq_true (show (one a i).t < a.length + b.length from by omega)]
  · have hc : (one a i).c ≠ 92 := by
      cases htr : triAt a i with
      | none =>
        have e : one a i = ⟨a.getD i 0, i, i + 1⟩ := by unfold one; rw [htr]
        rw [e] at h ⊢
        simp only at h
        have := (hw.1 (by omega)).2
        rw [show a.length - 1 = i from by omega] at this
        exact this
      | some d =>
        have e : one a i = ⟨d, i, i + 3⟩ := by unfold one; rw [htr]
        have hs := triAt_some htr
        rw [e] at h ⊢
        simp only at h
        have h3 := hw.2 (by omega)
        rw [show a.length - 3 = i from by omega, show a.length - 2 = i + 1 from by omega, show a.length - 1 = i + 2 from by omega] at h3
        intro hd
        have hd' : d = 92 := hd
        apply h3
        refine ⟨hs.2.1, hs.2.2.1, ?_⟩
        have h4 := hs.2.2.2
        rw [hd'] at h4
        generalize a.getD (i + 2) 0 = x at h4
        unfold tri at h4
        repeat' (split at h4)
        all_goals (first | assumption | (exact absurd h4 (by decide)) | cases h4)
    unfold spl
    rw [decide_eq_false hc]
    rfl

theorem tk_left {a b : List UInt8} (hw : Whole a) {i : Nat} (hi : i < a.length) : tk (a ++ b) i = tk a i := by
  unfold tk
  rw [one_left hw hi, spl_left hw hi]

theorem chs_left {a b : List UInt8} (hw : Whole a) : ∀ (n i : Nat), a.length - i ≤ n → i ≤ a.length → chs (a ++ b) i = chs a i ++ chs (a ++ b) a.length
  | 0, i, h, hi => by
    have e : i = a.length := by omega
    rw [e, chs_end (l := a) (Nat.le_refl _)]
    rfl
  | n + 1, i, h, hi => by
    by_cases hlt : i < a.length
    · have ht := tk_t a i
      rw [chs_step (l := a ++ b) (by rw [List.length_append]; omega), chs_step hlt, tk_left hw hlt, chs_left hw n (tk a i).1.t (by omega) (ht.2.2 hlt), List.append_assoc]
    · have e : i = a.length := by omega
      rw [e, chs_end (l := a) (Nat.le_refl _)]
      rfl

def sh (n : Nat) (r : Rn) : Rn := ⟨r.c, n + r.f, n + r.t⟩

theorem triAt_right (a b : List UInt8) (j : Nat) : triAt (a ++ b) (a.length + j) = triAt b j := by
  unfold triAt
  rw [get_right, Nat.add_assoc, Nat.add_assoc, get_right, get_right, List.length_append]
  by_cases h : j + 2 < b.length ∧ b.getD j 0 = 63 ∧ b.getD (j + 1) 0 = 63
  · rw [if_pos h, if_pos ⟨by omega, h.2⟩]
  · rw [if_neg h, if_neg]
    rintro ⟨h1, h2⟩
    exact h ⟨by omega, h2⟩

theorem one_right (a b : List UInt8) (j : Nat) : one (a ++ b) (a.length + j) = sh a.length (one b j) := by
  unfold one
  rw [triAt_right, get_right]
  split <;> rfl

theorem spl_right (a b : List UInt8) (r : Rn) : spl (a ++ b) (sh a.length r) = spl b r := by
  unfold spl sh
  simp only
  rw [get_right, List.length_append]
  congr 2
  simp

theorem tk_right (a b : List UInt8) (j : Nat) : tk (a ++ b) (a.length + j) = (sh a.length (tk b j).1, (tk b j).2) := by
  unfold tk
  rw [one_right, spl_right]
  split <;> rfl

theorem chs_right (a b : List UInt8) : ∀ (n j : Nat), b.length - j ≤ n → chs (a ++ b) (a.length + j) = (chs b j).map (sh a.length)
  | 0, j, h => by
    rw [chs_end (l := b) (by omega), chs_end (by rw [List.length_append]; omega)]
    rfl
  | n + 1, j, h => by
    by_cases hlt : j < b.length
    · have ht := tk_t b j
      rw [chs_step (by rw [List.length_append]; omega), chs_step hlt, tk_right, List.map_append]
      show _ ++ chs (a ++ b) (a.length + (tk b j).1.t) = _
      rw [chs_right a b n (tk b j).1.t (by omega)]
      split <;> rfl
    · rw [chs_end (l := b) (by omega), chs_end (by rw [List.length_append]; omega)]
      rfl

theorem chs_append {a b : List UInt8} (hw : Whole a) : chs (a ++ b) 0 = chs a 0 ++ (chs b 0).map (sh a.length) := by
  rw [chs_left hw a.length 0 (by omega) (by omega)]
  have := chs_right a b b.length 0 (by omega)
  rw [Nat.add_zero] at this
  rw [this]

theorem filter_all {L : List Rn} {p : Rn → Bool} (h : ∀ r ∈ L, p r = true) : L.filter p = L := List.filter_eq_self.2 h
theorem filter_none {L : List Rn} {p : Rn → Bool} (h : ∀ r ∈ L, p r = false) : L.filter p = [] := List.filter_eq_nil_iff.2 fun r hr => by rw [h r hr]; simp

theorem backL_whole (l : List UInt8) (b : Int) (hb : (l.length : Int) ≤ b) : backL l 0 b = (chs l 0).map Rn.c := by
  unfold backL bk
  rw [filter_all]
  intro r hr
  have := chs_mem l _ 0 (Nat.le_refl _) r hr
  unfold within
  simp
  omega

theorem map_sh (n : Nat) (L : List Rn) : (L.map (sh n)).map Rn.c = L.map Rn.c := by
  rw [List.map_map]
  rfl

theorem back_parts {a b : List UInt8} (hw : Whole a) : backL (a ++ b) 0 ((a.length : Int) + b.length) = backL a 0 a.length ++ backL b 0 b.length := by
  rw [backL_whole (a ++ b) ((a.length : Int) + b.length) (by rw [List.length_append]; omega), backL_whole a a.length (Int.le_refl _), backL_whole b b.length (Int.le_refl _), chs_append hw, List.map_append, map_sh]

theorem back_halves {a b : List UInt8} (hw : Whole a) : backL (a ++ b) 0 a.length ++ backL (a ++ b) a.length ((a.length : Int) + b.length) = backL (a ++ b) 0 ((a.length : Int) + b.length) := by
  rw [backL_whole (a ++ b) ((a.length : Int) + b.length) (by rw [List.length_append]; omega)]
  unfold backL bk
  rw [chs_append hw, List.filter_append, List.filter_append, List.map_append, List.map_append, List.map_append, map_sh]
  have h1 : (chs a 0).filter (within 0 a.length) = chs a 0 := filter_all fun r hr => by
    have := chs_mem a _ 0 (Nat.le_refl _) r hr
    unfold within
    simp
    omega
  have h2 : ((chs b 0).map (sh a.length)).filter (within 0 a.length) = [] := filter_none fun r hr => by
    obtain ⟨q, hq, rfl⟩ := List.mem_map.1 hr
    have := chs_mem b _ 0 (Nat.le_refl _) q hq
    unfold within sh
    simp
    omega
  have h3 : (chs a 0).filter (within a.length ((a.length : Int) + b.length)) = [] := filter_none fun r hr => by
    have := chs_mem a _ 0 (Nat.le_refl _) r hr
    unfold within
    simp
    omega
  have h4 : ((chs b 0).map (sh a.length)).filter (within a.length ((a.length : Int) + b.length)) = (chs b 0).map (sh a.length) := filter_all fun r hr => by
    obtain ⟨q, hq, rfl⟩ := List.mem_map.1 hr
    have := chs_mem b _ 0 (Nat.le_refl _) q hq
    unfold within sh
    simp
    omega
  rw [h1, h2, h3, h4, map_sh]
  simp

end Go.Proofs.YtpnboieppkjfnaaGreat
