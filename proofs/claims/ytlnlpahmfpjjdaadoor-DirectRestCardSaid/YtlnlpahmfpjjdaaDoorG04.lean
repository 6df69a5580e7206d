/-
  Texts of the proof, put together: LxW, LxP, LxM.
-/
import Derived.Test.YtlnlpahmfpjjdaaDoorG03

/-
  Words and numbers, of the project: how long they are.
-/
namespace Go.Proofs.YtlnlpahmfpjjdaaDoor
open Go.RowKit

theorem quiet_bool {f : FuncId} {args : Array Value} {w : World} {n : Nat} {b : Bool} (h : Calls Tryd.prog f args (w.drewN n) (BoolPost b (w.drewN n))) :
    Calls Tryd.prog f args (w.drewN n) fun e w'' => e = .returned (.bool b) ∧ ∃ m, w'' = w.drewN m :=
  h.mono fun _ _ ⟨he, hm⟩ => ⟨he, n, hm.symm⟩
theorem quiet_nat {f : FuncId} {args : Array Value} {w : World} {n : Nat} {b : Nat} (h : Calls Tryd.prog f args (w.drewN n) (NatPost b (w.drewN n))) :
    Calls Tryd.prog f args (w.drewN n) fun e w'' => e = .returned (.int .i64 (b : Int)) ∧ ∃ m, w'' = w.drewN m :=
  h.mono fun _ _ ⟨he, hm⟩ => ⟨he, n, hm.symm⟩
/-- A natural number, in a world that may have drawn. -/
def NatDrew (b : Nat) (w : World) (e : Ending) (w' : World) : Prop := e = .returned (.int .i64 (b : Int)) ∧ ∃ n, w' = w.drewN n
theorem quiet_ndrew {f : FuncId} {args : Array Value} {w : World} {n : Nat} {b : Nat} (h : Calls Tryd.prog f args (w.drewN n) (NatDrew b (w.drewN n))) :
    Calls Tryd.prog f args (w.drewN n) fun e w'' => e = .returned (.int .i64 (b : Int)) ∧ ∃ m, w'' = w.drewN m :=
  h.mono fun _ _ ⟨he, m, hm⟩ => ⟨he, n + m, by rw [hm, World.drewN_drewN]⟩

/-- A list that ends with a byte 10. -/
def Nl (l : List UInt8) : Prop := 0 < l.length ∧ l.getD (l.length - 1) 0 = 10

theorem Nl.drop {l : List UInt8} (h : Nl l) {i : Nat} (hi : i < l.length) : Nl (l.drop i) := by
  refine ⟨by rw [List.length_drop]; omega, ?_⟩
  rw [getD_drop, List.length_drop, show i + (l.length - i - 1) = l.length - 1 from by omega]
  exact h.2
theorem Nl.two {l : List UInt8} (h : Nl l) (h0 : l.getD 0 0 ≠ 10) : 1 < l.length := by
  rcases Nat.lt_or_ge 1 l.length with h1 | h1
  · exact h1
  · have e : l.length - 1 = 0 := by omega
    have := h.2
    rw [e] at this
    exact absurd this h0
theorem Nl.word {l : List UInt8} (h : Nl l) : wordN l < l.length := by
  have h1 := wordN_le l
  rcases Nat.lt_or_ge (wordN l) l.length with h2 | h2
  · exact h2
  · have h3 := wordN_in l (l.length - 1) (by have := h.1; omega)
    rw [h.2] at h3
    exact absurd h3 (by decide)
theorem Nl.num {l : List UInt8} (h : Nl l) (p : UInt8) : numN p l < l.length := by
  have h1 := numN_le p l
  rcases Nat.lt_or_ge (numN p l) l.length with h2 | h2
  · exact h2
  · exact absurd h.2 (numN_in p l (l.length - 1) (by have := h.1; omega))

theorem wordN_step {l : List UInt8} {k : Nat} (hk : k < l.length) : wordN (l.drop k) = if isWord (l.getD k 0) then wordN (l.drop (k + 1)) + 1 else 0 := by
  rw [drop_cons hk]
  rfl
theorem numN_step {l : List UInt8} {k : Nat} (p : UInt8) (hk : k < l.length) : numN p (l.drop k) = if numC p (l.getD k 0) then numN (l.getD k 0) (l.drop (k + 1)) + 1 else 0 := by
  rw [drop_cons hk]
  rfl

def WordRel (s : ByteArray) (i : Value) : Prop := ∃ k : Nat, i = .int .i64 (k : Int) ∧ 1 ≤ k ∧ k < s.size ∧ wordN (s.data.toList.drop 1) + 1 = wordN (s.data.toList.drop k) + k

theorem word_on {s : ByteArray} {k : Nat} (hN : Nl s.data.toList) (hk1 : 1 ≤ k) (hk : k < s.size) (h : wordN (s.data.toList.drop 1) + 1 = wordN (s.data.toList.drop k) + k) (hw : isWord s[k] = true) : WordRel s (.int .i64 ((k : Int) + 1)) := by
  have hl := len_byte s
  rw [wordN_step (k := k) (by omega), get_byte s k hk, if_pos hw] at h
  refine ⟨k + 1, rfl, by omega, ?_, by omega⟩
  have := (hN.drop (i := 1) (by omega)).word
  rw [List.length_drop] at this
  omega
theorem word_off {s : ByteArray} {k : Nat} (hk : k < s.size) (h : wordN (s.data.toList.drop 1) + 1 = wordN (s.data.toList.drop k) + k) (hw : isWord s[k] = false) : (k : Int) = ((wordN (s.data.toList.drop 1) + 1 : Nat) : Int) := by
  have hl := len_byte s
  rw [wordN_step (k := k) (by omega), get_byte s k hk, if_neg (by rw [hw]; simp)] at h
  omega

theorem exp_index (c : UInt8) : (0 ≤ Lib.indexByte [101, 69, 112, 80] c) = (isExp c = true) := by
  apply propext
  have e : ∀ n : Nat, n < 256 → ((UInt8.ofNat n == c) = true ↔ c.toNat = n) := by
    intro n hn
    rw [beq_iff_eq]
    constructor
    · rintro rfl
      simp
      omega
    · intro h
      apply UInt8.toNat_inj.1
      simp
      omega
  have e1 := e 101 (by omega)
  have e2 := e 69 (by omega)
  have e3 := e 112 (by omega)
  have e4 := e 80 (by omega)
  unfold isExp
  simp only [Bool.or_eq_true, decide_eq_true_eq, ← e1, ← e2, ← e3, ← e4, Lib.indexByte]
  by_cases h1 : (UInt8.ofNat 101 == c) = true
  · simp [show ((101 : UInt8) == c) = true from h1]
  · by_cases h2 : (UInt8.ofNat 69 == c) = true
    · simp [show ((69 : UInt8) == c) = true from h2, show ((101 : UInt8) == c) = false from by simpa using h1]
    · by_cases h3 : (UInt8.ofNat 112 == c) = true
      · simp [show ((112 : UInt8) == c) = true from h3, show ((101 : UInt8) == c) = false from by simpa using h1, show ((69 : UInt8) == c) = false from by simpa using h2]
      · by_cases h4 : (UInt8.ofNat 80 == c) = true
        · simp [show ((80 : UInt8) == c) = true from h4, show ((101 : UInt8) == c) = false from by simpa using h1, show ((69 : UInt8) == c) = false from by simpa using h2, show ((112 : UInt8) == c) = false from by simpa using h3]
        · simp [show ((101 : UInt8) == c) = false from by simpa using h1, show ((69 : UInt8) == c) = false from by simpa using h2, show ((112 : UInt8) == c) = false from by simpa using h3, show ((80 : UInt8) == c) = false from by simpa using h4]

def NumRel (s : ByteArray) (i : Value) : Prop := ∃ k : Nat, i = .int .i64 (k : Int) ∧ 1 ≤ k ∧ k < s.size ∧ numN (s.data.toList.getD 0 0) (s.data.toList.drop 1) + 1 = numN (s.data.toList.getD (k - 1) 0) (s.data.toList.drop k) + k

theorem num_on {s : ByteArray} {k : Nat} (hN : Nl s.data.toList) (hk1 : 1 ≤ k) (hk : k < s.size) (h : numN (s.data.toList.getD 0 0) (s.data.toList.drop 1) + 1 = numN (s.data.toList.getD (k - 1) 0) (s.data.toList.drop k) + k) (hw : numC (s.data.toList.getD (k - 1) 0) s[k] = true) : NumRel s (.int .i64 ((k : Int) + 1)) := by
  have hl := len_byte s
  rw [numN_step (k := k) _ (by omega), get_byte s k hk, if_pos hw] at h
  refine ⟨k + 1, rfl, by omega, ?_, ?_⟩
  · have := (hN.drop (i := 1) (by omega)).num (s.data.toList.getD 0 0)
    rw [List.length_drop] at this
    omega
  · rw [Nat.add_sub_cancel, get_byte s k hk]
    omega
theorem num_off {s : ByteArray} {k : Nat} (hk : k < s.size) (h : numN (s.data.toList.getD 0 0) (s.data.toList.drop 1) + 1 = numN (s.data.toList.getD (k - 1) 0) (s.data.toList.drop k) + k) (hw : numC (s.data.toList.getD (k - 1) 0) s[k] = false) : (k : Int) = ((numN (s.data.toList.getD 0 0) (s.data.toList.drop 1) + 1 : Nat) : Int) := by
  have hl := len_byte s
  rw [numN_step (k := k) _ (by omega), get_byte s k hk, if_neg (by rw [hw]; simp)] at h
  omega

theorem num_fin {s : ByteArray} {j m n : Nat} {w wr : World} {hj : j < s.size} (hN : Nl s.data.toList) (hp : s.data.toList.getD j 0 = s[j]) (hw : wr = w.drewN m) (hk1 : 1 ≤ j + 1) (hk : j + 1 < s.size) (h : numN (s.data.toList.getD 0 0) (s.data.toList.drop 1) + 1 = numN s[j] (s.data.toList.drop (j + 1)) + (j + 1)) (hx : numC s[j] s[j + 1] = true) :
    NumRel s (.int .i64 ((j : Int) + 1 + 1)) ∧ ∃ n', wr.drewN n = w.drewN n' := by
  refine ⟨?_, m + n, by rw [hw, World.drewN_drewN]⟩
  have h := num_on hN hk1 hk (by rw [Nat.add_sub_cancel, hp]; exact h) (by rw [Nat.add_sub_cancel, hp]; exact hx)
  simpa using h
theorem num_done {s : ByteArray} {j m n : Nat} {w wr : World} {hj : j < s.size} (hp : s.data.toList.getD j 0 = s[j]) (hw : wr = w.drewN m) (hk : j + 1 < s.size) (h : numN (s.data.toList.getD 0 0) (s.data.toList.drop 1) + 1 = numN s[j] (s.data.toList.drop (j + 1)) + (j + 1)) (hx : numC s[j] s[j + 1] = false) :
    NatDrew (numN (s.data.toList.getD 0 0) (s.data.toList.drop 1) + 1) w (.returned (.int .i64 ((j : Int) + 1))) (wr.drewN n) := by
  refine ⟨ret_nat ?_, m + n, by rw [hw, World.drewN_drewN]⟩
  have h := num_off hk (by rw [Nat.add_sub_cancel, hp]; exact h) (by rw [Nat.add_sub_cancel, hp]; exact hx)
  simpa using h

end Go.Proofs.YtlnlpahmfpjjdaaDoor

/-
  Punctuators of the project; what begins somewhere.
-/
namespace Go.Proofs.YtlnlpahmfpjjdaaDoor
open Go.RowKit

def isPun (l : List UInt8) : Bool := PL.contains l

theorem pun_yes {s : ByteArray} {L : List UInt8} {w : World} (h : (s.toList == L) = true) (hL : PL.contains L = true) : BoolPost (isPun s.data.toList) w (.returned (.bool true)) w := by
  rw [beq_iff_eq, ByteArray.toList_eq] at h
  unfold isPun
  rw [h, hL]
  exact ⟨rfl, rfl⟩

theorem two_ways {b : Bool} (h1 : b = true) (h2 : b = false) : False := by rw [h1] at h2; cases h2

def punL (l : List UInt8) : Nat → Nat
  | 0 => 0
  | n + 1 => if isPun (l.take (n + 1)) then n + 1 else punL l n

theorem find_first {f : List UInt8 → Bool} : ∀ {P : List (List UInt8)} {p : List UInt8}, P.Pairwise (fun a b => b.length ≤ a.length) → P.find? f = some p → ∀ q ∈ P, f q = true → q.length ≤ p.length
  | [], _, _, h, _, _, _ => by cases h
  | a :: r, p, hp, h, q, hq, hf => by
    rw [List.pairwise_cons] at hp
    rw [List.find?_cons] at h
    cases ha : f a with
    | true =>
      rw [ha] at h
      cases h
      rcases List.mem_cons.1 hq with rfl | h1
      · exact Nat.le_refl _
      · exact hp.1 q h1
    | false =>
      rw [ha] at h
      rcases List.mem_cons.1 hq with rfl | h1
      · rw [ha] at hf; cases hf
      · exact find_first hp.2 h q h1 hf

theorem PL_sorted : PL.Pairwise (fun a b => b.length ≤ a.length) := by decide

theorem isPun_mem {l : List UInt8} (h : isPun l = true) : l ∈ PL := by
  unfold isPun at h
  exact List.contains_iff_mem.1 h
theorem isPun_of {l : List UInt8} (h : l ∈ PL) : isPun l = true := List.contains_iff_mem.2 h

theorem pun_ge {l : List UInt8} {n : Nat} (hn : n ≤ l.length) (h : isPun (l.take n) = true) : n ≤ punctN l := by
  unfold punctN
  have hm := isPun_mem h
  have hl : (l.take n).length = n := by rw [List.length_take]; omega
  have hp : (l.take n).isPrefixOf l = true := List.isPrefixOf_iff_prefix.2 (List.take_prefix n l)
  split
  · rename_i p hf
    have := find_first PL_sorted hf _ hm hp
    rw [hl] at this
    exact this
  · rename_i hf
    rw [List.find?_eq_none] at hf
    exact absurd hp (hf _ hm)

theorem pun_take {l : List UInt8} (h : 0 < punctN l) : isPun (l.take (punctN l)) = true := by
  obtain ⟨p, hm, hp, hl⟩ := punctN_is h
  obtain ⟨r, rfl⟩ := hp
  rw [← hl, List.take_left]
  exact isPun_of hm

theorem punL_eq {l : List UInt8} : ∀ n, n ≤ l.length → punctN l ≤ n → punL l n = punctN l
  | 0, _, h => by
    unfold punL
    omega
  | n + 1, hn, h => by
    unfold punL
    split
    · rename_i h1
      have := pun_ge hn h1
      omega
    · rename_i h1
      refine punL_eq n (by omega) ?_
      rcases Nat.lt_or_ge n (punctN l) with h2 | h2
      · exfalso
        apply h1
        rw [show n + 1 = punctN l from by omega]
        exact pun_take (by omega)
      · exact h2

theorem punctN_le (l : List UInt8) : punctN l ≤ 4 ∧ punctN l ≤ l.length := by
  rcases Nat.eq_zero_or_pos (punctN l) with h | h
  · omega
  · obtain ⟨p, hm, hp, hl⟩ := punctN_is h
    have := PL_len p hm
    have := hp.length_le
    omega

theorem take_extract (s : ByteArray) (n : Nat) : (s.extract 0 n).data.toList = s.data.toList.take n := by
  simp

def PunRel (s : ByteArray) (i : Value) : Prop := ∃ k : Nat, i = .int .i64 (k : Int) ∧ k ≤ s.size ∧ k ≤ 4 ∧ punL s.data.toList k = punctN s.data.toList

theorem pun_start {s : ByteArray} : PunRel s (.int .i64 (min 4 (s.size : Int))) := by
  have h := punctN_le s.data.toList
  have hl := len_byte s
  rw [hl] at h
  by_cases h4 : 4 ≤ s.size
  · exact ⟨4, by rw [show min 4 (s.size : Int) = ((4 : Nat) : Int) from by omega], h4, Nat.le_refl _, punL_eq 4 (by omega) h.1⟩
  · exact ⟨s.size, by rw [show min 4 (s.size : Int) = (s.size : Int) from by omega], Nat.le_refl _, by omega, punL_eq _ (by omega) h.2⟩

theorem hasPrefix2 {s : ByteArray} {a b : UInt8} (h0 : a ≠ 0) (h1 : b ≠ 0) : Lib.hasPrefix s.data.toList [a, b] = decide (s.data.toList.getD 0 0 = a ∧ s.data.toList.getD 1 0 = b) := by
  unfold Lib.hasPrefix
  cases s.data.toList with
  | nil => simp [h0.symm]
  | cons x r =>
    cases r with
    | nil => simp [List.isPrefixOf, h1.symm]
    | cons y r =>
      rw [Bool.eq_iff_iff, decide_eq_true_eq]
      show (a == x && (b == y && true)) = true ↔ x = a ∧ y = b
      rw [Bool.and_true, Bool.and_eq_true, beq_iff_eq, beq_iff_eq]
      exact ⟨fun h => ⟨h.1.symm, h.2.symm⟩, fun h => ⟨h.1.symm, h.2.symm⟩⟩

theorem byte_eqB {c : UInt8} {n : Nat} (hn : n < 256) (h : c = UInt8.ofNat n) : (((c.toNat : Nat) : Int) == (n : Int)) = true := by
  rw [beq_iff_eq, h]
  simp
  omega
theorem byte_neB {c : UInt8} {n : Nat} (hn : n < 256) (h : ¬ c = UInt8.ofNat n) : (((c.toNat : Nat) : Int) == (n : Int)) = false := by
  simp only [beq_eq_false_iff_ne]
  intro e
  apply h
  apply UInt8.toNat_inj.1
  simp
  omega

/-- What is ahead of a quote. -/
def u8q (l : List UInt8) : Bool := Lib.hasPrefix l [117, 56, 34]
theorem u8q_is (l : List UInt8) : u8q l = decide (l.getD 0 0 = 117 ∧ l.getD 1 0 = 56 ∧ l.getD 2 0 = 34) := by
  unfold u8q Lib.hasPrefix
  rw [Bool.eq_iff_iff, decide_eq_true_eq]
  rcases l with _ | ⟨x, _ | ⟨y, _ | ⟨z, r⟩⟩⟩
  · simp [List.isPrefixOf]
  · simp [List.isPrefixOf]
  · simp [List.isPrefixOf]
  · show (117 == x && (56 == y && (34 == z && true))) = true ↔ x = 117 ∧ y = 56 ∧ z = 34
    rw [Bool.and_true, Bool.and_eq_true, Bool.and_eq_true, beq_iff_eq, beq_iff_eq, beq_iff_eq]
    exact ⟨fun h => ⟨h.1.symm, h.2.1.symm, h.2.2.symm⟩, fun h => ⟨h.1.symm, h.2.1.symm, h.2.2.symm⟩⟩

theorem lett_two {l : List UInt8} (h : u8q l = true) : lettN l = 2 := by
  rw [u8q_is, decide_eq_true_eq] at h
  unfold lettN
  rw [if_pos h]
theorem lett_is {l : List UInt8} (h : u8q l = false) : lettN l = if ((l.getD 0 0).toNat = 76 ∨ (l.getD 0 0).toNat = 117 ∨ (l.getD 0 0).toNat = 85) ∧ ((l.getD 1 0).toNat = 34 ∨ (l.getD 1 0).toNat = 39) then 1 else 0 := by
  rw [u8q_is, decide_eq_false_iff_not] at h
  have e : ∀ (c : UInt8) (n : Nat), n < 256 → (c = UInt8.ofNat n ↔ c.toNat = n) := by
    intro c n hn
    constructor
    · rintro rfl
      simp
      omega
    · intro h
      apply UInt8.toNat_inj.1
      simp
      omega
  unfold lettN
  rw [if_neg h]
  have e1 := e (l.getD 0 0) 76 (by omega)
  have e2 := e (l.getD 0 0) 117 (by omega)
  have e3 := e (l.getD 0 0) 85 (by omega)
  have e4 := e (l.getD 1 0) 34 (by omega)
  have e5 := e (l.getD 1 0) 39 (by omega)
  by_cases hc : (l.getD 0 0 = 76 ∨ l.getD 0 0 = 117 ∨ l.getD 0 0 = 85) ∧ (l.getD 1 0 = 34 ∨ l.getD 1 0 = 39)
  · rw [if_pos hc, if_pos]
    exact ⟨hc.1.imp e1.1 (Or.imp e2.1 e3.1), hc.2.imp e4.1 e5.1⟩
  · rw [if_neg hc, if_neg]
    intro h2
    exact hc ⟨h2.1.imp e1.2 (Or.imp e2.2 e3.2), h2.2.imp e4.2 e5.2⟩

end Go.Proofs.YtlnlpahmfpjjdaaDoor

/-
  The walk of the project, in memory: one block, and what turns in it.
-/
namespace Go.Proofs.YtlnlpahmfpjjdaaDoor
open Go.RowKit

/-- What the walk's block holds. -/
structure WC where
  F : ByteArray
  sz : Nat
  rv : Value
  ch : ByteArray
  i : Nat
  st : Nat
  bg : Nat
  fr : Nat
  sp : Bool
  tv : Value
  lv : Value
  dv : Value
  u0 : Nat
  u1 : Nat

def WC.cells (c : WC) : Array Value := #[.string c.F, .int .i64 (c.sz : Int), c.rv, .string c.ch, .int .i64 (c.i : Int), .int .i64 (c.st : Int), .int .i64 (c.bg : Int), .int .i64 (c.fr : Int), .bool c.sp, c.tv, c.lv, c.dv, .int .i64 (c.u0 : Int), .int .i64 (c.u1 : Int)]

/-- From i on to u no q has an end. -/
def Un (l : List UInt8) (i : Nat) (q : UInt8) (u : Nat) : Prop := ∀ p, i ≤ p → p < u → l.getD p 0 = q → qN q false (l.drop (p + 1)) = none
theorem Un.mono {l : List UInt8} {i j : Nat} {q : UInt8} {u : Nat} (h : Un l i q u) (hj : i ≤ j) : Un l j q u := fun p h1 h2 => h p (Nat.le_trans hj h1) h2
theorem Un.zero (l : List UInt8) (i : Nat) (q : UInt8) : Un l i q 0 := fun p _ h => absurd h (Nat.not_lt_zero p)

/-- The walk over what a quote has behind it. -/
def Past (l : List UInt8) (q : UInt8) (p k : Nat) (t : Bool) : Prop :=
  p < k ∧ k < l.length ∧ (∀ j, p ≤ j → j < k → l.getD j 0 = q → qN q t (l.drop k) = none → qN q false (l.drop (j + 1)) = none) ∧
  qN q false (l.drop (p + 1)) = (qN q t (l.drop k)).map (· + (k - (p + 1)))

theorem qN_step {l : List UInt8} {k : Nat} (q : UInt8) (t : Bool) (hk : k < l.length) : qN q t (l.drop k) = if l.getD k 0 = 10 then none else if t then (qN q false (l.drop (k + 1))).map (· + 1) else if l.getD k 0 = 92 then (qN q true (l.drop (k + 1))).map (· + 1) else if l.getD k 0 = q then some 1 else (qN q false (l.drop (k + 1))).map (· + 1) := by
  rw [drop_cons hk]
  rfl

theorem Past.start {l : List UInt8} {q : UInt8} {p : Nat} (hN : Nl l) (hp : p < l.length) (hq : l.getD p 0 = q) (h10 : q ≠ 10) : Past l q p (p + 1) false := by
  have : p ≠ l.length - 1 := by
    intro e
    rw [e, hN.2] at hq
    exact h10 hq.symm
  refine ⟨by omega, by omega, fun j h1 h2 _ hn => ?_, by simp⟩
  obtain rfl : j = p := by omega
  exact hn

theorem Past.next {l : List UInt8} {q : UInt8} {p k : Nat} {t t' : Bool} (h : Past l q p k t) (hN : Nl l) (h10 : l.getD k 0 ≠ 10) (he : qN q t (l.drop k) = (qN q t' (l.drop (k + 1))).map (· + 1)) (ht : l.getD k 0 = q → t' = false) : Past l q p (k + 1) t' := by
  obtain ⟨h1, h2, h3, h4⟩ := h
  have hk : k ≠ l.length - 1 := by
    intro e
    rw [e] at h10
    exact h10 hN.2
  refine ⟨by omega, by omega, fun j j1 j2 jq jn => ?_, ?_⟩
  · by_cases e : j = k
    · subst e
      rw [ht jq] at jn
      exact jn
    · refine h3 j j1 (by omega) jq ?_
      rw [he, jn]
      rfl
  · rw [h4, he, Option.map_map]
    congr 1
    funext n
    simp
    omega

theorem Past.taken {l : List UInt8} {q : UInt8} {p k : Nat} (h : Past l q p k true) (hN : Nl l) (h10 : l.getD k 0 ≠ 10) : Past l q p (k + 1) false := by
  refine h.next hN h10 ?_ fun _ => rfl
  rw [qN_step q true h.2.1, if_neg h10, if_pos rfl]
theorem Past.slash {l : List UInt8} {q : UInt8} {p k : Nat} (h : Past l q p k false) (hN : Nl l) (h92 : l.getD k 0 = 92) (hq : q ≠ 92) : Past l q p (k + 1) true := by
  refine h.next hN (by rw [h92]; decide) ?_ fun e => absurd (e.symm.trans h92) hq
  rw [qN_step q false h.2.1, if_neg (by rw [h92]; decide), if_neg (by simp), if_pos h92]
theorem Past.other {l : List UInt8} {q : UInt8} {p k : Nat} (h : Past l q p k false) (hN : Nl l) (h10 : l.getD k 0 ≠ 10) (h92 : l.getD k 0 ≠ 92) (hq : l.getD k 0 ≠ q) : Past l q p (k + 1) false := by
  refine h.next hN h10 ?_ fun e => absurd e hq
  rw [qN_step q false h.2.1, if_neg h10, if_neg (by simp), if_neg h92, if_neg hq]

/-- Where a quote ends, by its place. -/
def qEnd (l : List UInt8) (q : UInt8) (p : Nat) : Nat := match qN q false (l.drop (p + 1)) with
  | some n => p + 1 + n
  | none => 0

theorem Past.found {l : List UInt8} {q : UInt8} {p k : Nat} (h : Past l q p k false) (h10 : l.getD k 0 ≠ 10) (h92 : l.getD k 0 ≠ 92) (hq : l.getD k 0 = q) : qEnd l q p = k + 1 := by
  have h4 := h.2.2.2
  rw [qN_step q false h.2.1, if_neg h10, if_neg (by simp), if_neg h92, if_pos hq] at h4
  unfold qEnd
  rw [h4]
  have := h.1
  simp
  omega
theorem Past.no {l : List UInt8} {q : UInt8} {p k : Nat} {t : Bool} (h : Past l q p k t) (h10 : l.getD k 0 = 10) : qEnd l q p = 0 ∧ Un l p q k := by
  have hn : qN q t (l.drop k) = none := by rw [qN_step q t h.2.1, if_pos h10]
  have h4 := h.2.2.2
  rw [hn] at h4
  refine ⟨?_, fun j h1 h2 h3 => h.2.2.1 j h1 h2 h3 hn⟩
  unfold qEnd
  rw [h4]
  rfl

theorem Un.low {l : List UInt8} {i p : Nat} {q : UInt8} {u : Nat} (h : Un l p q u) (hw : ∀ j, i ≤ j → j < p → l.getD j 0 ≠ q) : Un l i q u := by
  intro j h1 h2 h3
  rcases Nat.lt_or_ge j p with h4 | h4
  · exact absurd h3 (hw j h1 h4)
  · exact h j h4 h2 h3

theorem Un.none {l : List UInt8} {i p : Nat} {q : UInt8} {u : Nat} (h : Un l i q u) (hi : i ≤ p) (hu : p < u) (hq : l.getD p 0 = q) : qEnd l q p = 0 := by
  unfold qEnd
  rw [h p hi hu hq]

end Go.Proofs.YtlnlpahmfpjjdaaDoor
