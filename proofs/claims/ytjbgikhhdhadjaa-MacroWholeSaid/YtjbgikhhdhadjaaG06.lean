/-
  Texts of the proof, put together: LxP, LxM.
-/
import Derived.Test.YtjbgikhhdhadjaaG05

/-
  Punctuators of the project; what begins somewhere.
-/
namespace Go.Proofs.Ytjbgikhhdhadjaa
open Go.RowKit

def isPun (l : List UInt8) : Bool := PL.contains l

theorem pun_yes {s : ByteArray} {L : List UInt8} {w : World} (h : (s.toList == L) = true) (hL : PL.contains L = true) : BoolPost (isPun s.data.toList) w (.returned (.bool true)) w := by
  rw [beq_iff_eq, ByteArray.toList_eq] at h
  unfold isPun
  rw [h, hL]
  exact ⟨rfl, rfl⟩

theorem two_ways {b : Bool} (h1 : b = true) (h2 : b = false) : False := by rw [h1] at h2; cases h2

def punL (l : List UInt8) : Nat → Nat
  | 0 => 0
  | n + 1 => if isPun (l.take (n + 1)) then n + 1 else punL l n

theorem find_first {f : List UInt8 → Bool} : ∀ {P : List (List UInt8)} {p : List UInt8}, P.Pairwise (fun a b => b.length ≤ a.length) → P.find? f = some p → ∀ q ∈ P, f q = true → q.length ≤ p.length
  | [], _, _, h, _, _, _ => by cases h
  | a :: r, p, hp, h, q, hq, hf => by
    rw [List.pairwise_cons] at hp
    rw [List.find?_cons] at h
    cases ha : f a with
    | true =>
      rw [ha] at h
      cases h
      rcases List.mem_cons.1 hq with rfl | h1
      · exact Nat.le_refl _
      · exact hp.1 q h1
    | false =>
      rw [ha] at h
      rcases List.mem_cons.1 hq with rfl | h1
      · rw [ha] at hf; cases hf
      · exact find_first hp.2 h q h1 hf

theorem PL_sorted : PL.Pairwise (fun a b => b.length ≤ a.length) := by decide

theorem isPun_mem {l : List UInt8} (h : isPun l = true) : l ∈ PL := by
  unfold isPun at h
  exact List.contains_iff_mem.1 h
theorem isPun_of {l : List UInt8} (h : l ∈ PL) : isPun l = true := List.contains_iff_mem.2 h

theorem pun_ge {l : List UInt8} {n : Nat} (hn : n ≤ l.length) (h : isPun (l.take n) = true) : n ≤ punctN l := by
  unfold punctN
  have hm := isPun_mem h
  have hl : (l.take n).length = n := by rw [List.length_take]; omega
  have hp : (l.take n).isPrefixOf l = true := List.isPrefixOf_iff_prefix.2 (List.take_prefix n l)
  split
  · rename_i p hf
    have := find_first PL_sorted hf _ hm hp
    rw [hl] at this
    exact this
  · rename_i hf
    rw [List.find?_eq_none] at hf
    exact absurd hp (hf _ hm)

theorem pun_take {l : List UInt8} (h : 0 < punctN l) : isPun (l.take (punctN l)) = true := by
  obtain ⟨p, hm, hp, hl⟩ := punctN_is h
  obtain ⟨r, rfl⟩ := hp
  rw [← hl, List.take_left]
  exact isPun_of hm

theorem punL_eq {l : List UInt8} : ∀ n, n ≤ l.length → punctN l ≤ n → punL l n = punctN l
  | 0, _, h => by
    unfold punL
    omega
  | n + 1, hn, h => by
    unfold punL
    split
    · rename_i h1
      have := pun_ge hn h1
      omega
    · rename_i h1
      refine punL_eq n (by omega) ?_
      rcases Nat.lt_or_ge n (punctN l) with h2 | h2
      · exfalso
        apply h1
        rw [show n + 1 = punctN l from by omega]
        exact pun_take (by omega)
      · exact h2

theorem punctN_le (l : List UInt8) : punctN l ≤ 4 ∧ punctN l ≤ l.length := by
  rcases Nat.eq_zero_or_pos (punctN l) with h | h
  · omega
  · obtain ⟨p, hm, hp, hl⟩ := punctN_is h
    have := PL_len p hm
    have := hp.length_le
    omega

theorem take_extract (s : ByteArray) (n : Nat) : (s.extract 0 n).data.toList = s.data.toList.take n := by
  simp

def PunRel (s : ByteArray) (i : Value) : Prop := ∃ k : Nat, i = .int .i64 (k : Int) ∧ k ≤ s.size ∧ k ≤ 4 ∧ punL s.data.toList k = punctN s.data.toList

theorem pun_start {s : ByteArray} : PunRel s (.int .i64 (min 4 (s.size : Int))) := by
  have h := punctN_le s.data.toList
  have hl := len_byte s
  rw [hl] at h
  by_cases h4 : 4 ≤ s.size
  · exact ⟨4, by rw [show min 4 (s.size : Int) = ((4 : Nat) : Int) from by omega], h4, Nat.le_refl _, punL_eq 4 (by omega) h.1⟩
  · exact ⟨s.size, by rw [show min 4 (s.size : Int) = (s.size : Int) from by omega], Nat.le_refl _, by omega, punL_eq _ (by omega) h.2⟩

theorem hasPrefix2 {s : ByteArray} {a b : UInt8} (h0 : a ≠ 0) (h1 : b ≠ 0) : Lib.hasPrefix s.data.toList [a, b] = decide (s.data.toList.getD 0 0 = a ∧ s.data.toList.getD 1 0 = b) := by
  unfold Lib.hasPrefix
  cases s.data.toList with
  | nil => simp [h0.symm]
  | cons x r =>
    cases r with
    | nil => simp [List.isPrefixOf, h1.symm]
    | cons y r =>
      rw [Bool.eq_iff_iff, decide_eq_true_eq]
      show (a == x && (b == y && true)) = true ↔ x = a ∧ y = b
      rw [Bool.and_true, Bool.and_eq_true, beq_iff_eq, beq_iff_eq]
      exact ⟨fun h => ⟨h.1.symm, h.2.symm⟩, fun h => ⟨h.1.symm, h.2.symm⟩⟩

theorem byte_eqB {c : UInt8} {n : Nat} (hn : n < 256) (h : c = UInt8.ofNat n) : (((c.toNat : Nat) : Int) == (n : Int)) = true := by
  rw [beq_iff_eq, h]
  simp
  omega
theorem byte_neB {c : UInt8} {n : Nat} (hn : n < 256) (h : ¬ c = UInt8.ofNat n) : (((c.toNat : Nat) : Int) == (n : Int)) = false := by
  simp only [beq_eq_false_iff_ne]
  intro e
  apply h
  apply UInt8.toNat_inj.1
  simp
  omega

/-- What is ahead of a quote. -/
def u8q (l : List UInt8) : Bool := Lib.hasPrefix l [117, 56, 34]
theorem u8q_is (l : List UInt8) : u8q l = decide (l.getD 0 0 = 117 ∧ l.getD 1 0 = 56 ∧ l.getD 2 0 = 34) := by
  unfold u8q Lib.hasPrefix
  rw [Bool.eq_iff_iff, decide_eq_true_eq]
  rcases l with _ | ⟨x, _ | ⟨y, _ | ⟨z, r⟩⟩⟩
  · simp [List.isPrefixOf]
  · simp [List.isPrefixOf]
  · simp [List.isPrefixOf]
  · show (117 == x && (56 == y && (34 == z && true))) = true ↔ x = 117 ∧ y = 56 ∧ z = 34
    rw [Bool.and_true, Bool.and_eq_true, Bool.and_eq_true, beq_iff_eq, beq_iff_eq, beq_iff_eq]
    exact ⟨fun h => ⟨h.1.symm, h.2.1.symm, h.2.2.symm⟩, fun h => ⟨h.1.symm, h.2.1.symm, h.2.2.symm⟩⟩

theorem lett_two {l : List UInt8} (h : u8q l = true) : lettN l = 2 := by
  rw [u8q_is, decide_eq_true_eq] at h
  unfold lettN
  rw [if_pos h]
theorem lett_is {l : List UInt8} (h : u8q l = false) : lettN l = if ((l.getD 0 0).toNat = 76 ∨ (l.getD 0 0).toNat = 117 ∨ (l.getD 0 0).toNat = 85) ∧ ((l.getD 1 0).toNat = 34 ∨ (l.getD 1 0).toNat = 39) then 1 else 0 := by
  rw [u8q_is, decide_eq_false_iff_not] at h
  have e : ∀ (c : UInt8) (n : Nat), n < 256 → (c = UInt8.ofNat n ↔ c.toNat = n) := by
    intro c n hn
    constructor
    · rintro rfl
      simp
      omega
    · intro h
      apply UInt8.toNat_inj.1
      simp
      omega
  unfold lettN
  rw [if_neg h]
  have e1 := e (l.getD 0 0) 76 (by omega)
  have e2 := e (l.getD 0 0) 117 (by omega)
  have e3 := e (l.getD 0 0) 85 (by omega)
  have e4 := e (l.getD 1 0) 34 (by omega)
  have e5 := e (l.getD 1 0) 39 (by omega)
  by_cases hc : (l.getD 0 0 = 76 ∨ l.getD 0 0 = 117 ∨ l.getD 0 0 = 85) ∧ (l.getD 1 0 = 34 ∨ l.getD 1 0 = 39)
  · rw [if_pos hc, if_pos]
    exact ⟨hc.1.imp e1.1 (Or.imp e2.1 e3.1), hc.2.imp e4.1 e5.1⟩
  · rw [if_neg hc, if_neg]
    intro h2
    exact hc ⟨h2.1.imp e1.2 (Or.imp e2.2 e3.2), h2.2.imp e4.2 e5.2⟩

end Go.Proofs.Ytjbgikhhdhadjaa

/-
  The walk of the project, in memory: one block, and what turns in it.
-/
namespace Go.Proofs.Ytjbgikhhdhadjaa
open Go.RowKit

/-- What the walk's block holds. -/
structure WC where
  F : ByteArray
  sz : Nat
  rv : Value
  ch : ByteArray
  i : Nat
  st : Nat
  bg : Nat
  fr : Nat
  sp : Bool
  tv : Value
  lv : Value
  dv : Value
  u0 : Nat
  u1 : Nat

def WC.cells (c : WC) : Array Value := #[.string c.F, .int .i64 (c.sz : Int), c.rv, .string c.ch, .int .i64 (c.i : Int), .int .i64 (c.st : Int), .int .i64 (c.bg : Int), .int .i64 (c.fr : Int), .bool c.sp, c.tv, c.lv, c.dv, .int .i64 (c.u0 : Int), .int .i64 (c.u1 : Int)]

/-- From i on to u no q has an end. -/
def Un (l : List UInt8) (i : Nat) (q : UInt8) (u : Nat) : Prop := ∀ p, i ≤ p → p < u → l.getD p 0 = q → qN q false (l.drop (p + 1)) = none
theorem Un.mono {l : List UInt8} {i j : Nat} {q : UInt8} {u : Nat} (h : Un l i q u) (hj : i ≤ j) : Un l j q u := fun p h1 h2 => h p (Nat.le_trans hj h1) h2
theorem Un.zero (l : List UInt8) (i : Nat) (q : UInt8) : Un l i q 0 := fun p _ h => absurd h (Nat.not_lt_zero p)

/-- The walk over what a quote has behind it. -/
def Past (l : List UInt8) (q : UInt8) (p k : Nat) (t : Bool) : Prop :=
  p < k ∧ k < l.length ∧ (∀ j, p ≤ j → j < k → l.getD j 0 = q → qN q t (l.drop k) = none → qN q false (l.drop (j + 1)) = none) ∧
  qN q false (l.drop (p + 1)) = (qN q t (l.drop k)).map (· + (k - (p + 1)))

theorem qN_step {l : List UInt8} {k : Nat} (q : UInt8) (t : Bool) (hk : k < l.length) : qN q t (l.drop k) = if l.getD k 0 = 10 then none else if t then (qN q false (l.drop (k + 1))).map (· + 1) else if l.getD k 0 = 92 then (qN q true (l.drop (k + 1))).map (· + 1) else if l.getD k 0 = q then some 1 else (qN q false (l.drop (k + 1))).map (· + 1) := by
  rw [drop_cons hk]
  rfl

theorem Past.start {l : List UInt8} {q : UInt8} {p : Nat} (hN : Nl l) (hp : p < l.length) (hq : l.getD p 0 = q) (h10 : q ≠ 10) : Past l q p (p + 1) false := by
  have : p ≠ l.length - 1 := by
    intro e
    rw [e, hN.2] at hq
    exact h10 hq.symm
  refine ⟨by omega, by omega, fun j h1 h2 _ hn => ?_, by simp⟩
  obtain rfl : j = p := by omega
  exact hn

theorem Past.next {l : List UInt8} {q : UInt8} {p k : Nat} {t t' : Bool} (h : Past l q p k t) (hN : Nl l) (h10 : l.getD k 0 ≠ 10) (he : qN q t (l.drop k) = (qN q t' (l.drop (k + 1))).map (· + 1)) (ht : l.getD k 0 = q → t' = false) : Past l q p (k + 1) t' := by
  obtain ⟨h1, h2, h3, h4⟩ := h
  have hk : k ≠ l.length - 1 := by
    intro e
    rw [e] at h10
    exact h10 hN.2
  refine ⟨by omega, by omega, fun j j1 j2 jq jn => ?_, ?_⟩
  · by_cases e : j = k
    · subst e
      rw [ht jq] at jn
      exact jn
    · refine h3 j j1 (by omega) jq ?_
      rw [he, jn]
      rfl
  · rw [h4, he, Option.map_map]
    congr 1
    funext n
    simp
    omega

theorem Past.taken {l : List UInt8} {q : UInt8} {p k : Nat} (h : Past l q p k true) (hN : Nl l) (h10 : l.getD k 0 ≠ 10) : Past l q p (k + 1) false := by
  refine h.next hN h10 ?_ fun _ => rfl
  rw [qN_step q true h.2.1, if_neg h10, if_pos rfl]
theorem Past.slash {l : List UInt8} {q : UInt8} {p k : Nat} (h : Past l q p k false) (hN : Nl l) (h92 : l.getD k 0 = 92) (hq : q ≠ 92) : Past l q p (k + 1) true := by
  refine h.next hN (by rw [h92]; decide) ?_ fun e => absurd (e.symm.trans h92) hq
  rw [qN_step q false h.2.1, if_neg (by rw [h92]; decide), if_neg (by simp), if_pos h92]
theorem Past.other {l : List UInt8} {q : UInt8} {p k : Nat} (h : Past l q p k false) (hN : Nl l) (h10 : l.getD k 0 ≠ 10) (h92 : l.getD k 0 ≠ 92) (hq : l.getD k 0 ≠ q) : Past l q p (k + 1) false := by
  refine h.next hN h10 ?_ fun e => absurd e hq
  rw [qN_step q false h.2.1, if_neg h10, if_neg (by simp), if_neg h92, if_neg hq]

/-- Where a quote ends, by its place. -/
def qEnd (l : List UInt8) (q : UInt8) (p : Nat) : Nat := match qN q false (l.drop (p + 1)) with
  | some n => p + 1 + n
  | none => 0

theorem Past.found {l : List UInt8} {q : UInt8} {p k : Nat} (h : Past l q p k false) (h10 : l.getD k 0 ≠ 10) (h92 : l.getD k 0 ≠ 92) (hq : l.getD k 0 = q) : qEnd l q p = k + 1 := by
  have h4 := h.2.2.2
  rw [qN_step q false h.2.1, if_neg h10, if_neg (by simp), if_neg h92, if_pos hq] at h4
  unfold qEnd
  rw [h4]
  have := h.1
  simp
  omega
theorem Past.no {l : List UInt8} {q : UInt8} {p k : Nat} {t : Bool} (h : Past l q p k t) (h10 : l.getD k 0 = 10) : qEnd l q p = 0 ∧ Un l p q k := by
  have hn : qN q t (l.drop k) = none := by rw [qN_step q t h.2.1, if_pos h10]
  have h4 := h.2.2.2
  rw [hn] at h4
  refine ⟨?_, fun j h1 h2 h3 => h.2.2.1 j h1 h2 h3 hn⟩
  unfold qEnd
  rw [h4]
  rfl

theorem Un.low {l : List UInt8} {i p : Nat} {q : UInt8} {u : Nat} (h : Un l p q u) (hw : ∀ j, i ≤ j → j < p → l.getD j 0 ≠ q) : Un l i q u := by
  intro j h1 h2 h3
  rcases Nat.lt_or_ge j p with h4 | h4
  · exact absurd h3 (hw j h1 h4)
  · exact h j h4 h2 h3

theorem Un.none {l : List UInt8} {i p : Nat} {q : UInt8} {u : Nat} (h : Un l i q u) (hi : i ≤ p) (hu : p < u) (hq : l.getD p 0 = q) : qEnd l q p = 0 := by
  unfold qEnd
  rw [h p hi hu hq]

end Go.Proofs.Ytjbgikhhdhadjaa
