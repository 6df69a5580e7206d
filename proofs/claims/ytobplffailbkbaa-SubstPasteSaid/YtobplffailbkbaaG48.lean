/-
  Texts of the proof, put together: SuOl, SuO, SuOn.
-/
import Derived.Test.YtobplffailbkbaaG09
import Derived.Test.YtobplffailbkbaaG47
import Derived.Test.YtobplffailbkbaaG18
import Derived.Test.YtobplffailbkbaaG11
import Derived.Test.YtobplffailbkbaaG34

/-
  A text as one token, over lists: the document's words (roneL) and the project's (oneL) are one.
-/
namespace Go.Proofs.Ytobplffailbkbaa

theorem nl_get {l : List UInt8} {j : Nat} {c : UInt8} (h0 : c ≠ 0) (h10 : c ≠ 10) : ((l ++ [10]).getD j 0 = c) ↔ (l.getD j 0 = c) := by
  simp only [List.getD]
  rcases Nat.lt_trichotomy j l.length with h | h | h
  · rw [List.getElem?_append_left h]
  · subst h
    rw [List.getElem?_append_right (Nat.le_refl _), List.getElem?_eq_none (Nat.le_refl _)]
    simp only [Nat.sub_self, List.getElem?_cons_zero, Option.getD_some, Option.getD_none]
    exact ⟨fun e => absurd e.symm h10, fun e => absurd e.symm h0⟩
  · rw [List.getElem?_eq_none (by simp; omega), List.getElem?_eq_none (by omega)]
theorem nl_front {l : List UInt8} {j : Nat} (h : j < l.length) : (l ++ [10]).getD j 0 = l.getD j 0 := getD_front h
theorem qN_nl (q : UInt8) : ∀ (t : Bool) (l : List UInt8), qN q t (l ++ [10]) = qN q t l
  | t, [] => by
    show qN q t [10] = none
    unfold qN
    simp
  | t, c :: r => by
    show qN q t (c :: (r ++ [10])) = qN q t (c :: r)
    rw [qN, qN, qN_nl q false r, qN_nl q true r]
theorem wordN_nl : ∀ (l : List UInt8), wordN (l ++ [10]) = wordN l
  | [] => rfl
  | c :: r => by
    show wordN (c :: (r ++ [10])) = wordN (c :: r)
    rw [wordN, wordN, wordN_nl r]
theorem numN_nl : ∀ (p : UInt8) (l : List UInt8), numN p (l ++ [10]) = numN p l
  | p, [] => by
    show numN p [10] = 0
    unfold numN
    rw [if_neg]
    unfold numC
    have h1 : isWord 10 = false := by decide
    have h2 : isSign 10 = false := by decide
    rw [h1, h2]
    simp
  | p, c :: r => by
    show numN p (c :: (r ++ [10])) = numN p (c :: r)
    rw [numN, numN, numN_nl c r]
theorem pre_nl : ∀ (q p : List UInt8), (∀ c ∈ q, c ≠ 10) → q.isPrefixOf (p ++ [10]) = q.isPrefixOf p
  | [], p, _ => by simp [List.isPrefixOf]
  | a :: q, [], h => by
    show (a == 10 && q.isPrefixOf []) = false
    rw [beq_eq_false_iff_ne.2 (h a List.mem_cons_self)]
    rfl
  | a :: q, b :: p, h => by
    show (a == b && q.isPrefixOf (p ++ [10])) = (a == b && q.isPrefixOf p)
    rw [pre_nl q p fun c hc => h c (List.mem_cons_of_mem _ hc)]
theorem punctN_nl (l : List UInt8) : punctN (l ++ [10]) = punctN l := by
  have hf := find_same (f := fun p : List UInt8 => p.isPrefixOf (l ++ [10])) (g := fun p : List UInt8 => p.isPrefixOf l) (P := PL) fun p hp => pre_nl p _ fun c hc => (PL_no p hp c hc).1
  unfold punctN
  rw [hf]
theorem lettN_nl (l : List UInt8) : lettN (l ++ [10]) = lettN l := by
  unfold lettN
  simp only [nl_get (l := l) (show (117 : UInt8) ≠ 0 by decide) (by decide), nl_get (l := l) (show (56 : UInt8) ≠ 0 by decide) (by decide), nl_get (l := l) (show (34 : UInt8) ≠ 0 by decide) (by decide), nl_get (l := l) (show (76 : UInt8) ≠ 0 by decide) (by decide), nl_get (l := l) (show (85 : UInt8) ≠ 0 by decide) (by decide), nl_get (l := l) (show (39 : UInt8) ≠ 0 by decide) (by decide)]
theorem drop_nl {l : List UInt8} {k : Nat} (h : k ≤ l.length) : (l ++ [10]).drop k = l.drop k ++ [10] := List.drop_append_of_le_length h
theorem conN_nl (l : List UInt8) : conN (l ++ [10]) = conN l := by
  unfold conN
  rw [lettN_nl]
  simp only [nl_get (l := l) (show (34 : UInt8) ≠ 0 by decide) (by decide), nl_get (l := l) (show (39 : UInt8) ≠ 0 by decide) (by decide)]
  by_cases h : l.getD (lettN l) 0 = 34
  · have hl := getD_lt (l := l) (i := lettN l) (by rw [h]; decide)
    rw [if_pos h, if_pos h, drop_nl (by omega), qN_nl]
  · rw [if_neg h, if_neg h]
    by_cases h2 : l.getD (lettN l) 0 = 39
    · have hl := getD_lt (l := l) (i := lettN l) (by rw [h2]; decide)
      rw [if_pos h2, if_pos h2, drop_nl (by omega), qN_nl]
    · rw [if_neg h2, if_neg h2]
theorem dig_nl (l : List UInt8) (j : Nat) : isDig ((l ++ [10]).getD j 0) = isDig (l.getD j 0) := by
  rcases Nat.lt_or_ge j l.length with h | h
  · rw [nl_front h]
  · have e : l.getD j 0 = 0 := by simp [List.getD, List.getElem?_eq_none h]
    rw [e]
    rcases Nat.eq_or_lt_of_le h with h2 | h2
    · have e2 : (l ++ [10]).getD j 0 = 10 := by
        subst h2
        simp [List.getD]
      rw [e2]
      decide
    · have e2 : (l ++ [10]).getD j 0 = 0 := by simp [List.getD, List.getElem?_eq_none (show (l ++ [10]).length ≤ j by simp; omega)]
      rw [e2]
theorem tok_nl {l : List UInt8} (h : 0 < l.length) : tok (l ++ [10]) = tok l := by
  unfold tok
  rw [conN_nl, nl_front h, dig_nl, drop_nl (show 1 ≤ l.length by omega), wordN_nl, numN_nl, punctN_nl]

/-- Does a text begin as a constant? -/
def quoB (l : List UInt8) : Bool := decide (0 ≤ rlet (l.getD 0 0) (l.getD 1 0) (l.getD 2 0))
/-- The document's One. -/
def roneL (l : List UInt8) : Option Nat :=
  if l.any (fun c => (isWhi c && !quoB l) || decide (c = 10)) = true then none
  else if l = [] then none
  else if 0 < (rcom l 0).1 then none
  else if badN (tok l).1 (l.getD 0 0) = true ∨ (tok l).2 ≠ l.length then none else some (tok l).1

theorem PL_white : ∀ p ∈ PL, ∀ c ∈ p, isWhi c = false := by decide +kernel
theorem word_white {c : UInt8} (h : isWord c = true) : isWhi c = false := (isWord_ne h).2.2.2.2.2.1
theorem num_white {p c : UInt8} (h : numC p c = true) : isWhi c = false := by
  unfold numC at h
  simp only [Bool.or_eq_true, Bool.and_eq_true, decide_eq_true_eq] at h
  rcases h with (h | h) | ⟨-, h⟩
  · exact word_white h
  · unfold isWhi
    simp
    omega
  · unfold isSign at h
    simp only [Bool.or_eq_true, decide_eq_true_eq] at h
    unfold isWhi
    simp
    omega
theorem numN_white : ∀ (p : UInt8) (l : List UInt8) (j : Nat), j < numN p l → isWhi (l.getD j 0) = false
  | _, [], j, h => by simp [numN] at h
  | p, c :: r, 0, h => by
    unfold numN at h
    split at h
    · rename_i h1
      simpa using num_white h1
    · omega
  | p, c :: r, j + 1, h => by
    unfold numN at h
    split at h
    · simpa using numN_white c r j (by omega)
    · omega
/-- No constant: no white space in it. -/
theorem tok_white {l : List UInt8} (hc : conN l = none) (h0 : isWhi (l.getD 0 0) = false) : ∀ j, j < (tok l).2 → isWhi (l.getD j 0) = false := by
  unfold tok
  rw [hc]
  simp only
  split
  · intro j hj
    cases j with
    | zero => exact h0
    | succ j =>
      have := wordN_in (l.drop 1) j (by simp only at hj; omega)
      rw [getD_drop] at this
      rw [Nat.add_comm j 1]
      exact word_white this
  · split
    · intro j hj
      cases j with
      | zero => exact h0
      | succ j =>
        have := numN_white (l.getD 0 0) (l.drop 1) j (by simp only at hj; omega)
        rw [getD_drop] at this
        rw [Nat.add_comm j 1]
        exact this
    · split
      · rename_i hp
        obtain ⟨p, hm, hpre, hlen⟩ := punctN_is hp
        intro j hj
        simp only at hj
        rw [← hlen] at hj
        rw [prefix_get hpre hj]
        exact PL_white p hm _ (get_mem hj)
      · intro j hj
        simp only at hj
        obtain rfl : j = 0 := by omega
        exact h0

theorem conEnd_zero {l : List UInt8} (h : conEnd l 0 = 0) : conN l = none := by
  unfold conEnd at h
  rw [List.drop_zero] at h
  cases hc : conN l with
  | none => rfl
  | some x =>
    rw [hc] at h
    have := (conN_in hc).1
    simp only at h
    omega
theorem beg_nl {l : List UInt8} (h : 0 < l.length) : (begN (l ++ [10]) = 1) ↔ (l.getD 0 0 ≠ 10 ∧ isWhi (l.getD 0 0) = false ∧ (rcom l 0).1 = 0) := by
  unfold begN rcom
  rw [nl_front h]
  simp only [nl_get (l := l) (show (47 : UInt8) ≠ 0 by decide) (by decide), nl_get (l := l) (show (42 : UInt8) ≠ 0 by decide) (by decide), List.drop_zero, Nat.zero_add]
  by_cases h1 : l.getD 0 0 = 10
  · rw [if_pos h1]
    exact ⟨fun e => by omega, fun e => absurd h1 e.1⟩
  · rw [if_neg h1]
    cases h2 : isWhi (l.getD 0 0) with
    | true => simp
    | false =>
      simp only [Bool.false_eq_true, if_false]
      by_cases h3 : l.getD 0 0 = 47 ∧ l.getD 1 0 = 47
      · rw [if_pos h3, if_pos h3]
        have := remN_pos h h1
        refine ⟨fun e => by omega, fun e => ?_⟩
        have := e.2.2
        simp only at this
        omega
      · rw [if_neg h3, if_neg h3]
        by_cases h4 : l.getD 0 0 = 47 ∧ l.getD 1 0 = 42
        · rw [if_pos h4, if_pos h4]
          refine ⟨fun e => by omega, fun e => ?_⟩
          have := e.2.2
          unfold comOut at this
          split at this
          · simp only at this
            omega
          · simp only at this
            omega
        · rw [if_neg h4, if_neg h4]
          exact ⟨fun _ => ⟨h1, trivial, rfl⟩, fun _ => rfl⟩
theorem getD_mem {l : List UInt8} {c : UInt8} (h : c ∈ l) : ∃ j, j < l.length ∧ l.getD j 0 = c := by
  obtain ⟨j, hj, rfl⟩ := List.mem_iff_getElem.1 h
  exact ⟨j, hj, by simp [List.getD, List.getElem?_eq_getElem hj]⟩
theorem mem_getD {l : List UInt8} {j : Nat} (h : j < l.length) : l.getD j 0 ∈ l := get_mem h

theorem rone_one (l : List UInt8) : roneL l = oneL l := by
  unfold roneL oneL
  by_cases he : l = []
  · subst he
    rfl
  · have hp : 0 < l.length := List.length_pos_iff.2 he
    rw [if_neg he, tok_nl hp]
    by_cases hb : begN (l ++ [10]) = 1
    · rw [if_pos hb]
      obtain ⟨h10, hw, hc⟩ := (beg_nl hp).1 hb
      rw [if_neg (show ¬ 0 < (rcom l 0).1 by omega)]
      by_cases ht : (tok l).2 = l.length
      · rw [if_pos ht]
        have hin := (tok_in hp h10).2.2
        rw [ht] at hin
        have hany : ¬ (l.any (fun c => (isWhi c && !quoB l) || decide (c = 10))) = true := by
          intro h
          obtain ⟨c, hm, hx⟩ := List.any_eq_true.1 h
          obtain ⟨j, hj, rfl⟩ := getD_mem hm
          simp only [Bool.or_eq_true, Bool.and_eq_true, Bool.not_eq_true', decide_eq_true_eq] at hx
          rcases hx with ⟨h1, h2⟩ | h1
          · rcases rlet_cases l 0 with ⟨-, hE, -, -⟩ | ⟨n, hn, -, -⟩
            · have := tok_white (conEnd_zero hE) hw j (by rw [ht]; exact hj)
              rw [this] at h1
              cases h1
            · unfold quoB at h2
              simp only [Nat.zero_add] at hn
              rw [hn] at h2
              simp at h2
          · exact hin j hj h1
        rw [if_neg hany]
        by_cases hbad : badN (tok l).1 (l.getD 0 0) = true
        · rw [if_pos (.inl hbad), if_pos hbad]
        · rw [if_neg (fun h => h.elim hbad fun h => h ht), if_neg hbad]
      · rw [if_neg ht, if_pos (Or.inr ht)]
        exact ite_self none
    · rw [if_neg hb]
      have hb2 := mt (beg_nl hp).2 hb
      by_cases h10 : l.getD 0 0 = 10
      · rw [if_pos]
        refine List.any_eq_true.2 ⟨_, mem_getD hp, by rw [h10]; simp⟩
      · by_cases hw : isWhi (l.getD 0 0) = true
        · rw [if_pos]
          refine List.any_eq_true.2 ⟨_, mem_getD hp, ?_⟩
          have hq : quoB l = false := by
            unfold quoB rlet
            have : (l.getD 0 0).toNat = 32 ∨ (l.getD 0 0).toNat = 9 ∨ (11 ≤ (l.getD 0 0).toNat ∧ (l.getD 0 0).toNat ≤ 13) := by
              unfold isWhi at hw
              simp only [Bool.or_eq_true, Bool.and_eq_true, decide_eq_true_eq] at hw
              omega
            rw [if_neg (by omega), if_neg (by omega), if_neg (by omega)]
            rfl
          rw [hw, hq]
          rfl
        · have hc : 0 < (rcom l 0).1 := by
            rcases Nat.eq_zero_or_pos (rcom l 0).1 with h | h
            · exact absurd ⟨h10, by simpa using hw, h⟩ hb2
            · exact h
          rw [if_pos hc]
          exact ite_self none

end Go.Proofs.Ytobplffailbkbaa

/-
  The document's One, of any text.
-/
namespace Go.Proofs.Ytobplffailbkbaa
open Go.RowKit

theorem take_get {l : List UInt8} {k j : Nat} (h : j < k) : (l.take k).getD j 0 = l.getD j 0 := by
  simp only [List.getD, List.getElem?_take_of_lt h]
/-- Bytes as runes of no place. -/
def fr (l : List UInt8) : List Rn := l.map fun c => ⟨c, 0, 0⟩
theorem fr_bytes (l : List UInt8) : bytesOf (fr l) = l := by simp [fr, bytesOf, List.map_map, Function.comp_def]
theorem fr_len (l : List UInt8) : (fr l).length = l.length := by simp [fr]
theorem byte_at (s : ByteArray) (k : Nat) (h : k < s.size) : s.data.toList[k]? = some s[k] := by
  have hl : k < s.data.toList.length := by rw [len_byte]; exact h
  have := get_byte s k h
  rw [List.getD_eq_getElem?_getD, List.getElem?_eq_getElem hl] at this
  rw [List.getElem?_eq_getElem hl]
  simpa using this
theorem fr_push (s : ByteArray) (k : Nat) (h : k < s.size) : fr (s.data.toList.take (k + 1)) = fr (s.data.toList.take k) ++ [⟨s[k], 0, 0⟩] := by
  rw [List.take_add_one, byte_at s k h]
  simp [fr]
theorem fr_take (s : ByteArray) (k : Nat) (h : k ≤ s.size) : (fr (s.data.toList.take k)).length = k := by
  rw [fr_len, List.length_take, len_byte]
  omega
def FrRel (W : World) (s : ByteArray) (m : Nat) (v i : Value) (w : World) : Prop := ∃ (k : Nat) (a : Option Addr) (cap : Nat), i = .int .i64 (k : Int) ∧ k ≤ m ∧ k ≤ s.size ∧ v = .slice a k cap ∧ RRow W (.slice a k cap) (fr (s.data.toList.take k)) w
theorem fr_next {W : World} {s : ByteArray} {k : Nat} {a : Option Addr} {cap : Nat} {x : Int} {w : World} (hk : k < s.size) (h : Up W 93 3 (.slice a (k + 1) cap) (k + 1) (rcells (fr (s.data.toList.take k)) ++ [.int .u8 x, .int .i64 0, .int .i64 0]) w) (hx : x = (s[k].toNat : Int)) : RRow W (.slice a (k + 1) cap) (fr (s.data.toList.take (k + 1))) w := by
  rw [fr_push s k hk]
  have hl := fr_take s k (by omega)
  have h' : Up W 93 3 (.slice a (k + 1) cap) ((fr (s.data.toList.take k)).length + 1) (rcells (fr (s.data.toList.take k)) ++ [.int .u8 x, .int .i64 0, .int .i64 0]) w := by rw [hl]; exact h
  exact RRow.push ⟨s[k], 0, 0⟩ h' hx rfl rfl
theorem quo_three (l : List UInt8) {k : Nat} (hk : 3 ≤ k ∨ l.length ≤ k) : rlet ((l.take k).getD 0 0) ((l.take k).getD (0 + 1) 0) ((l.take k).getD (0 + 2) 0) = rlet (l.getD 0 0) (l.getD 1 0) (l.getD 2 0) := by
  rcases hk with h | h
  · rw [take_get (by omega), take_get (by omega), take_get (by omega)]
  · rw [List.take_of_length_le h]

set_option maxRecDepth 100000 in
set_option maxHeartbeats 3200000 in
theorem rquotes_any (s : ByteArray) (w : World) : Calls Try.prog 40 #[.string s] w (BoolNew (quoB s.data.toList) w) := by
  obtain ⟨i0, hi, hz0, hz1, hz2⟩ := info_parts Try.infoRRune
  have HR0 : Hid (RRow w (.slice none 0 0) (fr (s.data.toList.take 0)) w) := Lib.hid (up_nil w _ 3)
  obtain ⟨R, hR⟩ : ∃ R, rlet (s.data.toList.getD 0 0) (s.data.toList.getD 1 0) (s.data.toList.getD 2 0) = R := ⟨_, rfl⟩
  have HQ : Hid (quoB s.data.toList = decide (0 ≤ R)) := Lib.hid (by unfold quoB; rw [hR])
  have HLE : Hid (∀ (k : Nat) (a : Option Addr) (cap : Nat) (X : World), (3 ≤ k ∨ s.size ≤ k) → RRow w (.slice a k cap) (fr (s.data.toList.take k)) X → Calls Try.prog 60 #[.slice a k cap, .int .i64 0] X (LetPost R X)) := Lib.hid (fun k a cap X hk hX => letters_is (RRow.at hX) 0 (by omega) (fr_bytes _) (by
    rw [quo_three _ (by rw [len_byte]; exact hk)]
    exact hR))
  clear hR
  go_enter Try.func40, Try.ntmps40
  go_wp2
  go_loopw [3, 4] (fun v i w' => FrRel w s 3 v i w') (fun _ i _ => 3 - (intOf i).toNat)
  case atStart => exact ⟨0, none, 0, rfl, Nat.zero_le _, Nat.zero_le _, rfl, HR0.out⟩
  case round =>
    obtain ⟨k, a, cap, rfl, hk3, hk, rfl, hU⟩ := hrel
    have HU : Hid (Up w 93 3 (.slice a k cap) k (rcells (fr (s.data.toList.take k))) wr) := Lib.hid (by have h := hU; unfold RRow at h; rw [fr_take s k hk] at h; exact h)
    by_cases hlt : k < s.size
    · by_cases h3 : k < 3
      · have hkI : (k : Int) < (s.size : Int) := by omega
        have h3I : (k : Int) < 3 := by omega
        clear hU
        go_wp2_with (at_builtin; refine wpList_append_ex rfl (.tmp 15) (.tmp 20) 90 rfl _ (app_up Try.underlying90 hi hz0 hz1 hz2 rfl (by decide) (by decide) (HU.out.alloc _) (src_three _ _ _ _ _) three_one (by omega)) ?_; intro v2 w2 hu2; obtain ⟨a2, cap2, rfl, -, -, -⟩ := row_form hu2.1; have U2 := Lib.hid (fr_next hlt hu2 rfl); clear hu2)
        go_roundw
        case rel => exact ⟨k + 1, a2, cap2, by go_num, h3, hlt, rfl, U2.out⟩
        case measure => simp [intOf]; omega
      · have hkI : (k : Int) < (s.size : Int) := by omega
        have h3I : ¬ (k : Int) < 3 := by omega
        have HL := Lib.hid (HLE.out k a cap wr (.inl (by omega)) hU)
        have HB := Lib.hid hU.2
        clear hU
        go_wp2_with (go_at_call 60; (with_reducible refine HL.out.mono ?_); rintro e w' ⟨rfl, rfl⟩)
        go_ret
        exact bool_new HQ.out.symm HB.out
    · have hkI : ¬ (k : Int) < (s.size : Int) := by omega
      have HL := Lib.hid (HLE.out k a cap wr (.inr (by omega)) hU)
      have HB := Lib.hid hU.2
      clear hU
      go_wp2_with (go_at_call 60; (with_reducible refine HL.out.mono ?_); rintro e w' ⟨rfl, rfl⟩)
      go_ret
      exact bool_new HQ.out.symm HB.out

end Go.Proofs.Ytobplffailbkbaa

/-
  The document's One, of any text, walked.
-/
namespace Go.Proofs.Ytobplffailbkbaa
open Go.RowKit

def oneBad (s : ByteArray) (c : UInt8) : Bool := (isWhi c && !quoB s.data.toList) || decide (c = 10)
def OneRel (W : World) (s : ByteArray) (v i : Value) (w : World) : Prop := ∃ (k : Nat) (a : Option Addr) (cap : Nat), i = .int .i64 (k : Int) ∧ k ≤ s.size ∧ v = .slice a k cap ∧ RRow W (.slice a k cap) (fr (s.data.toList.take k)) w ∧ (s.data.toList.take k).any (oneBad s) = false
def OneBox2 (W : World) (w : World) : Prop := Below W.heap.size W w ∧ w.heap[W.heap.size]? = some (.cells #[.int .i64 0, .string ⟨#[]⟩, .bool false, .string ⟨#[]⟩, .int .i64 0, .int .i64 0, .bool false, .slice none 0 0] 26 (0, 0))
theorem OneBox2.zeros {W : World} {w : World} (h : OneBox2 W w) : w.cell? ⟨W.heap.size, 0, none⟩ = some (.int .i64 0) ∧ w.cell? ⟨W.heap.size, 1, none⟩ = some (.string ⟨#[]⟩) ∧ w.cell? ⟨W.heap.size, 2, none⟩ = some (.bool false) ∧ w.cell? ⟨W.heap.size, 3, none⟩ = some (.string ⟨#[]⟩) ∧
    w.cell? ⟨W.heap.size, 4, none⟩ = some (.int .i64 0) ∧ w.cell? ⟨W.heap.size, 5, none⟩ = some (.int .i64 0) ∧ w.cell? ⟨W.heap.size, 6, none⟩ = some (.bool false) ∧ w.cell? ⟨W.heap.size, 7, none⟩ = some (.slice none 0 0) ∧ ∀ k, w.frozen? ⟨W.heap.size, k, none⟩ = false := by
  obtain ⟨z0, z1, z2, z3, z4, z5, z6, z7⟩ := cells8 h.2
  exact ⟨z0, z1, z2, z3, z4, z5, z6, z7, fun j => Lib.frozen_of_heap h.2 _⟩
theorem OneBox2.over {W : World} {w w' : World} (h : OneBox2 W w) (b : Below w.heap.size w w') : OneBox2 W w' := ⟨below_up h.1 b, (b.block _ (row_lt h.2)).trans h.2⟩
theorem one_bad {s : ByteArray} {k : Nat} (hk : k < s.size) (h : oneBad s s[k] = true) : oneL s.data.toList = none := by
  rw [← rone_one]
  unfold roneL
  rw [if_pos]
  exact List.any_eq_true.2 ⟨_, List.mem_of_getElem? (byte_at s k hk), h⟩
theorem one_more {s : ByteArray} {k : Nat} (hk : k < s.size) (h : oneBad s s[k] = false) (hl : (s.data.toList.take k).any (oneBad s) = false) : (s.data.toList.take (k + 1)).any (oneBad s) = false := by
  rw [List.take_add_one, byte_at s k hk, List.any_append, hl]
  simp [h]
theorem one_fin {s : ByteArray} (h : s.data.toList.any (oneBad s) = false) : oneL s.data.toList = if s.data.toList = [] then none else if 0 < (rcom s.data.toList 0).1 then none else if badN (tok s.data.toList).1 (s.data.toList.getD 0 0) = true ∨ (tok s.data.toList).2 ≠ s.data.toList.length then none else some (tok s.data.toList).1 := by
  rw [← rone_one]
  unfold roneL
  rw [if_neg]
  intro e
  have e2 : s.data.toList.any (oneBad s) = true := e
  rw [h] at e2
  cases e2

set_option maxRecDepth 100000 in
set_option maxHeartbeats 6400000 in
theorem rone_any (s : ByteArray) (W : World) (hs : s.size ≤ 10000) : Calls Try.prog 23 #[.string s] W (onePost s W) := by
  obtain ⟨i0, hi, hz0, hz1, hz2⟩ := info_parts Try.infoRRune
  have HQU : Hid (∀ X : World, Calls Try.prog 40 #[.string s] X (BoolNew (quoB s.data.toList) X)) := Lib.hid (fun X => rquotes_any s X)
  have HWH : Hid (∀ (c : UInt8) (X : World), Calls Try.prog 39 #[.int .u8 (c.toNat : Int)] X (BoolPost (isWhi c) X)) := Lib.hid (fun c X => rWhite_any c X)
  have hbox : OneBox2 W (W.alloc (.cells #[.int .i64 0, .string ⟨#[]⟩, .bool false, .string ⟨#[]⟩, .int .i64 0, .int .i64 0, .bool false, .slice none 0 0] 26)) := ⟨(Below.refl _ _).alloc (Nat.le_refl _) _, heap_alloc_new _ _⟩
  have HBAD := Lib.hid (fun k (hk : k < s.size) => one_bad (s := s) hk)
  have HMORE := Lib.hid (fun k (hk : k < s.size) => one_more (s := s) hk)
  have HFIN := Lib.hid (one_fin (s := s))
  have HNONE := Lib.hid (fun (h : oneL s.data.toList = none) (w' : World) => one_none (s := s) (W := W) (w' := w') h)
  have HSOME := Lib.hid (fun (k : Nat) (h : oneL s.data.toList = some k) (w' : World) => one_some (s := s) (W := W) (w' := w') h)
  obtain ⟨Q, hQ⟩ : ∃ Q, quoB s.data.toList = Q := ⟨_, rfl⟩
  have HBD : Hid (∀ c, oneBad s c = ((isWhi c && !Q) || decide (c = 10))) := Lib.hid (fun c => by unfold oneBad; rw [hQ])
  rw [hQ] at HQU
  obtain ⟨W1, hW1⟩ : ∃ W1, W.alloc (.cells #[.int .i64 0, .string ⟨#[]⟩, .bool false, .string ⟨#[]⟩, .int .i64 0, .int .i64 0, .bool false, .slice none 0 0] 26) = W1 := ⟨_, rfl⟩
  rw [hW1] at hbox
  have HBX := Lib.hid (fun (X : World) (h : Below W1.heap.size W1 X) => hbox.over h)
  have HR0 : Hid (RRow W1 (.slice none 0 0) (fr (s.data.toList.take 0)) W1) := Lib.hid (up_nil W1 _ 3)
  have HFL : Hid (s.data.toList.take s.size = s.data.toList) := Lib.hid (by rw [← len_byte, List.take_length])
  have HLN : Hid (s.data.toList.length = s.size) := Lib.hid (len_byte s)
  clear hbox hQ
  go_enter Try.func23, Try.ntmps23
  go_wp2
  clear hW1
  go_loopw [4, 5] (fun v i w' => OneRel W1 s v i w') (fun _ i _ => s.size - (intOf i).toNat)
  case atStart => exact ⟨0, none, 0, rfl, Nat.zero_le _, rfl, HR0.out, rfl⟩
  case round =>
    obtain ⟨k, a, cap, rfl, hk, rfl, hU, hna⟩ := hrel
    have HNA := Lib.hid hna
    clear hna
    by_cases hlt : k < s.size
    · have HU : Hid (Up W1 93 3 (.slice a k cap) k (rcells (fr (s.data.toList.take k))) wr) := Lib.hid (by have h := hU; unfold RRow at h; rw [fr_take s k hk] at h; exact h)
      have hkI : (k : Int) < (s.size : Int) := by omega
      have HBK := Lib.hid (HBD.out s[k])
      have HOB := Lib.hid (HBX.out wr hU.2)
      obtain ⟨z0, z1, z2, z3, z4, z5, z6, z7, zf⟩ := HOB.out.zeros
      have HWK := Lib.hid (HWH.out s[k])
      have HBAK := Lib.hid (HBAD.out k hlt)
      have HMOK := Lib.hid (HMORE.out k hlt)
      obtain ⟨b, hb⟩ : ∃ b, isWhi s[k] = b := ⟨_, rfl⟩
      rw [hb] at HWK HBK
      clear hU hb
      cases b with
      | false =>
        by_cases h10 : s[k] = 10
        · have hnb : (((s[k].toNat : Nat) : Int) == 10) = true := by rw [h10]; rfl
          have HO := Lib.hid (HBAK.out (by rw [HBK.out, h10]; rfl))
          clear h10
          go_wp2_with (go_at_call 39; (with_reducible refine (HWK.out _).mono ?_); rintro e w' ⟨rfl, rfl⟩)
          obtain ⟨X, hX, ⟨y0, y1, y2, y3, y4, y5, y6, y7⟩, hB, -⟩ := st8_done HOB.out.2 HOB.out.1 (Nat.le_refl _) (.int .i64 0) (.string ⟨#[]⟩) (.bool false) (.string ⟨#[]⟩) (.int .i64 0) (.int .i64 0) (.bool false) (.slice none 0 0)
          rw [hX]
          exact bodyPost_ret (v := .tuple #[.agg #[.int .i64 0, .string ⟨#[]⟩, .bool false, .string ⟨#[]⟩, .int .i64 0, .int .i64 0, .bool false, .slice none 0 0], .bool false]) (by simp [results, Try.results23, go_sem, y0, y1, y2, y3, y4, y5, y6, y7]) rfl (HNONE.out HO.out X hB)
        · have hnb : (((s[k].toNat : Nat) : Int) == 10) = false := by
            rw [beq_eq_false_iff_ne]
            intro e
            exact h10 (UInt8.toNat_inj.1 (by show s[k].toNat = 10; omega))
          have HM := Lib.hid (HMOK.out (by rw [HBK.out]; simp [h10]) HNA.out)
          clear h10
          go_wp2_with (first
            | (go_at_call 39; (with_reducible refine (HWK.out _).mono ?_); rintro e w' ⟨rfl, rfl⟩)
            | (at_builtin; refine wpList_append_ex rfl (.tmp 33) (.tmp 38) 90 rfl _ (app_up Try.underlying90 hi hz0 hz1 hz2 rfl (by decide) (by decide) (HU.out.alloc _) (src_three _ _ _ _ _) three_one (by omega)) ?_; intro v2 w2 hu2; obtain ⟨a2, cap2, rfl, -, -, -⟩ := row_form hu2.1; have U2 := Lib.hid (fr_next hlt hu2 rfl); clear hu2))
          go_roundw
          case rel => exact ⟨k + 1, a2, cap2, by go_num, hlt, rfl, U2.out, HM.out⟩
          case measure => simp [intOf]; omega
      | true =>
        cases Q with
        | false =>
          have HO := Lib.hid (HBAK.out (by rw [HBK.out]; rfl))
          go_wp2_with (first
            | (go_at_call 39; (with_reducible refine (HWK.out _).mono ?_); rintro e w' ⟨rfl, rfl⟩)
            | (go_at_call 40; (with_reducible refine (HQU.out _).mono ?_); rintro e w3 ⟨rfl, hb3⟩; have HOB3 := Lib.hid (HOB.out.over hb3); (obtain ⟨y0, y1, y2, y3, y4, y5, y6, y7, yf⟩ := HOB3.out.zeros); clear hb3 z0 z1 z2 z3 z4 z5 z6 z7 zf))
          obtain ⟨X, hX, ⟨y0, y1, y2, y3, y4, y5, y6, y7⟩, hB, -⟩ := st8_done HOB3.out.2 HOB3.out.1 (Nat.le_refl _) (.int .i64 0) (.string ⟨#[]⟩) (.bool false) (.string ⟨#[]⟩) (.int .i64 0) (.int .i64 0) (.bool false) (.slice none 0 0)
          rw [hX]
          exact bodyPost_ret (v := .tuple #[.agg #[.int .i64 0, .string ⟨#[]⟩, .bool false, .string ⟨#[]⟩, .int .i64 0, .int .i64 0, .bool false, .slice none 0 0], .bool false]) (by simp [results, Try.results23, go_sem, y0, y1, y2, y3, y4, y5, y6, y7]) rfl (HNONE.out HO.out X hB)
        | true =>
          by_cases h10 : s[k] = 10
          · have hnb : (((s[k].toNat : Nat) : Int) == 10) = true := by rw [h10]; rfl
            have HO := Lib.hid (HBAK.out (by rw [HBK.out, h10]; rfl))
            clear h10
            go_wp2_with (first
              | (go_at_call 39; (with_reducible refine (HWK.out _).mono ?_); rintro e w' ⟨rfl, rfl⟩)
              | (go_at_call 40; (with_reducible refine (HQU.out _).mono ?_); rintro e w3 ⟨rfl, hb3⟩; have HOB3 := Lib.hid (HOB.out.over hb3); (obtain ⟨y0, y1, y2, y3, y4, y5, y6, y7, yf⟩ := HOB3.out.zeros); clear hb3 z0 z1 z2 z3 z4 z5 z6 z7 zf))
            obtain ⟨X, hX, ⟨y0, y1, y2, y3, y4, y5, y6, y7⟩, hB, -⟩ := st8_done HOB3.out.2 HOB3.out.1 (Nat.le_refl _) (.int .i64 0) (.string ⟨#[]⟩) (.bool false) (.string ⟨#[]⟩) (.int .i64 0) (.int .i64 0) (.bool false) (.slice none 0 0)
            rw [hX]
            exact bodyPost_ret (v := .tuple #[.agg #[.int .i64 0, .string ⟨#[]⟩, .bool false, .string ⟨#[]⟩, .int .i64 0, .int .i64 0, .bool false, .slice none 0 0], .bool false]) (by simp [results, Try.results23, go_sem, y0, y1, y2, y3, y4, y5, y6, y7]) rfl (HNONE.out HO.out X hB)
          · have hnb : (((s[k].toNat : Nat) : Int) == 10) = false := by
              rw [beq_eq_false_iff_ne]
              intro e
              exact h10 (UInt8.toNat_inj.1 (by show s[k].toNat = 10; omega))
            have HM := Lib.hid (HMOK.out (by rw [HBK.out]; simp [h10]) HNA.out)
            clear h10
            go_wp2_with (first
              | (go_at_call 39; (with_reducible refine (HWK.out _).mono ?_); rintro e w' ⟨rfl, rfl⟩)
              | (go_at_call 40; (with_reducible refine (HQU.out _).mono ?_); rintro e w3 ⟨rfl, hb3⟩; have HU3 := Lib.hid (HU.out.over hb3); clear hb3)
              | (at_builtin; refine wpList_append_ex rfl (.tmp 33) (.tmp 38) 90 rfl _ (app_up Try.underlying90 hi hz0 hz1 hz2 rfl (by decide) (by decide) (HU3.out.alloc _) (src_three _ _ _ _ _) three_one (by omega)) ?_; intro v2 w2 hu2; obtain ⟨a2, cap2, rfl, -, -, -⟩ := row_form hu2.1; have U2 := Lib.hid (fr_next hlt hu2 rfl); clear hu2))
            go_roundw
            case rel => exact ⟨k + 1, a2, cap2, by go_num, hlt, rfl, U2.out, HM.out⟩
            case measure => simp [intOf]; omega
    · have hkI : ¬ (k : Int) < (s.size : Int) := by omega
      obtain rfl : k = s.size := by omega
      have hrs : RsAt (fr s.data.toList) (.slice a s.size cap) wr := by have h := RRow.at hU; rw [HFL.out] at h; exact h
      have hna := HNA.out
      rw [HFL.out] at hna
      have HON := Lib.hid (HFIN.out hna)
      have HB := Lib.hid hU.2
      have HOB := Lib.hid (HBX.out wr hU.2)
      by_cases hz : s.size = 0
      · have hne0 : ((s.size : Int) == 0) = true := by rw [hz]; rfl
        have HO : Hid (oneL s.data.toList = none) := Lib.hid (by
          rw [HON.out, if_pos]
          exact List.eq_nil_of_length_eq_zero (by rw [HLN.out]; exact hz))
        obtain ⟨z0, z1, z2, z3, z4, z5, z6, z7, zf⟩ := HOB.out.zeros
        clear hU hrs hna hz
        go_wp2
        obtain ⟨X, hX, ⟨y0, y1, y2, y3, y4, y5, y6, y7⟩, hB, -⟩ := st8_done HOB.out.2 HOB.out.1 (Nat.le_refl _) (.int .i64 0) (.string ⟨#[]⟩) (.bool false) (.string ⟨#[]⟩) (.int .i64 0) (.int .i64 0) (.bool false) (.slice none 0 0)
        rw [hX]
        exact bodyPost_ret (v := .tuple #[.agg #[.int .i64 0, .string ⟨#[]⟩, .bool false, .string ⟨#[]⟩, .int .i64 0, .int .i64 0, .bool false, .slice none 0 0], .bool false]) (by simp [results, Try.results23, go_sem, y0, y1, y2, y3, y4, y5, y6, y7]) rfl (HNONE.out HO.out X hB)
      · have hne0 : ((s.size : Int) == 0) = false := by rw [beq_eq_false_iff_ne]; omega
        have hlf : (fr s.data.toList).length = s.size := by rw [fr_len, len_byte]
        have hcm := rcomment_any hrs 0 (by rw [hlf]; omega) (by rw [hlf]; omega)
        have hnx := rnext_any hrs 0 (by rw [hlf]; omega) (by rw [hlf]; omega) (fr_bytes _)
        rw [fr_bytes] at hcm
        unfold NextPost at hnx
        rw [List.drop_zero, Nat.zero_add] at hnx
        have hon := HON.out
        rw [if_neg (fun e => hz (by rw [← HLN.out, e]; rfl)), HLN.out] at hon
        obtain ⟨J, hJ⟩ : ∃ J, rcom s.data.toList 0 = J := ⟨_, rfl⟩
        obtain ⟨K, hK⟩ : ∃ K, (tok s.data.toList).1 = K := ⟨_, rfl⟩
        obtain ⟨N, hN⟩ : ∃ N, (tok s.data.toList).2 = N := ⟨_, rfl⟩
        rw [hK] at hon hnx
        rw [hN] at hon hnx
        rw [hJ] at hon hcm
        obtain ⟨B, hBb⟩ : ∃ B, badN K (s.data.toList.getD 0 0) = B := ⟨_, rfl⟩
        rw [hBb] at hon hnx
        have HNX : Hid (Calls Try.prog 42 #[.slice a s.size cap, .int .i64 0] wr (fun e w' => e = .returned (.tuple #[.int .i64 (K : Int), .int .i64 (N : Int), .bool B]) ∧ Below wr.heap.size wr w')) := Lib.hid hnx
        obtain ⟨J, c⟩ := J
        simp only at hon
        have HON := Lib.hid hon
        have HC : Hid (Calls Try.prog 41 #[.slice a s.size cap, .int .i64 0] wr (fun e w' => e = .returned (.tuple #[.int .i64 (J : Int), .bool c]) ∧ wr = w')) := Lib.hid hcm
        obtain ⟨z0, z1, z2, z3, z4, z5, z6, z7, zf⟩ := HOB.out.zeros
        clear hcm hnx hon hBb hJ hK hN hU hrs hna hlf hz
        by_cases hJ : 0 < J
        · have hJI : (0 : Int) < (J : Int) := by omega
          have HO : Hid (oneL s.data.toList = none) := Lib.hid (by rw [HON.out, if_pos hJ])
          go_wp2_with (go_at_call 41; (with_reducible refine HC.out.mono ?_); rintro e w' ⟨rfl, rfl⟩)
          obtain ⟨X, hX, ⟨y0, y1, y2, y3, y4, y5, y6, y7⟩, hB, -⟩ := st8_done HOB.out.2 HOB.out.1 (Nat.le_refl _) (.int .i64 0) (.string ⟨#[]⟩) (.bool false) (.string ⟨#[]⟩) (.int .i64 0) (.int .i64 0) (.bool false) (.slice none 0 0)
          rw [hX]
          exact bodyPost_ret (v := .tuple #[.agg #[.int .i64 0, .string ⟨#[]⟩, .bool false, .string ⟨#[]⟩, .int .i64 0, .int .i64 0, .bool false, .slice none 0 0], .bool false]) (by simp [results, Try.results23, go_sem, y0, y1, y2, y3, y4, y5, y6, y7]) rfl (HNONE.out HO.out X hB)
        · have hJI : ¬ (0 : Int) < (J : Int) := by omega
          have hon := HON.out
          rw [if_neg hJ] at hon
          have HON := Lib.hid hon
          clear hon
          cases B with
          | true =>
            have HO : Hid (oneL s.data.toList = none) := Lib.hid (by rw [HON.out, if_pos (.inl rfl)])
            go_wp2_with (first
              | (go_at_call 41; (with_reducible refine HC.out.mono ?_); rintro e w' ⟨rfl, rfl⟩)
              | (go_at_call 42; (with_reducible refine HNX.out.mono ?_); rintro e w3 ⟨rfl, hb3⟩; have HOB3 := Lib.hid (HOB.out.over hb3); (obtain ⟨y0, y1, y2, y3, y4, y5, y6, y7, yf⟩ := HOB3.out.zeros); clear hb3 z0 z1 z2 z3 z4 z5 z6 z7 zf))
            obtain ⟨X, hX, ⟨y0, y1, y2, y3, y4, y5, y6, y7⟩, hB, -⟩ := st8_done HOB3.out.2 HOB3.out.1 (Nat.le_refl _) (.int .i64 0) (.string ⟨#[]⟩) (.bool false) (.string ⟨#[]⟩) (.int .i64 0) (.int .i64 0) (.bool false) (.slice none 0 0)
            rw [hX]
            exact bodyPost_ret (v := .tuple #[.agg #[.int .i64 0, .string ⟨#[]⟩, .bool false, .string ⟨#[]⟩, .int .i64 0, .int .i64 0, .bool false, .slice none 0 0], .bool false]) (by simp [results, Try.results23, go_sem, y0, y1, y2, y3, y4, y5, y6, y7]) rfl (HNONE.out HO.out X hB)
          | false =>
            by_cases hN : N = s.size
            · subst hN
              have hnn : ((s.size : Int) != (s.size : Int)) = false := by simp
              have HO : Hid (oneL s.data.toList = some K) := Lib.hid (by rw [HON.out, if_neg (by simp)])
              go_wp2_with (first
                | (go_at_call 41; (with_reducible refine HC.out.mono ?_); rintro e w' ⟨rfl, rfl⟩)
                | (go_at_call 42; (with_reducible refine HNX.out.mono ?_); rintro e w3 ⟨rfl, hb3⟩; have HOB3 := Lib.hid (HOB.out.over hb3); (obtain ⟨y0, y1, y2, y3, y4, y5, y6, y7, yf⟩ := HOB3.out.zeros); clear hb3 z0 z1 z2 z3 z4 z5 z6 z7 zf))
              obtain ⟨X, hX, ⟨y0, y1, y2, y3, y4, y5, y6, y7⟩, hB, -⟩ := st8_done HOB3.out.2 HOB3.out.1 (Nat.le_refl _) (.int .i64 (K : Int)) (.string s) (.bool false) (.string ⟨#[]⟩) (.int .i64 0) (.int .i64 0) (.bool false) (.slice none 0 0)
              rw [hX]
              exact bodyPost_ret (v := .tuple #[.agg #[.int .i64 (K : Int), .string s, .bool false, .string ⟨#[]⟩, .int .i64 0, .int .i64 0, .bool false, .slice none 0 0], .bool true]) (by simp [results, Try.results23, go_sem, y0, y1, y2, y3, y4, y5, y6, y7]) rfl (HSOME.out K HO.out X hB)
            · have hnn : ((N : Int) != (s.size : Int)) = true := by
                rw [bne_iff_ne]
                omega
              have HO : Hid (oneL s.data.toList = none) := Lib.hid (by rw [HON.out, if_pos (.inr hN)])
              clear hN
              go_wp2_with (first
                | (go_at_call 41; (with_reducible refine HC.out.mono ?_); rintro e w' ⟨rfl, rfl⟩)
                | (go_at_call 42; (with_reducible refine HNX.out.mono ?_); rintro e w3 ⟨rfl, hb3⟩; have HOB3 := Lib.hid (HOB.out.over hb3); (obtain ⟨y0, y1, y2, y3, y4, y5, y6, y7, yf⟩ := HOB3.out.zeros); clear hb3 z0 z1 z2 z3 z4 z5 z6 z7 zf))
              obtain ⟨X, hX, ⟨y0, y1, y2, y3, y4, y5, y6, y7⟩, hB, -⟩ := st8_done HOB3.out.2 HOB3.out.1 (Nat.le_refl _) (.int .i64 0) (.string ⟨#[]⟩) (.bool false) (.string ⟨#[]⟩) (.int .i64 0) (.int .i64 0) (.bool false) (.slice none 0 0)
              rw [hX]
              exact bodyPost_ret (v := .tuple #[.agg #[.int .i64 0, .string ⟨#[]⟩, .bool false, .string ⟨#[]⟩, .int .i64 0, .int .i64 0, .bool false, .slice none 0 0], .bool false]) (by simp [results, Try.results23, go_sem, y0, y1, y2, y3, y4, y5, y6, y7]) rfl (HNONE.out HO.out X hB)

end Go.Proofs.Ytobplffailbkbaa
