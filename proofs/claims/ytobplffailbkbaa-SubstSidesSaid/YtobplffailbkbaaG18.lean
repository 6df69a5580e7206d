/-
  Texts of the proof, put together: RxX.
-/
import Derived.Test.YtobplffailbkbaaG16
import Derived.Test.YtobplffailbkbaaG17
import Derived.OwnWalk

/-
  The document's own next, walked (printed by tools/gennext.py).
-/
namespace Go.Proofs.Ytobplffailbkbaa
open Go.RowKit

/-- What the document's next answers. -/
def NextPost (l : List UInt8) (i : Nat) (w : World) (e : Ending) (w' : World) : Prop :=
  e = .returned (.tuple #[.int .i64 ((tok (l.drop i)).1 : Int), .int .i64 ((i + (tok (l.drop i)).2 : Nat) : Int), .bool (badN (tok (l.drop i)).1 (l.getD i 0))]) ∧ Below w.heap.size w w'

theorem next_fin {l : List UInt8} {i k n : Nat} {b : Bool} {w w' : World} {x y : Int} (h : tok (l.drop i) = (k, n)) (hb : badN k (l.getD i 0) = b) (hx : x = (k : Int)) (hy : y = ((i + n : Nat) : Int)) (B : Below w.heap.size w w') :
    NextPost l i w (.returned (.tuple #[.int .i64 x, .int .i64 y, .bool b])) w' := by
  subst hx hy hb
  refine ⟨?_, B⟩
  rw [h]

theorem lettN_two {l : List UInt8} (h : l.getD 0 0 = 117 ∧ l.getD 1 0 = 56 ∧ l.getD 2 0 = 34) : lettN l = 2 := by unfold lettN; rw [if_pos h]
theorem lettN_one {l : List UInt8} (h : ¬ (l.getD 0 0 = 117 ∧ l.getD 1 0 = 56 ∧ l.getD 2 0 = 34)) (h1 : (l.getD 0 0 = 76 ∨ l.getD 0 0 = 117 ∨ l.getD 0 0 = 85) ∧ (l.getD 1 0 = 34 ∨ l.getD 1 0 = 39)) : lettN l = 1 := by unfold lettN; rw [if_neg h, if_pos h1]
theorem lettN_zero {l : List UInt8} (h : ¬ (l.getD 0 0 = 117 ∧ l.getD 1 0 = 56 ∧ l.getD 2 0 = 34)) (h1 : ¬ ((l.getD 0 0 = 76 ∨ l.getD 0 0 = 117 ∨ l.getD 0 0 = 85) ∧ (l.getD 1 0 = 34 ∨ l.getD 1 0 = 39))) : lettN l = 0 := by unfold lettN; rw [if_neg h, if_neg h1]

theorem byte_iff {c : UInt8} {n : Nat} (hn : n < 256) : c.toNat = n ↔ c = UInt8.ofNat n := by
  constructor
  · intro h
    apply UInt8.toNat_inj.1
    rw [h]
    simp
    omega
  · intro h
    rw [h]
    simp
    omega

/-- How many letters stand ahead of a quote, in the document's words. -/
def LetIs (l : List UInt8) (i n : Nat) : Prop := lettN (l.drop i) = n ∧ n ≤ 2 ∧ (l.getD (i + n) 0 = 34 ∨ l.getD (i + n) 0 = 39)
theorem rlet_cases (l : List UInt8) (i : Nat) : (rlet (l.getD i 0) (l.getD (i + 1) 0) (l.getD (i + 2) 0) = -1 ∧ conEnd l i = 0 ∧ l.getD i 0 ≠ 34 ∧ l.getD i 0 ≠ 39) ∨ ∃ n : Nat, rlet (l.getD i 0) (l.getD (i + 1) 0) (l.getD (i + 2) 0) = (n : Int) ∧ LetIs l i n ∧ (n ≠ 0 → isLet (l.getD i 0) = true) := by
  have g0 := getD_drop l i 0
  have g1 := getD_drop l i 1
  have g2 := getD_drop l i 2
  rw [Nat.add_zero] at g0
  unfold rlet
  by_cases h0 : (l.getD i 0).toNat = 34 ∨ (l.getD i 0).toNat = 39
  · rw [if_pos h0]
    simp only [byte_iff (n := 34) (by omega), byte_iff (n := 39) (by omega)] at h0
    refine .inr ⟨0, rfl, ⟨lettN_zero ?_ ?_, by omega, h0⟩, fun h => absurd rfl h⟩
    · rw [g0]
      rintro ⟨e, -⟩
      rw [e] at h0
      revert h0
      decide
    · rw [g0]
      rintro ⟨e, -⟩
      rcases h0 with h0 | h0 <;> (rw [h0] at e; revert e; decide)
  · rw [if_neg h0]
    by_cases h2 : (l.getD i 0).toNat = 117 ∧ (l.getD (i + 1) 0).toNat = 56 ∧ (l.getD (i + 2) 0).toNat = 34
    · rw [if_pos h2]
      simp only [byte_iff (n := 117) (by omega), byte_iff (n := 56) (by omega), byte_iff (n := 34) (by omega)] at h2
      exact .inr ⟨2, rfl, ⟨lettN_two (by rw [g0, g1, g2]; exact h2), by omega, .inl h2.2.2⟩, fun _ => by rw [h2.1]; rfl⟩
    · rw [if_neg h2]
      simp only [byte_iff (n := 117) (by omega), byte_iff (n := 56) (by omega), byte_iff (n := 34) (by omega)] at h2
      by_cases h1 : ((l.getD i 0).toNat = 76 ∨ (l.getD i 0).toNat = 117 ∨ (l.getD i 0).toNat = 85) ∧ ((l.getD (i + 1) 0).toNat = 34 ∨ (l.getD (i + 1) 0).toNat = 39)
      · rw [if_pos h1]
        simp only [byte_iff (n := 76) (by omega), byte_iff (n := 117) (by omega), byte_iff (n := 85) (by omega), byte_iff (n := 34) (by omega), byte_iff (n := 39) (by omega)] at h1
        refine .inr ⟨1, rfl, ⟨lettN_one (by rw [g0, g1, g2]; exact h2) (by rw [g0, g1]; exact h1), by omega, h1.2⟩, fun _ => ?_⟩
        rcases h1.1 with e | e | e <;> (rw [e]; rfl)
      · rw [if_neg h1]
        simp only [byte_iff (n := 76) (by omega), byte_iff (n := 117) (by omega), byte_iff (n := 85) (by omega), byte_iff (n := 34) (by omega), byte_iff (n := 39) (by omega)] at h1
        simp only [byte_iff (n := 34) (by omega), byte_iff (n := 39) (by omega)] at h0
        have hz : lettN (l.drop i) = 0 := lettN_zero (by rw [g0, g1, g2]; exact h2) (by rw [g0, g1]; exact h1)
        have n1 : l.getD i 0 ≠ 34 := fun e => h0 (.inl e)
        have n2 : l.getD i 0 ≠ 39 := fun e => h0 (.inr e)
        exact .inl ⟨rfl, con_no (by rw [hz]; exact n1) (by rw [hz]; exact n2), n1, n2⟩

theorem LetIs.con {l : List UInt8} {i n : Nat} (h : LetIs l i n) : conEnd l i = qEnd l (l.getD (i + n) 0) (i + n) := by
  obtain ⟨rfl, -, h⟩ := h
  rcases h with h | h
  · rw [con_str h, h]
  · rw [con_chr h, h]
theorem LetIs.kind {l : List UInt8} {i n : Nat} (h : LetIs l i n) : conKind l i = if l.getD (i + n) 0 = 34 then 4 else 3 := by
  obtain ⟨rfl, -, h⟩ := h
  unfold conKind
  rcases h with h | h
  · rw [if_pos h, if_pos h]
  · have : l.getD (i + lettN (l.drop i)) 0 ≠ 34 := by rw [h]; decide
    rw [if_neg this, if_neg this, if_pos h]

theorem wordN_at {l : List UInt8} {j : Nat} : wordN (l.drop j) = if isWord (l.getD j 0) then wordN (l.drop (j + 1)) + 1 else 0 := by
  rcases Nat.lt_or_ge j l.length with h | h
  · exact wordN_step h
  · rw [List.drop_eq_nil_of_le h]
    have : l.getD j 0 = 0 := by simp [List.getD, List.getElem?_eq_none h]
    rw [this, if_neg (by decide)]
    rfl

theorem punctN_quote {l : List UInt8} (h : l.getD 0 0 = 34 ∨ l.getD 0 0 = 39) : punctN l = 0 := by
  rcases Nat.eq_zero_or_pos (punctN l) with h0 | h0
  · exact h0
  · obtain ⟨p, hp, ⟨r, rfl⟩, -⟩ := punctN_is h0
    have h1 := PL_len p hp
    cases p with
    | nil => simp at h1
    | cons a q =>
      have h2 := PL_no _ hp a List.mem_cons_self
      rcases h with h | h
      · exact absurd h h2.2.1
      · exact absurd h h2.2.2.1

def LetPost (r : Int) (w : World) (e : Ending) (w' : World) : Prop := e = .returned (.int .i64 r) ∧ w = w'
theorem letters_is {L : List Rn} {v : Value} {w : World} (h : RsAt L v w) (i : Nat) (hi : i ≤ 1000000) {l : List UInt8} (hl : bytesOf L = l) {r : Int} (hr : rlet (l.getD i 0) (l.getD (i + 1) 0) (l.getD (i + 2) 0) = r) : Calls Try.prog 60 #[v, .int .i64 (i : Int)] w (LetPost r w) := by
  subst hl hr
  exact rletters_any h i hi
theorem rat_is {L : List Rn} {v : Value} {w : World} (h : RsAt L v w) (j : Nat) {l : List UInt8} (hl : bytesOf L = l) {c : UInt8} (hc : l.getD j 0 = c) {x : Int} (hx : x = (j : Int)) : Calls Try.prog 61 #[v, .int .i64 x] w (BytePost c w) := by
  subst hl hc
  exact rat_any h j hx

set_option maxRecDepth 100000 in
set_option maxHeartbeats 3200000 in
theorem rnext_str {L : List Rn} {v : Value} {w : World} (h : RsAt L v w) (i : Nat) (hL : L.length ≤ 1000000) (hi : i < L.length) {l : List UInt8} (hl : bytesOf L = l) {n : Nat} (hn : rlet (l.getD i 0) (l.getD (i + 1) 0) (l.getD (i + 2) 0) = (n : Int)) (hT : LetIs l i n) (hq : l.getD (i + n) 0 = 34) (hE : 0 < conEnd l i) : Calls Try.prog 42 #[v, .int .i64 (i : Int)] w (NextPost l i w) := by
  obtain ⟨E, he⟩ : ∃ E, conEnd l i = E := ⟨_, rfl⟩
  have hll : l.length = L.length := by rw [← hl]; exact bytesOf_len L
  have hnl : i + n < L.length := by rw [← hll]; exact getD_lt (by rw [hq]; decide)
  have HLE := Lib.hid (letters_is h i (by omega) hl hn)
  have hc := hT.con
  rw [hq, he] at hc
  have HQ : Hid (Calls Try.prog 62 #[v, .int .i64 ((i : Int) + (n : Int))] w (NatPost E w)) := Lib.hid (by
    have := rquoted_any h (i + n) (x := (i : Int) + (n : Int)) (by omega) hL hnl (q := 34) (by rw [hl]; exact hq) (by decide)
    rw [hl, ← hc] at this
    exact this)
  have HA : Hid (Calls Try.prog 61 #[v, .int .i64 ((i : Int) + (n : Int))] w fun e w' => e = .returned (.int .u8 34) ∧ w = w') := Lib.hid (rat_is h (i + n) hl hq (by omega))
  have hk := tok_con hE
  rw [hT.kind, hq, he] at hk
  have HT : Hid (tok (l.drop i) = (4, (tok (l.drop i)).2)) := Lib.hid (Prod.ext hk.1.symm rfl)
  have HY : Hid (E = i + (tok (l.drop i)).2) := Lib.hid hk.2
  rw [he] at hE
  have hEb : E ≤ 1000001 := by
    rw [hc]
    unfold qEnd
    cases hqn : qN 34 false (l.drop (i + n + 1)) with
    | none => simp
    | some m =>
      have := qN_in 34 false _ m (by decide) hqn
      rw [List.length_drop] at this
      simp
      omega
  have hEI : (0 : Int) < (E : Int) := by omega
  have hnI : (0 : Int) ≤ (n : Int) := by omega
  clear h hn hT hq he hc hk
  go_enter Try.func42, Try.ntmps42
  go_wp2_with (first
    | (go_at_call 60; (with_reducible refine HLE.out.mono ?_); rintro e w' ⟨rfl, rfl⟩)
    | (go_at_call 62; (with_reducible refine HQ.out.mono ?_); rintro e w' ⟨rfl, rfl⟩)
    | (go_at_call 61; (with_reducible refine HA.out.mono ?_); rintro e w' ⟨rfl, rfl⟩))
  go_ret3
  exact next_fin HT.out rfl rfl (by have := HY.out; omega) (Below.refl _ _)

set_option maxRecDepth 100000 in
set_option maxHeartbeats 3200000 in
theorem rnext_chr {L : List Rn} {v : Value} {w : World} (h : RsAt L v w) (i : Nat) (hL : L.length ≤ 1000000) (hi : i < L.length) {l : List UInt8} (hl : bytesOf L = l) {n : Nat} (hn : rlet (l.getD i 0) (l.getD (i + 1) 0) (l.getD (i + 2) 0) = (n : Int)) (hT : LetIs l i n) (hq : l.getD (i + n) 0 = 39) (hE : 0 < conEnd l i) : Calls Try.prog 42 #[v, .int .i64 (i : Int)] w (NextPost l i w) := by
  obtain ⟨E, he⟩ : ∃ E, conEnd l i = E := ⟨_, rfl⟩
  have hll : l.length = L.length := by rw [← hl]; exact bytesOf_len L
  have hnl : i + n < L.length := by rw [← hll]; exact getD_lt (by rw [hq]; decide)
  have HLE := Lib.hid (letters_is h i (by omega) hl hn)
  have hc := hT.con
  rw [hq, he] at hc
  have HQ : Hid (Calls Try.prog 62 #[v, .int .i64 ((i : Int) + (n : Int))] w (NatPost E w)) := Lib.hid (by
    have := rquoted_any h (i + n) (x := (i : Int) + (n : Int)) (by omega) hL hnl (q := 39) (by rw [hl]; exact hq) (by decide)
    rw [hl, ← hc] at this
    exact this)
  have HA : Hid (Calls Try.prog 61 #[v, .int .i64 ((i : Int) + (n : Int))] w fun e w' => e = .returned (.int .u8 39) ∧ w = w') := Lib.hid (rat_is h (i + n) hl hq (by omega))
  have hk := tok_con hE
  rw [hT.kind, hq, he] at hk
  have HT : Hid (tok (l.drop i) = (3, (tok (l.drop i)).2)) := Lib.hid (Prod.ext hk.1.symm rfl)
  have HY : Hid (E = i + (tok (l.drop i)).2) := Lib.hid hk.2
  rw [he] at hE
  have hEb : E ≤ 1000001 := by
    rw [hc]
    unfold qEnd
    cases hqn : qN 39 false (l.drop (i + n + 1)) with
    | none => simp
    | some m =>
      have := qN_in 39 false _ m (by decide) hqn
      rw [List.length_drop] at this
      simp
      omega
  have hEI : (0 : Int) < (E : Int) := by omega
  have hnI : (0 : Int) ≤ (n : Int) := by omega
  clear h hn hT hq he hc hk
  go_enter Try.func42, Try.ntmps42
  go_wp2_with (first
    | (go_at_call 60; (with_reducible refine HLE.out.mono ?_); rintro e w' ⟨rfl, rfl⟩)
    | (go_at_call 62; (with_reducible refine HQ.out.mono ?_); rintro e w' ⟨rfl, rfl⟩)
    | (go_at_call 61; (with_reducible refine HA.out.mono ?_); rintro e w' ⟨rfl, rfl⟩))
  go_ret3
  exact next_fin HT.out rfl rfl (by have := HY.out; omega) (Below.refl _ _)

set_option maxRecDepth 100000 in
set_option maxHeartbeats 3200000 in
theorem rnext_lone {L : List Rn} {v : Value} {w : World} (h : RsAt L v w) (i : Nat) (hL : L.length ≤ 1000000) (hi : i < L.length) {l : List UInt8} (hl : bytesOf L = l) (hn : rlet (l.getD i 0) (l.getD (i + 1) 0) (l.getD (i + 2) 0) = 0) (hT : LetIs l i 0) (hE : conEnd l i = 0) : Calls Try.prog 42 #[v, .int .i64 (i : Int)] w (NextPost l i w) := by
  have hq := hT.2.2
  rw [Nat.add_zero] at hq
  have HLE := Lib.hid (letters_is h i (by omega) hl hn)
  have hc := hT.con
  rw [Nat.add_zero, hE] at hc
  have HQ : Hid (Calls Try.prog 62 #[v, .int .i64 (i : Int)] w fun e w' => e = .returned (.int .i64 0) ∧ w = w') := Lib.hid (by
    have := rquoted_any h i rfl hL hi (q := l.getD i 0) (by rw [hl]) (by rcases hq with e | e <;> (rw [e]; decide))
    rw [hl, ← hc] at this
    exact this)
  have g0 := getD_drop l i 0
  rw [Nat.add_zero] at g0
  have HT : Hid (tok (l.drop i) = (6, 1)) := Lib.hid (tok_oth hE (by rw [g0]; rcases hq with e | e <;> (rw [e]; rfl)) (by rw [g0]; rcases hq with e | e <;> (rw [e]; rfl)) (punctN_quote (by rw [g0]; exact hq)))
  have HB : Hid (badN 6 (l.getD i 0) = true) := Lib.hid (by rcases hq with e | e <;> (rw [e]; rfl))
  clear h hn hT hq hE hc g0
  go_enter Try.func42, Try.ntmps42
  go_wp2_with (first
    | (go_at_call 60; (with_reducible refine HLE.out.mono ?_); rintro e w' ⟨rfl, rfl⟩)
    | (go_at_call 62; (with_reducible refine HQ.out.mono ?_); rintro e w' ⟨rfl, rfl⟩))
  go_ret3
  exact next_fin HT.out HB.out rfl (by omega) (Below.refl _ _)

set_option maxRecDepth 100000 in
set_option maxHeartbeats 3200000 in
theorem rnext_word {L : List Rn} {v : Value} {w : World} (h : RsAt L v w) (i : Nat) (hL : L.length ≤ 1000000) (hi : i < L.length) {l : List UInt8} (hl : bytesOf L = l) (hn : rlet (l.getD i 0) (l.getD (i + 1) 0) (l.getD (i + 2) 0) = -1) (hE : conEnd l i = 0) (hw : isLet (l.getD i 0) = true) : Calls Try.prog 42 #[v, .int .i64 (i : Int)] w (NextPost l i w) := by
  have hll : l.length = L.length := by rw [← hl]; exact bytesOf_len L
  have HT := Lib.hid (tok_word hE hw)
  obtain ⟨c0, hc0⟩ : ∃ c0, l.getD i 0 = c0 := ⟨_, rfl⟩
  have HA0 := Lib.hid (rat_is h i hl hc0 rfl)
  have HL0 := Lib.hid (rLetter_is (hc0 ▸ hw))
  have HLL := Lib.hid hll
  have HLE := Lib.hid (letters_is h i (by omega) hl hn)
  clear hn
  have HR : Hid (∀ (j : Nat) (c : UInt8), l.getD j 0 = c → Calls Try.prog 61 #[v, .int .i64 (j : Int)] w (BytePost c w)) := Lib.hid (fun j c hc => rat_is h j hl hc rfl)
  clear h hE hw hc0 hll
  go_enter Try.func42, Try.ntmps42
  go_wp2_with (first
    | (go_at_call 60; (with_reducible refine HLE.out.mono ?_); rintro e w' ⟨rfl, rfl⟩)
    | (go_at_call 61; (with_reducible refine HA0.out.mono ?_); rintro e w' ⟨rfl, rfl⟩)
    | (go_at_call 63; (with_reducible refine (HL0.out _).mono ?_); rintro e w' ⟨rfl, rfl⟩))
  go_loop [9] (fun j => ∃ k : Nat, j = .int .i64 (k : Int) ∧ k ≤ L.length ∧ wordN (l.drop (i + 1)) + (i + 1) = wordN (l.drop k) + k) (fun j => L.length - (intOf j).toNat)
  case atStart => exact ⟨i + 1, by go_num, by omega, rfl⟩
  case round =>
    obtain ⟨k, rfl, hkl, hr⟩ := hrel
    have HRR := Lib.hid hr
    have hs := wordN_at (l := l) (j := k)
    obtain ⟨c, hc⟩ : ∃ c, l.getD k 0 = c := ⟨_, rfl⟩
    have HA := Lib.hid (HR.out k c hc)
    rw [hc] at hs
    have hlt : isWord c = true → k < L.length := by
      intro hw
      rw [← HLL.out]
      refine getD_lt ?_
      rw [hc]
      rintro rfl
      cases hw
    clear hr hc
    cases hl1 : isLet c with
    | true =>
      have HL1 := Lib.hid (rLetter_is hl1)
      have hw : isWord c = true := by unfold isWord; rw [hl1]; rfl
      have hk := hlt hw
      rw [if_pos hw] at hs
      have HX : Hid (wordN (l.drop (i + 1)) + (i + 1) = wordN (l.drop (k + 1)) + (k + 1)) := Lib.hid (by rw [HRR.out, hs]; omega)
      clear hs hw hl1 hlt
      go_wp2_with (first
        | (go_at_call 61; (with_reducible refine HA.out.mono ?_); rintro e w' ⟨rfl, rfl⟩)
        | (go_at_call 63; (with_reducible refine (HL1.out _).mono ?_); rintro e w' ⟨rfl, rfl⟩))
      go_round
      case rel => exact ⟨k + 1, by go_num, by omega, HX.out⟩
      case measure => simp [intOf]; omega
    | false =>
      have HL1 := Lib.hid (rLetter_is hl1)
      cases hd1 : isDig c with
      | true =>
        have HD1 := Lib.hid (rDigit_is hd1)
        have hw : isWord c = true := by unfold isWord; rw [hd1]; simp
        have hk := hlt hw
        rw [if_pos hw] at hs
        have HX : Hid (wordN (l.drop (i + 1)) + (i + 1) = wordN (l.drop (k + 1)) + (k + 1)) := Lib.hid (by rw [HRR.out, hs]; omega)
        clear hs hw hl1 hd1 hlt
        go_wp2_with (first
          | (go_at_call 61; (with_reducible refine HA.out.mono ?_); rintro e w' ⟨rfl, rfl⟩)
          | (go_at_call 63; (with_reducible refine (HL1.out _).mono ?_); rintro e w' ⟨rfl, rfl⟩)
          | (go_at_call 64; (with_reducible refine (HD1.out _).mono ?_); rintro e w' ⟨rfl, rfl⟩))
        go_round
        case rel => exact ⟨k + 1, by go_num, by omega, HX.out⟩
        case measure => simp [intOf]; omega
      | false =>
        have HD1 := Lib.hid (rDigit_is hd1)
        have hw : isWord c = false := by unfold isWord; rw [hl1, hd1]; rfl
        rw [if_neg (by rw [hw]; simp)] at hs
        have HX : Hid (wordN (l.drop (i + 1)) + (i + 1) = k) := Lib.hid (by rw [HRR.out, hs]; omega)
        clear hs hw hl1 hd1 hlt
        go_wp2_with (first
          | (go_at_call 61; (with_reducible refine HA.out.mono ?_); rintro e w' ⟨rfl, rfl⟩)
          | (go_at_call 63; (with_reducible refine (HL1.out _).mono ?_); rintro e w' ⟨rfl, rfl⟩)
          | (go_at_call 64; (with_reducible refine (HD1.out _).mono ?_); rintro e w' ⟨rfl, rfl⟩))
        go_ret3
        exact next_fin HT.out rfl rfl (by have h := HX.out; rw [List.drop_drop]; omega) (Below.refl _ _)

set_option maxRecDepth 100000 in
set_option maxHeartbeats 3200000 in
theorem rnext_wordq {L : List Rn} {v : Value} {w : World} (h : RsAt L v w) (i : Nat) (hL : L.length ≤ 1000000) (hi : i < L.length) {l : List UInt8} (hl : bytesOf L = l) {n : Nat} (hn : rlet (l.getD i 0) (l.getD (i + 1) 0) (l.getD (i + 2) 0) = (n : Int)) (hT : LetIs l i n) (hn0 : n ≠ 0) (hE : conEnd l i = 0) (hw : isLet (l.getD i 0) = true) : Calls Try.prog 42 #[v, .int .i64 (i : Int)] w (NextPost l i w) := by
  have hll : l.length = L.length := by rw [← hl]; exact bytesOf_len L
  have HT := Lib.hid (tok_word hE hw)
  obtain ⟨c0, hc0⟩ : ∃ c0, l.getD i 0 = c0 := ⟨_, rfl⟩
  have HA0 := Lib.hid (rat_is h i hl hc0 rfl)
  have HL0 := Lib.hid (rLetter_is (hc0 ▸ hw))
  have HLL := Lib.hid hll
  have hq := hT.2.2
  have hn2 := hT.2.1
  have hnl : i + n < L.length := by rw [← hll]; exact getD_lt (by rcases hq with e | e <;> (rw [e]; decide))
  have HLE := Lib.hid (letters_is h i (by omega) hl hn)
  have hc := hT.con
  rw [hE] at hc
  have HQ : Hid (Calls Try.prog 62 #[v, .int .i64 ((i : Int) + (n : Int))] w fun e w' => e = .returned (.int .i64 0) ∧ w = w') := Lib.hid (by
    have := rquoted_any h (i + n) (x := (i : Int) + (n : Int)) (by omega) hL hnl (q := l.getD (i + n) 0) (by rw [hl]) (by rcases hq with e | e <;> (rw [e]; decide))
    rw [hl, ← hc] at this
    exact this)
  have hnI : (0 : Int) ≤ (n : Int) := by omega
  have hnb : ((n : Int) == 0) = false := by rw [beq_eq_false_iff_ne]; omega
  clear hn hT hq hc hn0
  have HR : Hid (∀ (j : Nat) (c : UInt8), l.getD j 0 = c → Calls Try.prog 61 #[v, .int .i64 (j : Int)] w (BytePost c w)) := Lib.hid (fun j c hc => rat_is h j hl hc rfl)
  clear h hE hw hc0 hll
  go_enter Try.func42, Try.ntmps42
  go_wp2_with (first
    | (go_at_call 60; (with_reducible refine HLE.out.mono ?_); rintro e w' ⟨rfl, rfl⟩)
    | (go_at_call 62; (with_reducible refine HQ.out.mono ?_); rintro e w' ⟨rfl, rfl⟩)
    | (go_at_call 61; (with_reducible refine HA0.out.mono ?_); rintro e w' ⟨rfl, rfl⟩)
    | (go_at_call 63; (with_reducible refine (HL0.out _).mono ?_); rintro e w' ⟨rfl, rfl⟩))
  go_loop [9] (fun j => ∃ k : Nat, j = .int .i64 (k : Int) ∧ k ≤ L.length ∧ wordN (l.drop (i + 1)) + (i + 1) = wordN (l.drop k) + k) (fun j => L.length - (intOf j).toNat)
  case atStart => exact ⟨i + 1, by go_num, by omega, rfl⟩
  case round =>
    obtain ⟨k, rfl, hkl, hr⟩ := hrel
    have HRR := Lib.hid hr
    have hs := wordN_at (l := l) (j := k)
    obtain ⟨c, hc⟩ : ∃ c, l.getD k 0 = c := ⟨_, rfl⟩
    have HA := Lib.hid (HR.out k c hc)
    rw [hc] at hs
    have hlt : isWord c = true → k < L.length := by
      intro hw
      rw [← HLL.out]
      refine getD_lt ?_
      rw [hc]
      rintro rfl
      cases hw
    clear hr hc
    cases hl1 : isLet c with
    | true =>
      have HL1 := Lib.hid (rLetter_is hl1)
      have hw : isWord c = true := by unfold isWord; rw [hl1]; rfl
      have hk := hlt hw
      rw [if_pos hw] at hs
      have HX : Hid (wordN (l.drop (i + 1)) + (i + 1) = wordN (l.drop (k + 1)) + (k + 1)) := Lib.hid (by rw [HRR.out, hs]; omega)
      clear hs hw hl1 hlt
      go_wp2_with (first
        | (go_at_call 61; (with_reducible refine HA.out.mono ?_); rintro e w' ⟨rfl, rfl⟩)
        | (go_at_call 63; (with_reducible refine (HL1.out _).mono ?_); rintro e w' ⟨rfl, rfl⟩))
      go_round
      case rel => exact ⟨k + 1, by go_num, by omega, HX.out⟩
      case measure => simp [intOf]; omega
    | false =>
      have HL1 := Lib.hid (rLetter_is hl1)
      cases hd1 : isDig c with
      | true =>
        have HD1 := Lib.hid (rDigit_is hd1)
        have hw : isWord c = true := by unfold isWord; rw [hd1]; simp
        have hk := hlt hw
        rw [if_pos hw] at hs
        have HX : Hid (wordN (l.drop (i + 1)) + (i + 1) = wordN (l.drop (k + 1)) + (k + 1)) := Lib.hid (by rw [HRR.out, hs]; omega)
        clear hs hw hl1 hd1 hlt
        go_wp2_with (first
          | (go_at_call 61; (with_reducible refine HA.out.mono ?_); rintro e w' ⟨rfl, rfl⟩)
          | (go_at_call 63; (with_reducible refine (HL1.out _).mono ?_); rintro e w' ⟨rfl, rfl⟩)
          | (go_at_call 64; (with_reducible refine (HD1.out _).mono ?_); rintro e w' ⟨rfl, rfl⟩))
        go_round
        case rel => exact ⟨k + 1, by go_num, by omega, HX.out⟩
        case measure => simp [intOf]; omega
      | false =>
        have HD1 := Lib.hid (rDigit_is hd1)
        have hw : isWord c = false := by unfold isWord; rw [hl1, hd1]; rfl
        rw [if_neg (by rw [hw]; simp)] at hs
        have HX : Hid (wordN (l.drop (i + 1)) + (i + 1) = k) := Lib.hid (by rw [HRR.out, hs]; omega)
        clear hs hw hl1 hd1 hlt
        go_wp2_with (first
          | (go_at_call 61; (with_reducible refine HA.out.mono ?_); rintro e w' ⟨rfl, rfl⟩)
          | (go_at_call 63; (with_reducible refine (HL1.out _).mono ?_); rintro e w' ⟨rfl, rfl⟩)
          | (go_at_call 64; (with_reducible refine (HD1.out _).mono ?_); rintro e w' ⟨rfl, rfl⟩))
        go_ret3
        exact next_fin HT.out rfl rfl (by have h := HX.out; rw [List.drop_drop]; omega) (Below.refl _ _)

set_option maxRecDepth 100000 in
set_option maxHeartbeats 3200000 in
theorem rnext_num {L : List Rn} {v : Value} {w : World} (h : RsAt L v w) (i : Nat) (hL : L.length ≤ 1000000) (hi : i < L.length) {l : List UInt8} (hl : bytesOf L = l) (hn : rlet (l.getD i 0) (l.getD (i + 1) 0) (l.getD (i + 2) 0) = -1) (hE : conEnd l i = 0) (hw : isLet (l.getD i 0) = false) (hd : (isDig (l.getD i 0) || (decide (l.getD i 0 = 46) && isDig (l.getD (i + 1) 0))) = true) : Calls Try.prog 42 #[v, .int .i64 (i : Int)] w (NextPost l i w) := by
  have hll : l.length = L.length := by rw [← hl]; exact bytesOf_len L
  have HLE := Lib.hid (letters_is h i (by omega) hl hn)
  obtain ⟨c0, hc0⟩ : ∃ c0, l.getD i 0 = c0 := ⟨_, rfl⟩
  have HA0 := Lib.hid (rat_is h i hl hc0 rfl)
  have HL0 := Lib.hid (rLetter_is (hc0 ▸ hw))
  have g0 := getD_drop l i 0
  have g1 := getD_drop l i 1
  rw [Nat.add_zero] at g0
  have HNU : Hid (Calls Try.prog 65 #[v, .int .i64 (i : Int)] w (NatPost (rnum l i) w)) := Lib.hid (by rw [← hl]; exact rnumber_any h i hL hi)
  have hr : rnum l i = i + 1 + numN (l.getD i 0) (l.drop (i + 1)) := by unfold rnum; rw [if_pos hd]
  have HT := Lib.hid (tok_dig hE (by rw [g0]; exact hw) (by rw [g0, g1]; exact hd))
  have hnl := numN_le (l.getD i 0) (l.drop (i + 1))
  rw [List.length_drop] at hnl
  obtain ⟨N, hN⟩ : ∃ N, numN (l.getD i 0) (l.drop (i + 1)) = N := ⟨_, rfl⟩
  rw [hN] at hr hnl
  have HN : Hid (numN ((l.drop i).getD 0 0) ((l.drop i).drop 1) = N) := Lib.hid (by rw [g0, List.drop_drop]; exact hN)
  rw [hr] at HNU
  have hgt : (i : Int) < ((i + 1 + N : Nat) : Int) := by omega
  clear h hn hE hw hd hc0 g0 g1 hr hN hll
  go_enter Try.func42, Try.ntmps42
  go_wp2_with (first
    | (go_at_call 60; (with_reducible refine HLE.out.mono ?_); rintro e w' ⟨rfl, rfl⟩)
    | (go_at_call 61; (with_reducible refine HA0.out.mono ?_); rintro e w' ⟨rfl, rfl⟩)
    | (go_at_call 63; (with_reducible refine (HL0.out _).mono ?_); rintro e w' ⟨rfl, rfl⟩)
    | (go_at_call 65; (with_reducible refine HNU.out.mono ?_); rintro e w' ⟨rfl, rfl⟩))
  go_ret3
  exact next_fin HT.out rfl rfl (by rw [HN.out]; omega) (Below.refl _ _)

set_option maxRecDepth 100000 in
set_option maxHeartbeats 3200000 in
theorem rnext_pun {L : List Rn} {v : Value} {w : World} (h : RsAt L v w) (i : Nat) (hL : L.length ≤ 1000000) (hi : i < L.length) {l : List UInt8} (hl : bytesOf L = l) (hn : rlet (l.getD i 0) (l.getD (i + 1) 0) (l.getD (i + 2) 0) = -1) (hE : conEnd l i = 0) (hw : isLet (l.getD i 0) = false) (hd : (isDig (l.getD i 0) || (decide (l.getD i 0 = 46) && isDig (l.getD (i + 1) 0))) = false) (hp : 0 < punctN (l.drop i)) : Calls Try.prog 42 #[v, .int .i64 (i : Int)] w (NextPost l i w) := by
  have hll : l.length = L.length := by rw [← hl]; exact bytesOf_len L
  have HLE := Lib.hid (letters_is h i (by omega) hl hn)
  obtain ⟨c0, hc0⟩ : ∃ c0, l.getD i 0 = c0 := ⟨_, rfl⟩
  have HA0 := Lib.hid (rat_is h i hl hc0 rfl)
  have HL0 := Lib.hid (rLetter_is (hc0 ▸ hw))
  have g0 := getD_drop l i 0
  have g1 := getD_drop l i 1
  rw [Nat.add_zero] at g0
  have HNU : Hid (Calls Try.prog 65 #[v, .int .i64 (i : Int)] w (NatPost i w)) := Lib.hid (by
    have hr : rnum (bytesOf L) i = i := by rw [hl]; unfold rnum; rw [if_neg (by rw [hd]; simp)]
    have := rnumber_any h i hL hi
    rw [hr] at this
    exact this)
  have hpu := rpunct_any h i (by omega)
  rw [hl] at hpu
  have HT := Lib.hid (tok_pun hE (by rw [g0]; exact hw) (by rw [g0, g1]; exact hd) hp)
  obtain ⟨N, hN⟩ : ∃ N, punctN (l.drop i) = N := ⟨_, rfl⟩
  have hN4 : N ≤ 4 := by
    obtain ⟨p, hm, -, he⟩ := punctN_is hp
    have := PL_len p hm
    omega
  rw [hN] at hpu hp
  have HPU := Lib.hid hpu
  have HN := Lib.hid hN
  have hpI : (0 : Int) < (N : Int) := by omega
  clear h hn hE hw hd hc0 g0 g1 hN hll hpu
  go_enter Try.func42, Try.ntmps42
  go_wp2_with (first
    | (go_at_call 60; (with_reducible refine HLE.out.mono ?_); rintro e w' ⟨rfl, rfl⟩)
    | (go_at_call 61; (with_reducible refine HA0.out.mono ?_); rintro e w' ⟨rfl, rfl⟩)
    | (go_at_call 63; (with_reducible refine (HL0.out _).mono ?_); rintro e w' ⟨rfl, rfl⟩)
    | (go_at_call 65; (with_reducible refine HNU.out.mono ?_); rintro e w' ⟨rfl, rfl⟩)
    | (go_at_call 66; (with_reducible refine HPU.out.mono ?_); rintro e w2 ⟨rfl, hb2⟩; have HB2 := Lib.hid hb2; clear hb2))
  go_ret3
  exact next_fin HT.out rfl rfl (by rw [HN.out]; omega) HB2.out

set_option maxRecDepth 100000 in
set_option maxHeartbeats 3200000 in
theorem rnext_oth {L : List Rn} {v : Value} {w : World} (h : RsAt L v w) (i : Nat) (hL : L.length ≤ 1000000) (hi : i < L.length) {l : List UInt8} (hl : bytesOf L = l) (hn : rlet (l.getD i 0) (l.getD (i + 1) 0) (l.getD (i + 2) 0) = -1) (hE : conEnd l i = 0) (hw : isLet (l.getD i 0) = false) (hd : (isDig (l.getD i 0) || (decide (l.getD i 0 = 46) && isDig (l.getD (i + 1) 0))) = false) (hp : punctN (l.drop i) = 0) (h34 : l.getD i 0 ≠ 34) (h39 : l.getD i 0 ≠ 39) : Calls Try.prog 42 #[v, .int .i64 (i : Int)] w (NextPost l i w) := by
  have hll : l.length = L.length := by rw [← hl]; exact bytesOf_len L
  have HLE := Lib.hid (letters_is h i (by omega) hl hn)
  obtain ⟨c0, hc0⟩ : ∃ c0, l.getD i 0 = c0 := ⟨_, rfl⟩
  have HA0 := Lib.hid (rat_is h i hl hc0 rfl)
  have HL0 := Lib.hid (rLetter_is (hc0 ▸ hw))
  have g0 := getD_drop l i 0
  have g1 := getD_drop l i 1
  rw [Nat.add_zero] at g0
  have HNU : Hid (Calls Try.prog 65 #[v, .int .i64 (i : Int)] w (NatPost i w)) := Lib.hid (by
    have hr : rnum (bytesOf L) i = i := by rw [hl]; unfold rnum; rw [if_neg (by rw [hd]; simp)]
    have := rnumber_any h i hL hi
    rw [hr] at this
    exact this)
  have hpu := rpunct_any h i (by omega)
  rw [hl] at hpu
  have HT := Lib.hid (tok_oth hE (by rw [g0]; exact hw) (by rw [g0, g1]; exact hd) hp)
  rw [hp] at hpu
  have HPU : Hid (Calls Try.prog 66 #[v, .int .i64 (i : Int)] w fun e w' => e = .returned (.int .i64 0) ∧ Below w.heap.size w w') := Lib.hid hpu
  have HB : Hid (badN 6 (l.getD i 0) = false) := Lib.hid (by
    unfold badN
    rw [decide_eq_false (fun e => h34 ((byte_iff (n := 34) (by omega)).1 e)), decide_eq_false (fun e => h39 ((byte_iff (n := 39) (by omega)).1 e))]
    rfl)
  clear h hn hE hw hd hc0 g0 g1 hp hll hpu h34 h39
  go_enter Try.func42, Try.ntmps42
  go_wp2_with (first
    | (go_at_call 60; (with_reducible refine HLE.out.mono ?_); rintro e w' ⟨rfl, rfl⟩)
    | (go_at_call 61; (with_reducible refine HA0.out.mono ?_); rintro e w' ⟨rfl, rfl⟩)
    | (go_at_call 63; (with_reducible refine (HL0.out _).mono ?_); rintro e w' ⟨rfl, rfl⟩)
    | (go_at_call 65; (with_reducible refine HNU.out.mono ?_); rintro e w' ⟨rfl, rfl⟩)
    | (go_at_call 66; (with_reducible refine HPU.out.mono ?_); rintro e w2 ⟨rfl, hb2⟩; have HB2 := Lib.hid hb2; clear hb2))
  go_ret3
  exact next_fin HT.out HB.out rfl (by omega) HB2.out

theorem rnext_any {L : List Rn} {v : Value} {w : World} (h : RsAt L v w) (i : Nat) (hL : L.length ≤ 1000000) (hi : i < L.length) {l : List UInt8} (hl : bytesOf L = l) : Calls Try.prog 42 #[v, .int .i64 (i : Int)] w (NextPost l i w) := by
  rcases rlet_cases l i with ⟨hn, hE, h34, h39⟩ | ⟨n, hn, hT, hw⟩
  · cases hw : isLet (l.getD i 0) with
    | true => exact rnext_word h i hL hi hl hn hE hw
    | false =>
      cases hd : (isDig (l.getD i 0) || (decide (l.getD i 0 = 46) && isDig (l.getD (i + 1) 0))) with
      | true => exact rnext_num h i hL hi hl hn hE hw hd
      | false =>
        rcases Nat.eq_zero_or_pos (punctN (l.drop i)) with hp | hp
        · exact rnext_oth h i hL hi hl hn hE hw hd hp h34 h39
        · exact rnext_pun h i hL hi hl hn hE hw hd hp
  · rcases Nat.eq_zero_or_pos (conEnd l i) with hE | hE
    · by_cases h0 : n = 0
      · subst h0
        exact rnext_lone h i hL hi hl hn hT hE
      · exact rnext_wordq h i hL hi hl hn hT h0 hE (hw h0)
    · rcases hT.2.2 with hq | hq
      · exact rnext_str h i hL hi hl hn hT hq hE
      · exact rnext_chr h i hL hi hl hn hT hq hE

end Go.Proofs.Ytobplffailbkbaa
