/-
  Texts of the proof, put together: LxW.
-/
import Derived.Test.YtiopmkbjdjipnaaG03

/-
  Words and numbers, of the project: how long they are.
-/
namespace Go.Proofs.Ytiopmkbjdjipnaa
open Go.RowKit

theorem quiet_bool {f : FuncId} {args : Array Value} {w : World} {n : Nat} {b : Bool} (h : Calls Try.prog f args (w.drewN n) (BoolPost b (w.drewN n))) :
    Calls Try.prog f args (w.drewN n) fun e w'' => e = .returned (.bool b) ∧ ∃ m, w'' = w.drewN m :=
  h.mono fun _ _ ⟨he, hm⟩ => ⟨he, n, hm.symm⟩
theorem quiet_nat {f : FuncId} {args : Array Value} {w : World} {n : Nat} {b : Nat} (h : Calls Try.prog f args (w.drewN n) (NatPost b (w.drewN n))) :
    Calls Try.prog f args (w.drewN n) fun e w'' => e = .returned (.int .i64 (b : Int)) ∧ ∃ m, w'' = w.drewN m :=
  h.mono fun _ _ ⟨he, hm⟩ => ⟨he, n, hm.symm⟩
/-- A natural number, in a world that may have drawn. -/
def NatDrew (b : Nat) (w : World) (e : Ending) (w' : World) : Prop := e = .returned (.int .i64 (b : Int)) ∧ ∃ n, w' = w.drewN n
theorem quiet_ndrew {f : FuncId} {args : Array Value} {w : World} {n : Nat} {b : Nat} (h : Calls Try.prog f args (w.drewN n) (NatDrew b (w.drewN n))) :
    Calls Try.prog f args (w.drewN n) fun e w'' => e = .returned (.int .i64 (b : Int)) ∧ ∃ m, w'' = w.drewN m :=
  h.mono fun _ _ ⟨he, m, hm⟩ => ⟨he, n + m, by rw [hm, World.drewN_drewN]⟩

/-- A list that ends with a byte 10. -/
def Nl (l : List UInt8) : Prop := 0 < l.length ∧ l.getD (l.length - 1) 0 = 10

theorem Nl.drop {l : List UInt8} (h : Nl l) {i : Nat} (hi : i < l.length) : Nl (l.drop i) := by
  refine ⟨by rw [List.length_drop]; omega, ?_⟩
  rw [getD_drop, List.length_drop, show i + (l.length - i - 1) = l.length - 1 from by omega]
  exact h.2
theorem Nl.two {l : List UInt8} (h : Nl l) (h0 : l.getD 0 0 ≠ 10) : 1 < l.length := by
  rcases Nat.lt_or_ge 1 l.length with h1 | h1
  · exact h1
  · have e : l.length - 1 = 0 := by omega
    have := h.2
    rw [e] at this
    exact absurd this h0
theorem Nl.word {l : List UInt8} (h : Nl l) : wordN l < l.length := by
  have h1 := wordN_le l
  rcases Nat.lt_or_ge (wordN l) l.length with h2 | h2
  · exact h2
  · have h3 := wordN_in l (l.length - 1) (by have := h.1; omega)
    rw [h.2] at h3
    exact absurd h3 (by decide)
theorem Nl.num {l : List UInt8} (h : Nl l) (p : UInt8) : numN p l < l.length := by
  have h1 := numN_le p l
  rcases Nat.lt_or_ge (numN p l) l.length with h2 | h2
  · exact h2
  · exact absurd h.2 (numN_in p l (l.length - 1) (by have := h.1; omega))

theorem wordN_step {l : List UInt8} {k : Nat} (hk : k < l.length) : wordN (l.drop k) = if isWord (l.getD k 0) then wordN (l.drop (k + 1)) + 1 else 0 := by
  rw [drop_cons hk]
  rfl
theorem numN_step {l : List UInt8} {k : Nat} (p : UInt8) (hk : k < l.length) : numN p (l.drop k) = if numC p (l.getD k 0) then numN (l.getD k 0) (l.drop (k + 1)) + 1 else 0 := by
  rw [drop_cons hk]
  rfl

def WordRel (s : ByteArray) (i : Value) : Prop := ∃ k : Nat, i = .int .i64 (k : Int) ∧ 1 ≤ k ∧ k < s.size ∧ wordN (s.data.toList.drop 1) + 1 = wordN (s.data.toList.drop k) + k

theorem word_on {s : ByteArray} {k : Nat} (hN : Nl s.data.toList) (hk1 : 1 ≤ k) (hk : k < s.size) (h : wordN (s.data.toList.drop 1) + 1 = wordN (s.data.toList.drop k) + k) (hw : isWord s[k] = true) : WordRel s (.int .i64 ((k : Int) + 1)) := by
  have hl := len_byte s
  rw [wordN_step (k := k) (by omega), get_byte s k hk, if_pos hw] at h
  refine ⟨k + 1, rfl, by omega, ?_, by omega⟩
  have := (hN.drop (i := 1) (by omega)).word
  rw [List.length_drop] at this
  omega
theorem word_off {s : ByteArray} {k : Nat} (hk : k < s.size) (h : wordN (s.data.toList.drop 1) + 1 = wordN (s.data.toList.drop k) + k) (hw : isWord s[k] = false) : (k : Int) = ((wordN (s.data.toList.drop 1) + 1 : Nat) : Int) := by
  have hl := len_byte s
  rw [wordN_step (k := k) (by omega), get_byte s k hk, if_neg (by rw [hw]; simp)] at h
  omega

set_option maxRecDepth 100000 in
set_option maxHeartbeats 800000 in
theorem wordLen_any (s : ByteArray) (w : World) (hs : s.size ≤ 1000000) (hN : Nl s.data.toList) (h2 : 1 < s.size) : Calls Try.prog 68 #[.string s] w (NatPost (wordN (s.data.toList.drop 1) + 1) w) := by
  have HN := Lib.hid hN
  clear hN
  go_enter Try.func68, Try.ntmps68
  go_wp2
  go_loop [3] (WordRel s) (fun i => s.size - (intOf i).toNat)
  case atStart => exact ⟨1, rfl, by omega, h2, rfl⟩
  case round =>
    obtain ⟨k, rfl, hk1, hk, hw⟩ := hrel
    have hki : (k : Int) < (s.size : Int) := by omega
    have HW := Lib.hid hw
    clear hw
    cases hl : isLet s[k] with
    | true =>
      have HX : Hid (isWord s[k] = true) := Lib.hid (by unfold isWord; rw [hl]; rfl)
      go_wp2_with (go_at_call 67; (with_reducible refine (letter_any _ _).mono ?_); rintro e w' ⟨rfl, rfl⟩)
      go_round
      case rel => exact word_on HN.out hk1 hk HW.out HX.out
      case measure => simp [intOf]; omega
    | false =>
      cases hd : isDig s[k] with
      | true =>
        have HX : Hid (isWord s[k] = true) := Lib.hid (by unfold isWord; rw [hl, hd]; rfl)
        go_wp2_with (first
          | (go_at_call 67; (with_reducible refine (letter_any _ _).mono ?_); rintro e w' ⟨rfl, rfl⟩)
          | (go_at_call 69; (with_reducible refine (digit_any _ _).mono ?_); rintro e w' ⟨rfl, rfl⟩))
        go_round
        case rel => exact word_on HN.out hk1 hk HW.out HX.out
        case measure => simp [intOf]; omega
      | false =>
        have HX : Hid (isWord s[k] = false) := Lib.hid (by unfold isWord; rw [hl, hd]; rfl)
        go_wp2_with (first
          | (go_at_call 67; (with_reducible refine (letter_any _ _).mono ?_); rintro e w' ⟨rfl, rfl⟩)
          | (go_at_call 69; (with_reducible refine (digit_any _ _).mono ?_); rintro e w' ⟨rfl, rfl⟩))
        go_ret
        exact ⟨ret_nat (word_off hk HW.out HX.out), rfl⟩

theorem exp_index (c : UInt8) : (0 ≤ Lib.indexByte [101, 69, 112, 80] c) = (isExp c = true) := by
  apply propext
  have e : ∀ n : Nat, n < 256 → ((UInt8.ofNat n == c) = true ↔ c.toNat = n) := by
    intro n hn
    rw [beq_iff_eq]
    constructor
    · rintro rfl
      simp
      omega
    · intro h
      apply UInt8.toNat_inj.1
      simp
      omega
  have e1 := e 101 (by omega)
  have e2 := e 69 (by omega)
  have e3 := e 112 (by omega)
  have e4 := e 80 (by omega)
  unfold isExp
  simp only [Bool.or_eq_true, decide_eq_true_eq, ← e1, ← e2, ← e3, ← e4, Lib.indexByte]
  by_cases h1 : (UInt8.ofNat 101 == c) = true
  · simp [show ((101 : UInt8) == c) = true from h1]
  · by_cases h2 : (UInt8.ofNat 69 == c) = true
    · simp [show ((69 : UInt8) == c) = true from h2, show ((101 : UInt8) == c) = false from by simpa using h1]
    · by_cases h3 : (UInt8.ofNat 112 == c) = true
      · simp [show ((112 : UInt8) == c) = true from h3, show ((101 : UInt8) == c) = false from by simpa using h1, show ((69 : UInt8) == c) = false from by simpa using h2]
      · by_cases h4 : (UInt8.ofNat 80 == c) = true
        · simp [show ((80 : UInt8) == c) = true from h4, show ((101 : UInt8) == c) = false from by simpa using h1, show ((69 : UInt8) == c) = false from by simpa using h2, show ((112 : UInt8) == c) = false from by simpa using h3]
        · simp [show ((101 : UInt8) == c) = false from by simpa using h1, show ((69 : UInt8) == c) = false from by simpa using h2, show ((112 : UInt8) == c) = false from by simpa using h3, show ((80 : UInt8) == c) = false from by simpa using h4]

set_option maxRecDepth 100000 in
theorem signed_any (a c : UInt8) (w : World) : Calls Try.prog 80 #[.int .u8 (a.toNat : Int), .int .u8 (c.toNat : Int)] w (BoolPost (isExp a && isSign c) w) := by
  have hc : (c.toNat : Int) < 256 := by have := c.toNat_lt; omega
  have hx := exp_index a
  have HI : ∀ W : World, Calls Try.prog 34 #[.string ⟨#[101, 69, 112, 80]⟩, .int .u8 (a.toNat : Int)] W fun e w' => e = .returned (.int .i64 (Lib.indexByte [101, 69, 112, 80] a)) ∧ W = w' := by
    intro W
    refine (Try.strings_IndexByte ⟨#[101, 69, 112, 80]⟩ (a.toNat : Int) W).mono ?_
    rintro e w' ⟨rfl, rfl⟩
    refine ⟨?_, rfl⟩
    simp
  obtain ⟨n, hn⟩ : ∃ n, Lib.indexByte [101, 69, 112, 80] a = n := ⟨_, rfl⟩
  rw [hn] at HI hx
  have HI := Lib.hid HI
  cases he : isExp a with
  | true =>
    rw [he] at hx
    have h0 : 0 ≤ n := by rw [hx]
    clear hx hn
    go_enter Try.func80, Try.ntmps80
    go_wp2_with (go_at_call 34; (with_reducible refine (HI.out _).mono ?_); rintro e w' ⟨rfl, rfl⟩)
    all_goals
      go_ret
      refine ⟨ret_bool ?_, rfl⟩
      unfold isSign
      rw [Bool.eq_iff_iff]
      simp
      try omega
  | false =>
    rw [he] at hx
    have h0 : ¬ 0 ≤ n := by rw [hx]; simp
    clear hx hn
    go_enter Try.func80, Try.ntmps80
    go_wp2_with (go_at_call 34; (with_reducible refine (HI.out _).mono ?_); rintro e w' ⟨rfl, rfl⟩)
    go_ret
    exact ⟨ret_bool rfl, rfl⟩

theorem signed_is {a c : UInt8} {b : Bool} (h : (isExp a && isSign c) = b) (W : World) : Calls Try.prog 80 #[.int .u8 (a.toNat : Int), .int .u8 (c.toNat : Int)] W (BoolPost b W) := h ▸ signed_any a c W

def NumRel (s : ByteArray) (i : Value) : Prop := ∃ k : Nat, i = .int .i64 (k : Int) ∧ 1 ≤ k ∧ k < s.size ∧ numN (s.data.toList.getD 0 0) (s.data.toList.drop 1) + 1 = numN (s.data.toList.getD (k - 1) 0) (s.data.toList.drop k) + k

theorem num_on {s : ByteArray} {k : Nat} (hN : Nl s.data.toList) (hk1 : 1 ≤ k) (hk : k < s.size) (h : numN (s.data.toList.getD 0 0) (s.data.toList.drop 1) + 1 = numN (s.data.toList.getD (k - 1) 0) (s.data.toList.drop k) + k) (hw : numC (s.data.toList.getD (k - 1) 0) s[k] = true) : NumRel s (.int .i64 ((k : Int) + 1)) := by
  have hl := len_byte s
  rw [numN_step (k := k) _ (by omega), get_byte s k hk, if_pos hw] at h
  refine ⟨k + 1, rfl, by omega, ?_, ?_⟩
  · have := (hN.drop (i := 1) (by omega)).num (s.data.toList.getD 0 0)
    rw [List.length_drop] at this
    omega
  · rw [Nat.add_sub_cancel, get_byte s k hk]
    omega
theorem num_off {s : ByteArray} {k : Nat} (hk : k < s.size) (h : numN (s.data.toList.getD 0 0) (s.data.toList.drop 1) + 1 = numN (s.data.toList.getD (k - 1) 0) (s.data.toList.drop k) + k) (hw : numC (s.data.toList.getD (k - 1) 0) s[k] = false) : (k : Int) = ((numN (s.data.toList.getD 0 0) (s.data.toList.drop 1) + 1 : Nat) : Int) := by
  have hl := len_byte s
  rw [numN_step (k := k) _ (by omega), get_byte s k hk, if_neg (by rw [hw]; simp)] at h
  omega

theorem num_fin {s : ByteArray} {j m n : Nat} {w wr : World} {hj : j < s.size} (hN : Nl s.data.toList) (hp : s.data.toList.getD j 0 = s[j]) (hw : wr = w.drewN m) (hk1 : 1 ≤ j + 1) (hk : j + 1 < s.size) (h : numN (s.data.toList.getD 0 0) (s.data.toList.drop 1) + 1 = numN s[j] (s.data.toList.drop (j + 1)) + (j + 1)) (hx : numC s[j] s[j + 1] = true) :
    NumRel s (.int .i64 ((j : Int) + 1 + 1)) ∧ ∃ n', wr.drewN n = w.drewN n' := by
  refine ⟨?_, m + n, by rw [hw, World.drewN_drewN]⟩
  have h := num_on hN hk1 hk (by rw [Nat.add_sub_cancel, hp]; exact h) (by rw [Nat.add_sub_cancel, hp]; exact hx)
  simpa using h
theorem num_done {s : ByteArray} {j m n : Nat} {w wr : World} {hj : j < s.size} (hp : s.data.toList.getD j 0 = s[j]) (hw : wr = w.drewN m) (hk : j + 1 < s.size) (h : numN (s.data.toList.getD 0 0) (s.data.toList.drop 1) + 1 = numN s[j] (s.data.toList.drop (j + 1)) + (j + 1)) (hx : numC s[j] s[j + 1] = false) :
    NatDrew (numN (s.data.toList.getD 0 0) (s.data.toList.drop 1) + 1) w (.returned (.int .i64 ((j : Int) + 1))) (wr.drewN n) := by
  refine ⟨ret_nat ?_, m + n, by rw [hw, World.drewN_drewN]⟩
  have h := num_off hk (by rw [Nat.add_sub_cancel, hp]; exact h) (by rw [Nat.add_sub_cancel, hp]; exact hx)
  simpa using h

set_option maxRecDepth 100000 in
set_option maxHeartbeats 1600000 in
theorem numberLen_any (s : ByteArray) (w : World) (hs : s.size ≤ 1000000) (hN : Nl s.data.toList) (h2 : 1 < s.size) : Calls Try.prog 70 #[.string s] w (NatDrew (numN (s.data.toList.getD 0 0) (s.data.toList.drop 1) + 1) w) := by
  have HN := Lib.hid hN
  clear hN
  go_enter Try.func70, Try.ntmps70
  go_wp2
  go_loopw [3] (fun i w' => NumRel s i ∧ ∃ n, w' = w.drewN n) (fun i _ => s.size - (intOf i).toNat)
  case atStart => exact ⟨⟨1, rfl, by omega, h2, rfl⟩, 0, rfl⟩
  case round =>
    obtain ⟨⟨k, rfl, hk1, hk, hw⟩, m, hwr⟩ := hrel
    have HWR := Lib.hid hwr
    clear hwr
    obtain ⟨j, rfl⟩ : ∃ j, k = j + 1 := ⟨k - 1, by omega⟩
    have hki : ((j : Int) + 1) < (s.size : Int) := by omega
    have hk0 : (0 : Int) ≤ (j : Int) + 1 := by omega
    have htn : ((j : Int) + 1).toNat = j + 1 := by omega
    have hsub : IntKind.i64.wrap (j : Int) = (j : Int) := IntWalk.i64_in _ (by omega)
    have hj : j < s.size := by omega
    have hp : s.data.toList.getD j 0 = s[j] := get_byte s j hj
    rw [show j + 1 - 1 = j from rfl, hp] at hw
    have HW := Lib.hid hw
    have HP := Lib.hid hp
    clear hw hp
    have fin : ∀ b, numC s[j] s[j + 1] = b → Hid (numC s[j] s[j + 1] = b) := fun b h => Lib.hid h
    cases hl : isLet s[j + 1] with
    | true =>
      have HX : Hid (numC s[j] s[j + 1] = true) := fin _ (by unfold numC isWord; rw [hl]; rfl)
      have HLE := Lib.hid (letter_is hl)
      clear hl
      clear fin
      go_wp2_with (fail)
      go_quiet ((first
              | (go_at_call 67; exact quiet_bool (HLE.out _))
              | (go_at_call 69; exact quiet_bool (HDI.out _))
              | (go_at_call 80; exact quiet_bool (HSI.out _))))
      go_wp2
      go_roundw
      case rel => exact num_fin HN.out HP.out HWR.out hk1 hk HW.out HX.out
      case measure => simp [intOf]; omega
    | false =>
      cases hd : isDig s[j + 1] with
      | true =>
        have HX : Hid (numC s[j] s[j + 1] = true) := fin _ (by unfold numC isWord; rw [hl, hd]; rfl)
        have HLE := Lib.hid (letter_is hl)
        have HDI := Lib.hid (digit_is hd)
        clear hl hd
        clear fin
        go_wp2_with (fail)
        go_quiet ((first
                | (go_at_call 67; exact quiet_bool (HLE.out _))
                | (go_at_call 69; exact quiet_bool (HDI.out _))
                | (go_at_call 80; exact quiet_bool (HSI.out _))))
        go_wp2
        go_roundw
        case rel => exact num_fin HN.out HP.out HWR.out hk1 hk HW.out HX.out
        case measure => simp [intOf]; omega
      | false =>
        by_cases h46 : (s[j + 1].toNat : Int) = 46
        · have hb : ((s[j + 1].toNat : Int) == 46) = true := by rw [h46]; rfl
          have h46n : s[j + 1].toNat = 46 := by omega
          clear h46
          have HX : Hid (numC s[j] s[j + 1] = true) := fin _ (by unfold numC isWord; rw [hl, hd, decide_eq_true h46n]; rfl)
          have HLE := Lib.hid (letter_is hl)
          have HDI := Lib.hid (digit_is hd)
          clear hl hd
          clear fin h46n
          go_wp2_with (fail)
          go_quiet ((first
                  | (go_at_call 67; exact quiet_bool (HLE.out _))
                  | (go_at_call 69; exact quiet_bool (HDI.out _))
                  | (go_at_call 80; exact quiet_bool (HSI.out _))))
          go_wp2
          go_roundw
          case rel => exact num_fin HN.out HP.out HWR.out hk1 hk HW.out HX.out
          case measure => simp [intOf]; omega
        · have hb : ((s[j + 1].toNat : Int) == 46) = false := by simpa using h46
          have h46n : ¬ s[j + 1].toNat = 46 := by omega
          clear h46
          cases hx : (isExp s[j] && isSign s[j + 1]) with
          | true =>
            have HX : Hid (numC s[j] s[j + 1] = true) := fin _ (by unfold numC isWord; rw [hl, hd, decide_eq_false h46n, hx]; rfl)
            have HLE := Lib.hid (letter_is hl)
            have HDI := Lib.hid (digit_is hd)
            have HSI := Lib.hid (signed_is hx)
            clear hl hd hx
            clear fin h46n
            go_wp2_with (fail)
            go_quiet ((first
                    | (go_at_call 67; exact quiet_bool (HLE.out _))
                    | (go_at_call 69; exact quiet_bool (HDI.out _))
                    | (go_at_call 80; exact quiet_bool (HSI.out _))))
            go_wp2
            go_roundw
            case rel => exact num_fin HN.out HP.out HWR.out hk1 hk HW.out HX.out
            case measure => simp [intOf]; omega
          | false =>
            have HX : Hid (numC s[j] s[j + 1] = false) := fin _ (by unfold numC isWord; rw [hl, hd, decide_eq_false h46n, hx]; rfl)
            have HLE := Lib.hid (letter_is hl)
            have HDI := Lib.hid (digit_is hd)
            have HSI := Lib.hid (signed_is hx)
            clear hl hd hx
            clear fin h46n
            go_wp2_with (fail)
            go_quiet ((first
                    | (go_at_call 67; exact quiet_bool (HLE.out _))
                    | (go_at_call 69; exact quiet_bool (HDI.out _))
                    | (go_at_call 80; exact quiet_bool (HSI.out _))))
            go_wp2
            go_ret
            exact num_done HP.out HWR.out hk HW.out HX.out

end Go.Proofs.Ytiopmkbjdjipnaa
