/-
  Texts of the proof, put together: LxW.
-/
import Derived.Test.YtipipookgcdfbaaG03

/-
  Words and numbers, of the project: how long they are.
-/
namespace Go.Proofs.Ytipipookgcdfbaa
open Go.RowKit

theorem quiet_bool {f : FuncId} {args : Array Value} {w : World} {n : Nat} {b : Bool} (h : Calls Try.prog f args (w.drewN n) (BoolPost b (w.drewN n))) :
    Calls Try.prog f args (w.drewN n) fun e w'' => e = .returned (.bool b) ∧ ∃ m, w'' = w.drewN m :=
  h.mono fun _ _ ⟨he, hm⟩ => ⟨he, n, hm.symm⟩
theorem quiet_nat {f : FuncId} {args : Array Value} {w : World} {n : Nat} {b : Nat} (h : Calls Try.prog f args (w.drewN n) (NatPost b (w.drewN n))) :
    Calls Try.prog f args (w.drewN n) fun e w'' => e = .returned (.int .i64 (b : Int)) ∧ ∃ m, w'' = w.drewN m :=
  h.mono fun _ _ ⟨he, hm⟩ => ⟨he, n, hm.symm⟩
/-- A natural number, in a world that may have drawn. -/
def NatDrew (b : Nat) (w : World) (e : Ending) (w' : World) : Prop := e = .returned (.int .i64 (b : Int)) ∧ ∃ n, w' = w.drewN n
theorem quiet_ndrew {f : FuncId} {args : Array Value} {w : World} {n : Nat} {b : Nat} (h : Calls Try.prog f args (w.drewN n) (NatDrew b (w.drewN n))) :
    Calls Try.prog f args (w.drewN n) fun e w'' => e = .returned (.int .i64 (b : Int)) ∧ ∃ m, w'' = w.drewN m :=
  h.mono fun _ _ ⟨he, m, hm⟩ => ⟨he, n + m, by rw [hm, World.drewN_drewN]⟩

/-- A list that ends with a byte 10. -/
def Nl (l : List UInt8) : Prop := 0 < l.length ∧ l.getD (l.length - 1) 0 = 10

theorem Nl.drop {l : List UInt8} (h : Nl l) {i : Nat} (hi : i < l.length) : Nl (l.drop i) := by
  refine ⟨by rw [List.length_drop]; omega, ?_⟩
  rw [getD_drop, List.length_drop, show i + (l.length - i - 1) = l.length - 1 from by omega]
  exact h.2
theorem Nl.two {l : List UInt8} (h : Nl l) (h0 : l.getD 0 0 ≠ 10) : 1 < l.length := by
  rcases Nat.lt_or_ge 1 l.length with h1 | h1
  · exact h1
  · have e : l.length - 1 = 0 := by omega
    have := h.2
    rw [e] at this
    exact absurd this h0
theorem Nl.word {l : List UInt8} (h : Nl l) : wordN l < l.length := by
  have h1 := wordN_le l
  rcases Nat.lt_or_ge (wordN l) l.length with h2 | h2
  · exact h2
  · have h3 := wordN_in l (l.length - 1) (by have := h.1; omega)
    rw [h.2] at h3
    exact absurd h3 (by decide)
theorem Nl.num {l : List UInt8} (h : Nl l) (p : UInt8) : numN p l < l.length := by
  have h1 := numN_le p l
  rcases Nat.lt_or_ge (numN p l) l.length with h2 | h2
  · exact h2
  · exact absurd h.2 (numN_in p l (l.length - 1) (by have := h.1; omega))

theorem wordN_step {l : List UInt8} {k : Nat} (hk : k < l.length) : wordN (l.drop k) = if isWord (l.getD k 0) then wordN (l.drop (k + 1)) + 1 else 0 := by
  rw [drop_cons hk]
  rfl
theorem numN_step {l : List UInt8} {k : Nat} (p : UInt8) (hk : k < l.length) : numN p (l.drop k) = if numC p (l.getD k 0) then numN (l.getD k 0) (l.drop (k + 1)) + 1 else 0 := by
  rw [drop_cons hk]
  rfl

theorem exp_index (c : UInt8) : (0 ≤ Lib.indexByte [101, 69, 112, 80] c) = (isExp c = true) := by
  apply propext
  have e : ∀ n : Nat, n < 256 → ((UInt8.ofNat n == c) = true ↔ c.toNat = n) := by
    intro n hn
    rw [beq_iff_eq]
    constructor
    · rintro rfl
      simp
      omega
    · intro h
      apply UInt8.toNat_inj.1
      simp
      omega
  have e1 := e 101 (by omega)
  have e2 := e 69 (by omega)
  have e3 := e 112 (by omega)
  have e4 := e 80 (by omega)
  unfold isExp
  simp only [Bool.or_eq_true, decide_eq_true_eq, ← e1, ← e2, ← e3, ← e4, Lib.indexByte]
  by_cases h1 : (UInt8.ofNat 101 == c) = true
  · simp [show ((101 : UInt8) == c) = true from h1]
  · by_cases h2 : (UInt8.ofNat 69 == c) = true
    · simp [show ((69 : UInt8) == c) = true from h2, show ((101 : UInt8) == c) = false from by simpa using h1]
    · by_cases h3 : (UInt8.ofNat 112 == c) = true
      · simp [show ((112 : UInt8) == c) = true from h3, show ((101 : UInt8) == c) = false from by simpa using h1, show ((69 : UInt8) == c) = false from by simpa using h2]
      · by_cases h4 : (UInt8.ofNat 80 == c) = true
        · simp [show ((80 : UInt8) == c) = true from h4, show ((101 : UInt8) == c) = false from by simpa using h1, show ((69 : UInt8) == c) = false from by simpa using h2, show ((112 : UInt8) == c) = false from by simpa using h3]
        · simp [show ((101 : UInt8) == c) = false from by simpa using h1, show ((69 : UInt8) == c) = false from by simpa using h2, show ((112 : UInt8) == c) = false from by simpa using h3, show ((80 : UInt8) == c) = false from by simpa using h4]

set_option maxRecDepth 100000 in
theorem signed_any (a c : UInt8) (w : World) : Calls Try.prog 83 #[.int .u8 (a.toNat : Int), .int .u8 (c.toNat : Int)] w (BoolPost (isExp a && isSign c) w) := by
  have hc : (c.toNat : Int) < 256 := by have := c.toNat_lt; omega
  have hx := exp_index a
  have HI : ∀ W : World, Calls Try.prog 34 #[.string ⟨#[101, 69, 112, 80]⟩, .int .u8 (a.toNat : Int)] W fun e w' => e = .returned (.int .i64 (Lib.indexByte [101, 69, 112, 80] a)) ∧ W = w' := by
    intro W
    refine (Try.strings_IndexByte ⟨#[101, 69, 112, 80]⟩ (a.toNat : Int) W).mono ?_
    rintro e w' ⟨rfl, rfl⟩
    refine ⟨?_, rfl⟩
    simp
  obtain ⟨n, hn⟩ : ∃ n, Lib.indexByte [101, 69, 112, 80] a = n := ⟨_, rfl⟩
  rw [hn] at HI hx
  have HI := Lib.hid HI
  cases he : isExp a with
  | true =>
    rw [he] at hx
    have h0 : 0 ≤ n := by rw [hx]
    clear hx hn
    go_enter Try.func83, Try.ntmps83
    go_wp2_with (go_at_call 34; (with_reducible refine (HI.out _).mono ?_); rintro e w' ⟨rfl, rfl⟩)
    all_goals
      go_ret
      refine ⟨ret_bool ?_, rfl⟩
      unfold isSign
      rw [Bool.eq_iff_iff]
      simp
      try omega
  | false =>
    rw [he] at hx
    have h0 : ¬ 0 ≤ n := by rw [hx]; simp
    clear hx hn
    go_enter Try.func83, Try.ntmps83
    go_wp2_with (go_at_call 34; (with_reducible refine (HI.out _).mono ?_); rintro e w' ⟨rfl, rfl⟩)
    go_ret
    exact ⟨ret_bool rfl, rfl⟩

theorem signed_is {a c : UInt8} {b : Bool} (h : (isExp a && isSign c) = b) (W : World) : Calls Try.prog 83 #[.int .u8 (a.toNat : Int), .int .u8 (c.toNat : Int)] W (BoolPost b W) := h ▸ signed_any a c W

/-- Does a character go on with a name (1) or a number (2)? -/
def goOn (k : Int) (a c : UInt8) : Bool := if k = 1 then isWord c else if k = 2 then numC a c else false
/-- A truth, in a world that may have drawn. -/
def BoolDrew (b : Bool) (w : World) (e : Ending) (w' : World) : Prop := e = .returned (.bool b) ∧ ∃ n, w' = w.drewN n
theorem quiet_bdrew {f : FuncId} {args : Array Value} {w : World} {n : Nat} {b : Bool} (h : Calls Try.prog f args (w.drewN n) (BoolDrew b (w.drewN n))) :
    Calls Try.prog f args (w.drewN n) fun e w'' => e = .returned (.bool b) ∧ ∃ m, w'' = w.drewN m :=
  h.mono fun _ _ ⟨he, m, hm⟩ => ⟨he, n + m, by rw [hm, World.drewN_drewN]⟩

set_option maxRecDepth 100000 in
set_option maxHeartbeats 1600000 in
theorem goesOn_any (k : Int) (a c : UInt8) (w : World) : Calls Try.prog 79 #[.int .i64 k, .int .u8 (a.toNat : Int), .int .u8 (c.toNat : Int)] w (BoolDrew (goOn k a c) w) := by
  have HLE := Lib.hid (letter_is (c := c) rfl)
  have HDI := Lib.hid (digit_is (c := c) rfl)
  have HSI := Lib.hid (signed_is (a := a) (c := c) rfl)
  have h46 : ((c.toNat : Int) == 46) = decide (c.toNat = 46) := by
    rw [Bool.eq_iff_iff, beq_iff_eq, decide_eq_true_iff]
    omega
  by_cases h1 : k = 1
  · subst h1
    have HG : Hid (goOn 1 a c = (isLet c || isDig c)) := Lib.hid rfl
    cases hl : isLet c <;> cases hd : isDig c <;> rw [hl] at HLE HG <;> rw [hd] at HDI HG <;> clear hl hd h46 HSI
    all_goals
      go_enter Try.func79, Try.ntmps79
      go_wp2_with (first
        | (go_at_call 67; (with_reducible refine (HLE.out _).mono ?_); rintro e w' ⟨rfl, rfl⟩)
        | (go_at_call 69; (with_reducible refine (HDI.out _).mono ?_); rintro e w' ⟨rfl, rfl⟩))
      go_ret
      exact ⟨by rw [HG.out]; rfl, 0, rfl⟩
  · have hk1 : (k == 1) = false := by simpa using h1
    by_cases h2 : k = 2
    · subst h2
      have HG : Hid (goOn 2 a c = (((isLet c || isDig c) || decide (c.toNat = 46)) || (isExp a && isSign c))) := Lib.hid rfl
      obtain ⟨b46, hb46⟩ : ∃ b, decide (c.toNat = 46) = b := ⟨_, rfl⟩
      obtain ⟨bs, hbs⟩ : ∃ b, (isExp a && isSign c) = b := ⟨_, rfl⟩
      rw [hb46] at h46 HG
      rw [hbs] at HSI HG
      clear hb46 hbs h1
      cases hl : isLet c <;> cases hd : isDig c <;> cases b46 <;> cases bs <;> rw [hl] at HLE HG <;> rw [hd] at HDI HG <;> clear hl hd
      all_goals
        go_enter Try.func79, Try.ntmps79
        go_wp2_with (first
          | (go_at_call 67; (with_reducible refine (HLE.out _).mono ?_); rintro e w' ⟨rfl, rfl⟩)
          | (go_at_call 69; (with_reducible refine (HDI.out _).mono ?_); rintro e w' ⟨rfl, rfl⟩)
          | (go_at_call 83; (with_reducible refine (HSI.out _).mono ?_); rintro e w' ⟨rfl, rfl⟩))
        go_ret
        exact ⟨by rw [HG.out]; rfl, 0, rfl⟩
    · have hk2 : (k == 2) = false := by simpa using h2
      have HG : Hid (goOn k a c = false) := Lib.hid (by unfold goOn; rw [if_neg h1, if_neg h2])
      clear HLE HDI HSI h46
      go_enter Try.func79, Try.ntmps79
      go_wp2
      go_ret
      exact ⟨by rw [HG.out]; rfl, 0, rfl⟩
theorem goesOn_is {k : Int} {a c : UInt8} {b : Bool} (h : goOn k a c = b) (W : World) : Calls Try.prog 79 #[.int .i64 k, .int .u8 (a.toNat : Int), .int .u8 (c.toNat : Int)] W (BoolDrew b W) := h ▸ goesOn_any k a c W

/-- How long it is, from a place on. -/
def lenF (k : Int) (p : UInt8) (l : List UInt8) : Nat := if k = 1 then wordN l else numN p l
theorem lenF_step {k : Int} (hk : k = 1 ∨ k = 2) {l : List UInt8} {i : Nat} (p : UInt8) (hi : i < l.length) : lenF k p (l.drop i) = if goOn k p (l.getD i 0) then lenF k (l.getD i 0) (l.drop (i + 1)) + 1 else 0 := by
  rcases hk with rfl | rfl
  · exact wordN_step hi
  · exact numN_step p hi
theorem Nl.lenF {l : List UInt8} (h : Nl l) (k : Int) (p : UInt8) : lenF k p l < l.length := by
  unfold Proofs.Ytipipookgcdfbaa.lenF
  split
  · exact h.word
  · exact h.num p
def LenRel (k : Int) (s : ByteArray) (i : Value) : Prop := ∃ j : Nat, i = .int .i64 (j : Int) ∧ 1 ≤ j ∧ j < s.size ∧ lenF k (s.data.toList.getD 0 0) (s.data.toList.drop 1) + 1 = lenF k (s.data.toList.getD (j - 1) 0) (s.data.toList.drop j) + j
theorem len_fin {k : Int} (h12 : k = 1 ∨ k = 2) {s : ByteArray} {j m n : Nat} {w wr : World} {hj : j < s.size} (hN : Nl s.data.toList) (hw : wr = w.drewN m) (hk : j + 1 < s.size) (h : lenF k (s.data.toList.getD 0 0) (s.data.toList.drop 1) + 1 = lenF k s[j] (s.data.toList.drop (j + 1)) + (j + 1)) (hx : goOn k s[j] s[j + 1] = true) :
    LenRel k s (.int .i64 ((j : Int) + 1 + 1)) ∧ ∃ n', wr.drewN n = w.drewN n' := by
  have hl := len_byte s
  refine ⟨?_, m + n, by rw [hw, World.drewN_drewN]⟩
  rw [lenF_step h12 (i := j + 1) _ (by omega), get_byte s (j + 1) hk, if_pos hx] at h
  refine ⟨j + 2, rfl, by omega, ?_, ?_⟩
  · have := (hN.drop (i := 1) (by omega)).lenF k (s.data.toList.getD 0 0)
    rw [List.length_drop] at this
    omega
  · rw [show j + 2 - 1 = j + 1 from rfl, get_byte s (j + 1) hk]
    rw [show j + 1 + 1 = j + 2 from rfl] at h
    omega
theorem len_done {k : Int} (h12 : k = 1 ∨ k = 2) {s : ByteArray} {j m n : Nat} {w wr : World} {hj : j < s.size} (hw : wr = w.drewN m) (hk : j + 1 < s.size) (h : lenF k (s.data.toList.getD 0 0) (s.data.toList.drop 1) + 1 = lenF k s[j] (s.data.toList.drop (j + 1)) + (j + 1)) (hx : goOn k s[j] s[j + 1] = false) :
    NatDrew (lenF k (s.data.toList.getD 0 0) (s.data.toList.drop 1) + 1) w (.returned (.int .i64 ((j : Int) + 1))) (wr.drewN n) := by
  have hl := len_byte s
  refine ⟨ret_nat ?_, m + n, by rw [hw, World.drewN_drewN]⟩
  rw [lenF_step h12 (i := j + 1) _ (by omega), get_byte s (j + 1) hk, if_neg (by rw [hx]; simp)] at h
  omega

set_option maxRecDepth 100000 in
set_option maxHeartbeats 1600000 in
theorem lengthOf_any (k : Int) (h12 : k = 1 ∨ k = 2) (s : ByteArray) (w : World) (hs : s.size ≤ 1000000) (hN : Nl s.data.toList) (h2 : 1 < s.size) : Calls Try.prog 68 #[.int .i64 k, .string s] w (NatDrew (lenF k (s.data.toList.getD 0 0) (s.data.toList.drop 1) + 1) w) := by
  have HN := Lib.hid hN
  have H12 := Lib.hid h12
  clear hN h12
  go_enter Try.func68, Try.ntmps68
  go_wp2
  go_loopw [5] (fun i w' => LenRel k s i ∧ ∃ n, w' = w.drewN n) (fun i _ => s.size - (intOf i).toNat)
  case atStart => exact ⟨⟨1, rfl, by omega, h2, rfl⟩, 0, rfl⟩
  case round =>
    obtain ⟨⟨q, rfl, hk1, hk, hw⟩, m, hwr⟩ := hrel
    have HWR := Lib.hid hwr
    clear hwr
    obtain ⟨j, rfl⟩ : ∃ j, q = j + 1 := ⟨q - 1, by omega⟩
    have hki : ((j : Int) + 1) < (s.size : Int) := by omega
    have hk0 : (0 : Int) ≤ (j : Int) + 1 := by omega
    have htn : ((j : Int) + 1).toNat = j + 1 := by omega
    have hsub : IntKind.i64.wrap (j : Int) = (j : Int) := IntWalk.i64_in _ (by omega)
    have hj : j < s.size := by omega
    have hp : s.data.toList.getD j 0 = s[j] := get_byte s j hj
    rw [show j + 1 - 1 = j from rfl, hp] at hw
    have HW := Lib.hid hw
    clear hw hp
    cases hx : goOn k s[j] s[j + 1] with
    | true =>
      have HGO := Lib.hid (goesOn_is hx)
      have HX := Lib.hid hx
      clear hx
      go_wp2_with (fail)
      go_quiet ((go_at_call 79; exact quiet_bdrew (HGO.out _)))
      go_wp2
      go_roundw
      case rel => exact len_fin H12.out HN.out HWR.out hk HW.out HX.out
      case measure => simp [intOf]; omega
    | false =>
      have HGO := Lib.hid (goesOn_is hx)
      have HX := Lib.hid hx
      clear hx
      go_wp2_with (fail)
      go_quiet ((go_at_call 79; exact quiet_bdrew (HGO.out _)))
      go_wp2
      go_ret
      exact len_done H12.out HWR.out hk HW.out HX.out
theorem wordLen_any (s : ByteArray) (w : World) (hs : s.size ≤ 1000000) (hN : Nl s.data.toList) (h2 : 1 < s.size) : Calls Try.prog 68 #[.int .i64 1, .string s] w (NatDrew (wordN (s.data.toList.drop 1) + 1) w) := lengthOf_any 1 (.inl rfl) s w hs hN h2
theorem numberLen_any (s : ByteArray) (w : World) (hs : s.size ≤ 1000000) (hN : Nl s.data.toList) (h2 : 1 < s.size) : Calls Try.prog 68 #[.int .i64 2, .string s] w (NatDrew (numN (s.data.toList.getD 0 0) (s.data.toList.drop 1) + 1) w) := lengthOf_any 2 (.inr rfl) s w hs hN h2

end Go.Proofs.Ytipipookgcdfbaa
