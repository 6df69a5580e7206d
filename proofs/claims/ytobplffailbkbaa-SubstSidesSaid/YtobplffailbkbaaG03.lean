/-
  Texts of the proof, put together: LxW, LxP.
-/
import Derived.Test.YtobplffailbkbaaG02

/-
  Words and numbers, of the project: how long they are.
-/
namespace Go.Proofs.Ytobplffailbkbaa
open Go.RowKit

theorem quiet_bool {f : FuncId} {args : Array Value} {w : World} {n : Nat} {b : Bool} (h : Calls Try.prog f args (w.drewN n) (BoolPost b (w.drewN n))) :
    Calls Try.prog f args (w.drewN n) fun e w'' => e = .returned (.bool b) ∧ ∃ m, w'' = w.drewN m :=
  h.mono fun _ _ ⟨he, hm⟩ => ⟨he, n, hm.symm⟩
theorem quiet_nat {f : FuncId} {args : Array Value} {w : World} {n : Nat} {b : Nat} (h : Calls Try.prog f args (w.drewN n) (NatPost b (w.drewN n))) :
    Calls Try.prog f args (w.drewN n) fun e w'' => e = .returned (.int .i64 (b : Int)) ∧ ∃ m, w'' = w.drewN m :=
  h.mono fun _ _ ⟨he, hm⟩ => ⟨he, n, hm.symm⟩
/-- A natural number, in a world that may have drawn. -/
def NatDrew (b : Nat) (w : World) (e : Ending) (w' : World) : Prop := e = .returned (.int .i64 (b : Int)) ∧ ∃ n, w' = w.drewN n
theorem quiet_ndrew {f : FuncId} {args : Array Value} {w : World} {n : Nat} {b : Nat} (h : Calls Try.prog f args (w.drewN n) (NatDrew b (w.drewN n))) :
    Calls Try.prog f args (w.drewN n) fun e w'' => e = .returned (.int .i64 (b : Int)) ∧ ∃ m, w'' = w.drewN m :=
  h.mono fun _ _ ⟨he, m, hm⟩ => ⟨he, n + m, by rw [hm, World.drewN_drewN]⟩

/-- A list that ends with a byte 10. -/
def Nl (l : List UInt8) : Prop := 0 < l.length ∧ l.getD (l.length - 1) 0 = 10

theorem Nl.drop {l : List UInt8} (h : Nl l) {i : Nat} (hi : i < l.length) : Nl (l.drop i) := by
  refine ⟨by rw [List.length_drop]; omega, ?_⟩
  rw [getD_drop, List.length_drop, show i + (l.length - i - 1) = l.length - 1 from by omega]
  exact h.2
theorem Nl.two {l : List UInt8} (h : Nl l) (h0 : l.getD 0 0 ≠ 10) : 1 < l.length := by
  rcases Nat.lt_or_ge 1 l.length with h1 | h1
  · exact h1
  · have e : l.length - 1 = 0 := by omega
    have := h.2
    rw [e] at this
    exact absurd this h0
theorem Nl.word {l : List UInt8} (h : Nl l) : wordN l < l.length := by
  have h1 := wordN_le l
  rcases Nat.lt_or_ge (wordN l) l.length with h2 | h2
  · exact h2
  · have h3 := wordN_in l (l.length - 1) (by have := h.1; omega)
    rw [h.2] at h3
    exact absurd h3 (by decide)
theorem Nl.num {l : List UInt8} (h : Nl l) (p : UInt8) : numN p l < l.length := by
  have h1 := numN_le p l
  rcases Nat.lt_or_ge (numN p l) l.length with h2 | h2
  · exact h2
  · exact absurd h.2 (numN_in p l (l.length - 1) (by have := h.1; omega))

theorem wordN_step {l : List UInt8} {k : Nat} (hk : k < l.length) : wordN (l.drop k) = if isWord (l.getD k 0) then wordN (l.drop (k + 1)) + 1 else 0 := by
  rw [drop_cons hk]
  rfl
theorem numN_step {l : List UInt8} {k : Nat} (p : UInt8) (hk : k < l.length) : numN p (l.drop k) = if numC p (l.getD k 0) then numN (l.getD k 0) (l.drop (k + 1)) + 1 else 0 := by
  rw [drop_cons hk]
  rfl

theorem exp_index (c : UInt8) : (0 ≤ Lib.indexByte [101, 69, 112, 80] c) = (isExp c = true) := by
  apply propext
  have e : ∀ n : Nat, n < 256 → ((UInt8.ofNat n == c) = true ↔ c.toNat = n) := by
    intro n hn
    rw [beq_iff_eq]
    constructor
    · rintro rfl
      simp
      omega
    · intro h
      apply UInt8.toNat_inj.1
      simp
      omega
  have e1 := e 101 (by omega)
  have e2 := e 69 (by omega)
  have e3 := e 112 (by omega)
  have e4 := e 80 (by omega)
  unfold isExp
  simp only [Bool.or_eq_true, decide_eq_true_eq, ← e1, ← e2, ← e3, ← e4, Lib.indexByte]
  by_cases h1 : (UInt8.ofNat 101 == c) = true
  · simp [show ((101 : UInt8) == c) = true from h1]
  · by_cases h2 : (UInt8.ofNat 69 == c) = true
    · simp [show ((69 : UInt8) == c) = true from h2, show ((101 : UInt8) == c) = false from by simpa using h1]
    · by_cases h3 : (UInt8.ofNat 112 == c) = true
      · simp [show ((112 : UInt8) == c) = true from h3, show ((101 : UInt8) == c) = false from by simpa using h1, show ((69 : UInt8) == c) = false from by simpa using h2]
      · by_cases h4 : (UInt8.ofNat 80 == c) = true
        · simp [show ((80 : UInt8) == c) = true from h4, show ((101 : UInt8) == c) = false from by simpa using h1, show ((69 : UInt8) == c) = false from by simpa using h2, show ((112 : UInt8) == c) = false from by simpa using h3]
        · simp [show ((101 : UInt8) == c) = false from by simpa using h1, show ((69 : UInt8) == c) = false from by simpa using h2, show ((112 : UInt8) == c) = false from by simpa using h3, show ((80 : UInt8) == c) = false from by simpa using h4]

set_option maxRecDepth 100000 in
theorem signed_any (a c : UInt8) (w : World) : Calls Try.prog 96 #[.int .u8 (a.toNat : Int), .int .u8 (c.toNat : Int)] w (BoolPost (isExp a && isSign c) w) := by
  have hc : (c.toNat : Int) < 256 := by have := c.toNat_lt; omega
  have hx := exp_index a
  have HI : ∀ W : World, Calls Try.prog 98 #[.string ⟨#[101, 69, 112, 80]⟩, .int .u8 (a.toNat : Int)] W fun e w' => e = .returned (.int .i64 (Lib.indexByte [101, 69, 112, 80] a)) ∧ W = w' := by
    intro W
    refine (Try.strings_IndexByte ⟨#[101, 69, 112, 80]⟩ (a.toNat : Int) W).mono ?_
    rintro e w' ⟨rfl, rfl⟩
    refine ⟨?_, rfl⟩
    simp
  obtain ⟨n, hn⟩ : ∃ n, Lib.indexByte [101, 69, 112, 80] a = n := ⟨_, rfl⟩
  rw [hn] at HI hx
  have HI := Lib.hid HI
  cases he : isExp a with
  | true =>
    rw [he] at hx
    have h0 : 0 ≤ n := by rw [hx]
    clear hx hn
    go_enter Try.func96, Try.ntmps96
    go_wp2_with (go_at_call 98; (with_reducible refine (HI.out _).mono ?_); rintro e w' ⟨rfl, rfl⟩)
    all_goals
      go_ret
      refine ⟨ret_bool ?_, rfl⟩
      unfold isSign
      rw [Bool.eq_iff_iff]
      simp
      try omega
  | false =>
    rw [he] at hx
    have h0 : ¬ 0 ≤ n := by rw [hx]; simp
    clear hx hn
    go_enter Try.func96, Try.ntmps96
    go_wp2_with (go_at_call 98; (with_reducible refine (HI.out _).mono ?_); rintro e w' ⟨rfl, rfl⟩)
    go_ret
    exact ⟨ret_bool rfl, rfl⟩

theorem signed_is {a c : UInt8} {b : Bool} (h : (isExp a && isSign c) = b) (W : World) : Calls Try.prog 96 #[.int .u8 (a.toNat : Int), .int .u8 (c.toNat : Int)] W (BoolPost b W) := h ▸ signed_any a c W

/-- Does a character go on with a name (1) or a number (2)? -/
def goOn (k : Int) (a c : UInt8) : Bool := if k = 1 then isWord c else if k = 2 then numC a c else false
/-- A truth, in a world that may have drawn. -/
def BoolDrew (b : Bool) (w : World) (e : Ending) (w' : World) : Prop := e = .returned (.bool b) ∧ ∃ n, w' = w.drewN n
theorem quiet_bdrew {f : FuncId} {args : Array Value} {w : World} {n : Nat} {b : Bool} (h : Calls Try.prog f args (w.drewN n) (BoolDrew b (w.drewN n))) :
    Calls Try.prog f args (w.drewN n) fun e w'' => e = .returned (.bool b) ∧ ∃ m, w'' = w.drewN m :=
  h.mono fun _ _ ⟨he, m, hm⟩ => ⟨he, n + m, by rw [hm, World.drewN_drewN]⟩

set_option maxRecDepth 100000 in
set_option maxHeartbeats 1600000 in
theorem goesOn_any (k : Int) (a c : UInt8) (w : World) : Calls Try.prog 87 #[.int .i64 k, .int .u8 (a.toNat : Int), .int .u8 (c.toNat : Int)] w (BoolDrew (goOn k a c) w) := by
  have HLE := Lib.hid (letter_is (c := c) rfl)
  have HDI := Lib.hid (digit_is (c := c) rfl)
  have HSI := Lib.hid (signed_is (a := a) (c := c) rfl)
  have h46 : ((c.toNat : Int) == 46) = decide (c.toNat = 46) := by
    rw [Bool.eq_iff_iff, beq_iff_eq, decide_eq_true_iff]
    omega
  by_cases h1 : k = 1
  · subst h1
    have HG : Hid (goOn 1 a c = (isLet c || isDig c)) := Lib.hid rfl
    cases hl : isLet c <;> cases hd : isDig c <;> rw [hl] at HLE HG <;> rw [hd] at HDI HG <;> clear hl hd h46 HSI
    all_goals
      go_enter Try.func87, Try.ntmps87
      go_wp2_with (first
        | (go_at_call 78; (with_reducible refine (HLE.out _).mono ?_); rintro e w' ⟨rfl, rfl⟩)
        | (go_at_call 80; (with_reducible refine (HDI.out _).mono ?_); rintro e w' ⟨rfl, rfl⟩))
      go_ret
      exact ⟨by rw [HG.out]; rfl, 0, rfl⟩
  · have hk1 : (k == 1) = false := by simpa using h1
    by_cases h2 : k = 2
    · subst h2
      have HG : Hid (goOn 2 a c = (((isLet c || isDig c) || decide (c.toNat = 46)) || (isExp a && isSign c))) := Lib.hid rfl
      obtain ⟨b46, hb46⟩ : ∃ b, decide (c.toNat = 46) = b := ⟨_, rfl⟩
      obtain ⟨bs, hbs⟩ : ∃ b, (isExp a && isSign c) = b := ⟨_, rfl⟩
      rw [hb46] at h46 HG
      rw [hbs] at HSI HG
      clear hb46 hbs h1
      cases hl : isLet c <;> cases hd : isDig c <;> cases b46 <;> cases bs <;> rw [hl] at HLE HG <;> rw [hd] at HDI HG <;> clear hl hd
      all_goals
        go_enter Try.func87, Try.ntmps87
        go_wp2_with (first
          | (go_at_call 78; (with_reducible refine (HLE.out _).mono ?_); rintro e w' ⟨rfl, rfl⟩)
          | (go_at_call 80; (with_reducible refine (HDI.out _).mono ?_); rintro e w' ⟨rfl, rfl⟩)
          | (go_at_call 96; (with_reducible refine (HSI.out _).mono ?_); rintro e w' ⟨rfl, rfl⟩))
        go_ret
        exact ⟨by rw [HG.out]; rfl, 0, rfl⟩
    · have hk2 : (k == 2) = false := by simpa using h2
      have HG : Hid (goOn k a c = false) := Lib.hid (by unfold goOn; rw [if_neg h1, if_neg h2])
      clear HLE HDI HSI h46
      go_enter Try.func87, Try.ntmps87
      go_wp2
      go_ret
      exact ⟨by rw [HG.out]; rfl, 0, rfl⟩
theorem goesOn_is {k : Int} {a c : UInt8} {b : Bool} (h : goOn k a c = b) (W : World) : Calls Try.prog 87 #[.int .i64 k, .int .u8 (a.toNat : Int), .int .u8 (c.toNat : Int)] W (BoolDrew b W) := h ▸ goesOn_any k a c W

/-- How long it is, from a place on. -/
def lenF (k : Int) (p : UInt8) (l : List UInt8) : Nat := if k = 1 then wordN l else numN p l
theorem lenF_step {k : Int} (hk : k = 1 ∨ k = 2) {l : List UInt8} {i : Nat} (p : UInt8) (hi : i < l.length) : lenF k p (l.drop i) = if goOn k p (l.getD i 0) then lenF k (l.getD i 0) (l.drop (i + 1)) + 1 else 0 := by
  rcases hk with rfl | rfl
  · exact wordN_step hi
  · exact numN_step p hi
theorem Nl.lenF {l : List UInt8} (h : Nl l) (k : Int) (p : UInt8) : lenF k p l < l.length := by
  unfold Proofs.Ytobplffailbkbaa.lenF
  split
  · exact h.word
  · exact h.num p
def LenRel (k : Int) (s : ByteArray) (i : Value) : Prop := ∃ j : Nat, i = .int .i64 (j : Int) ∧ 1 ≤ j ∧ j < s.size ∧ lenF k (s.data.toList.getD 0 0) (s.data.toList.drop 1) + 1 = lenF k (s.data.toList.getD (j - 1) 0) (s.data.toList.drop j) + j
theorem len_fin {k : Int} (h12 : k = 1 ∨ k = 2) {s : ByteArray} {j m n : Nat} {w wr : World} {hj : j < s.size} (hN : Nl s.data.toList) (hw : wr = w.drewN m) (hk : j + 1 < s.size) (h : lenF k (s.data.toList.getD 0 0) (s.data.toList.drop 1) + 1 = lenF k s[j] (s.data.toList.drop (j + 1)) + (j + 1)) (hx : goOn k s[j] s[j + 1] = true) :
    LenRel k s (.int .i64 ((j : Int) + 1 + 1)) ∧ ∃ n', wr.drewN n = w.drewN n' := by
  have hl := len_byte s
  refine ⟨?_, m + n, by rw [hw, World.drewN_drewN]⟩
  rw [lenF_step h12 (i := j + 1) _ (by omega), get_byte s (j + 1) hk, if_pos hx] at h
  refine ⟨j + 2, rfl, by omega, ?_, ?_⟩
  · have := (hN.drop (i := 1) (by omega)).lenF k (s.data.toList.getD 0 0)
    rw [List.length_drop] at this
    omega
  · rw [show j + 2 - 1 = j + 1 from rfl, get_byte s (j + 1) hk]
    rw [show j + 1 + 1 = j + 2 from rfl] at h
    omega
theorem len_done {k : Int} (h12 : k = 1 ∨ k = 2) {s : ByteArray} {j m n : Nat} {w wr : World} {hj : j < s.size} (hw : wr = w.drewN m) (hk : j + 1 < s.size) (h : lenF k (s.data.toList.getD 0 0) (s.data.toList.drop 1) + 1 = lenF k s[j] (s.data.toList.drop (j + 1)) + (j + 1)) (hx : goOn k s[j] s[j + 1] = false) :
    NatDrew (lenF k (s.data.toList.getD 0 0) (s.data.toList.drop 1) + 1) w (.returned (.int .i64 ((j : Int) + 1))) (wr.drewN n) := by
  have hl := len_byte s
  refine ⟨ret_nat ?_, m + n, by rw [hw, World.drewN_drewN]⟩
  rw [lenF_step h12 (i := j + 1) _ (by omega), get_byte s (j + 1) hk, if_neg (by rw [hx]; simp)] at h
  omega

set_option maxRecDepth 100000 in
set_option maxHeartbeats 1600000 in
theorem lengthOf_any (k : Int) (h12 : k = 1 ∨ k = 2) (s : ByteArray) (w : World) (hs : s.size ≤ 1000000) (hN : Nl s.data.toList) (h2 : 1 < s.size) : Calls Try.prog 79 #[.int .i64 k, .string s] w (NatDrew (lenF k (s.data.toList.getD 0 0) (s.data.toList.drop 1) + 1) w) := by
  have HN := Lib.hid hN
  have H12 := Lib.hid h12
  clear hN h12
  go_enter Try.func79, Try.ntmps79
  go_wp2
  go_loopw [5] (fun i w' => LenRel k s i ∧ ∃ n, w' = w.drewN n) (fun i _ => s.size - (intOf i).toNat)
  case atStart => exact ⟨⟨1, rfl, by omega, h2, rfl⟩, 0, rfl⟩
  case round =>
    obtain ⟨⟨q, rfl, hk1, hk, hw⟩, m, hwr⟩ := hrel
    have HWR := Lib.hid hwr
    clear hwr
    obtain ⟨j, rfl⟩ : ∃ j, q = j + 1 := ⟨q - 1, by omega⟩
    have hki : ((j : Int) + 1) < (s.size : Int) := by omega
    have hk0 : (0 : Int) ≤ (j : Int) + 1 := by omega
    have htn : ((j : Int) + 1).toNat = j + 1 := by omega
    have hsub : IntKind.i64.wrap (j : Int) = (j : Int) := IntWalk.i64_in _ (by omega)
    have hj : j < s.size := by omega
    have hp : s.data.toList.getD j 0 = s[j] := get_byte s j hj
    rw [show j + 1 - 1 = j from rfl, hp] at hw
    have HW := Lib.hid hw
    clear hw hp
    cases hx : goOn k s[j] s[j + 1] with
    | true =>
      have HGO := Lib.hid (goesOn_is hx)
      have HX := Lib.hid hx
      clear hx
      go_wp2_with (fail)
      go_quiet ((go_at_call 87; exact quiet_bdrew (HGO.out _)))
      go_wp2
      go_roundw
      case rel => exact len_fin H12.out HN.out HWR.out hk HW.out HX.out
      case measure => simp [intOf]; omega
    | false =>
      have HGO := Lib.hid (goesOn_is hx)
      have HX := Lib.hid hx
      clear hx
      go_wp2_with (fail)
      go_quiet ((go_at_call 87; exact quiet_bdrew (HGO.out _)))
      go_wp2
      go_ret
      exact len_done H12.out HWR.out hk HW.out HX.out
theorem wordLen_any (s : ByteArray) (w : World) (hs : s.size ≤ 1000000) (hN : Nl s.data.toList) (h2 : 1 < s.size) : Calls Try.prog 79 #[.int .i64 1, .string s] w (NatDrew (wordN (s.data.toList.drop 1) + 1) w) := lengthOf_any 1 (.inl rfl) s w hs hN h2
theorem numberLen_any (s : ByteArray) (w : World) (hs : s.size ≤ 1000000) (hN : Nl s.data.toList) (h2 : 1 < s.size) : Calls Try.prog 79 #[.int .i64 2, .string s] w (NatDrew (numN (s.data.toList.getD 0 0) (s.data.toList.drop 1) + 1) w) := lengthOf_any 2 (.inr rfl) s w hs hN h2

end Go.Proofs.Ytobplffailbkbaa

/-
  Punctuators of the project; what begins somewhere.
-/
namespace Go.Proofs.Ytobplffailbkbaa
open Go.RowKit

def isPun (l : List UInt8) : Bool := PL.contains l

theorem pun_yes {s : ByteArray} {L : List UInt8} {w : World} (h : (s.toList == L) = true) (hL : PL.contains L = true) : BoolPost (isPun s.data.toList) w (.returned (.bool true)) w := by
  rw [beq_iff_eq, ByteArray.toList_eq] at h
  unfold isPun
  rw [h, hL]
  exact ⟨rfl, rfl⟩

theorem two_ways {b : Bool} (h1 : b = true) (h2 : b = false) : False := by rw [h1] at h2; cases h2

set_option maxRecDepth 100000 in
set_option maxHeartbeats 3200000 in
theorem isPunct_any (s : ByteArray) (w : World) : Calls Try.prog 91 #[.string s] w (BoolPost (isPun s.data.toList) w) := by
  go_enter Try.func91, Try.ntmps91
  go_wp2
  all_goals first
    | (exfalso; apply two_ways; assumption; assumption)
    | (go_ret; apply pun_yes; assumption; rfl)
    | (go_ret; refine ⟨ret_bool ?_, rfl⟩; unfold isPun; rw [← ByteArray.toList_eq]; simp only [PL, List.contains_cons, List.contains_nil, Bool.or_false]; simp only [*]; rfl)

def punL (l : List UInt8) : Nat → Nat
  | 0 => 0
  | n + 1 => if isPun (l.take (n + 1)) then n + 1 else punL l n

theorem find_first {f : List UInt8 → Bool} : ∀ {P : List (List UInt8)} {p : List UInt8}, P.Pairwise (fun a b => b.length ≤ a.length) → P.find? f = some p → ∀ q ∈ P, f q = true → q.length ≤ p.length
  | [], _, _, h, _, _, _ => by cases h
  | a :: r, p, hp, h, q, hq, hf => by
    rw [List.pairwise_cons] at hp
    rw [List.find?_cons] at h
    cases ha : f a with
    | true =>
      rw [ha] at h
      cases h
      rcases List.mem_cons.1 hq with rfl | h1
      · exact Nat.le_refl _
      · exact hp.1 q h1
    | false =>
      rw [ha] at h
      rcases List.mem_cons.1 hq with rfl | h1
      · rw [ha] at hf; cases hf
      · exact find_first hp.2 h q h1 hf

theorem PL_sorted : PL.Pairwise (fun a b => b.length ≤ a.length) := by decide

theorem isPun_mem {l : List UInt8} (h : isPun l = true) : l ∈ PL := by
  unfold isPun at h
  exact List.contains_iff_mem.1 h
theorem isPun_of {l : List UInt8} (h : l ∈ PL) : isPun l = true := List.contains_iff_mem.2 h

theorem pun_ge {l : List UInt8} {n : Nat} (hn : n ≤ l.length) (h : isPun (l.take n) = true) : n ≤ punctN l := by
  unfold punctN
  have hm := isPun_mem h
  have hl : (l.take n).length = n := by rw [List.length_take]; omega
  have hp : (l.take n).isPrefixOf l = true := List.isPrefixOf_iff_prefix.2 (List.take_prefix n l)
  split
  · rename_i p hf
    have := find_first PL_sorted hf _ hm hp
    rw [hl] at this
    exact this
  · rename_i hf
    rw [List.find?_eq_none] at hf
    exact absurd hp (hf _ hm)

theorem pun_take {l : List UInt8} (h : 0 < punctN l) : isPun (l.take (punctN l)) = true := by
  obtain ⟨p, hm, hp, hl⟩ := punctN_is h
  obtain ⟨r, rfl⟩ := hp
  rw [← hl, List.take_left]
  exact isPun_of hm

theorem punL_eq {l : List UInt8} : ∀ n, n ≤ l.length → punctN l ≤ n → punL l n = punctN l
  | 0, _, h => by
    unfold punL
    omega
  | n + 1, hn, h => by
    unfold punL
    split
    · rename_i h1
      have := pun_ge hn h1
      omega
    · rename_i h1
      refine punL_eq n (by omega) ?_
      rcases Nat.lt_or_ge n (punctN l) with h2 | h2
      · exfalso
        apply h1
        rw [show n + 1 = punctN l from by omega]
        exact pun_take (by omega)
      · exact h2

theorem punctN_le (l : List UInt8) : punctN l ≤ 4 ∧ punctN l ≤ l.length := by
  rcases Nat.eq_zero_or_pos (punctN l) with h | h
  · omega
  · obtain ⟨p, hm, hp, hl⟩ := punctN_is h
    have := PL_len p hm
    have := hp.length_le
    omega

theorem take_extract (s : ByteArray) (n : Nat) : (s.extract 0 n).data.toList = s.data.toList.take n := by
  simp

def PunRel (s : ByteArray) (i : Value) : Prop := ∃ k : Nat, i = .int .i64 (k : Int) ∧ k ≤ s.size ∧ k ≤ 4 ∧ punL s.data.toList k = punctN s.data.toList

theorem pun_start {s : ByteArray} : PunRel s (.int .i64 (min 4 (s.size : Int))) := by
  have h := punctN_le s.data.toList
  have hl := len_byte s
  rw [hl] at h
  by_cases h4 : 4 ≤ s.size
  · exact ⟨4, by rw [show min 4 (s.size : Int) = ((4 : Nat) : Int) from by omega], h4, Nat.le_refl _, punL_eq 4 (by omega) h.1⟩
  · exact ⟨s.size, by rw [show min 4 (s.size : Int) = (s.size : Int) from by omega], Nat.le_refl _, by omega, punL_eq _ (by omega) h.2⟩

theorem isPunct_is {s : ByteArray} {b : Bool} (h : isPun s.data.toList = b) (W : World) : Calls Try.prog 91 #[.string s] W (BoolPost b W) := h ▸ isPunct_any s W

set_option maxRecDepth 100000 in
set_option maxHeartbeats 800000 in
theorem punctLen_any (s : ByteArray) (w : World) (_hs : s.size ≤ 1000000) : Calls Try.prog 81 #[.string s] w (NatPost (punctN s.data.toList) w) := by
  have hl := len_byte s
  have HLN := Lib.hid hl
  clear hl
  go_enter Try.func81, Try.ntmps81
  go_wp2
  go_loop [3] (PunRel s) (fun i => (intOf i).toNat)
  case atStart => exact pun_start
  case round =>
    obtain ⟨k, rfl, hk, hk4, hp⟩ := hrel
    have HP := Lib.hid hp
    clear hp
    cases k with
    | zero =>
      go_wp2
      go_ret
      exact ⟨ret_nat (by rw [← HP.out]; rfl), rfl⟩
    | succ k =>
      have hk0 : (0 : Int) < (k : Int) + 1 := by omega
      have hk1 : (k : Int) + 1 ≤ (s.size : Int) := by omega
      cases hb : isPun (s.data.toList.take (k + 1)) with
      | true =>
        have HI := Lib.hid (fun W => isPunct_is (s := s.extract 0 (k + 1)) (b := true) (by rw [take_extract]; exact hb) W)
        have HE : Hid (((k : Int) + 1) = (punctN s.data.toList : Int)) := Lib.hid (by
          rw [← HP.out]
          unfold punL
          rw [if_pos hb]
          rfl)
        clear hb
        go_wp2_with (go_at_call 91; (with_reducible refine (HI.out _).mono ?_); rintro e w' ⟨rfl, rfl⟩)
        go_ret
        exact ⟨ret_nat HE.out, rfl⟩
      | false =>
        have HI := Lib.hid (fun W => isPunct_is (s := s.extract 0 (k + 1)) (b := false) (by rw [take_extract]; exact hb) W)
        have HE : Hid (punL s.data.toList k = punctN s.data.toList) := Lib.hid (by
          rw [← HP.out]
          show punL s.data.toList k = if isPun (s.data.toList.take (k + 1)) then k + 1 else punL s.data.toList k
          rw [if_neg (by rw [hb]; simp)])
        clear hb
        go_wp2_with (go_at_call 91; (with_reducible refine (HI.out _).mono ?_); rintro e w' ⟨rfl, rfl⟩)
        go_round
        case rel => exact ⟨k, rfl, by omega, by omega, HE.out⟩
        case measure => simp [intOf]

theorem hasPrefix2 {s : ByteArray} {a b : UInt8} (h0 : a ≠ 0) (h1 : b ≠ 0) : Lib.hasPrefix s.data.toList [a, b] = decide (s.data.toList.getD 0 0 = a ∧ s.data.toList.getD 1 0 = b) := by
  unfold Lib.hasPrefix
  cases s.data.toList with
  | nil => simp [h0.symm]
  | cons x r =>
    cases r with
    | nil => simp [List.isPrefixOf, h1.symm]
    | cons y r =>
      rw [Bool.eq_iff_iff, decide_eq_true_eq]
      show (a == x && (b == y && true)) = true ↔ x = a ∧ y = b
      rw [Bool.and_true, Bool.and_eq_true, beq_iff_eq, beq_iff_eq]
      exact ⟨fun h => ⟨h.1.symm, h.2.symm⟩, fun h => ⟨h.1.symm, h.2.symm⟩⟩

theorem prefix_is {s p : ByteArray} {b : Bool} (h : Lib.hasPrefix s.data.toList p.data.toList = b) (W : World) : Calls Try.prog 76 #[.string s, .string p] W (BoolPost b W) := by
  refine (Try.strings_HasPrefix s p W).mono ?_
  rintro e w' ⟨rfl, rfl⟩
  rw [h]
  exact ⟨rfl, rfl⟩

theorem byte_eqB {c : UInt8} {n : Nat} (hn : n < 256) (h : c = UInt8.ofNat n) : (((c.toNat : Nat) : Int) == (n : Int)) = true := by
  rw [beq_iff_eq, h]
  simp
  omega
theorem byte_neB {c : UInt8} {n : Nat} (hn : n < 256) (h : ¬ c = UInt8.ofNat n) : (((c.toNat : Nat) : Int) == (n : Int)) = false := by
  simp only [beq_eq_false_iff_ne]
  intro e
  apply h
  apply UInt8.toNat_inj.1
  simp
  omega

set_option maxRecDepth 100000 in
set_option maxHeartbeats 800000 in
theorem begins_any (s : ByteArray) (w : World) (_hs : s.size ≤ 1000000) (h0 : 0 < s.size) : Calls Try.prog 57 #[.string s] w (NatPost (begN s.data.toList) w) := by
  have hg := get_byte s 0 h0
  have hp1 := hasPrefix2 (s := s) (a := 47) (b := 47) (by decide) (by decide)
  have hp2 := hasPrefix2 (s := s) (a := 47) (b := 42) (by decide) (by decide)
  have h0i : (0 : Int) < (s.size : Int) := by omega
  unfold begN
  rw [hg]
  rw [hg] at hp1 hp2
  by_cases h10 : s[0] = 10
  · have hb := byte_eqB (n := 10) (by omega) h10
    rw [if_pos h10]
    clear hp1 hp2 h10 hg
    go_enter Try.func57, Try.ntmps57
    go_wp2
    go_ret
    exact ⟨rfl, rfl⟩
  · have hb := byte_neB (n := 10) (by omega) h10
    rw [if_neg h10]
    have HG := Lib.hid hg
    clear h10 hg
    cases hw : isWhi s[0] with
    | true =>
      have HW := Lib.hid (white_is hw)
      rw [if_pos rfl]
      clear hp1 hp2 hw
      go_enter Try.func57, Try.ntmps57
      go_wp2_with (go_at_call 75; (with_reducible refine (HW.out _).mono ?_); rintro e w' ⟨rfl, rfl⟩)
      go_ret
      exact ⟨rfl, rfl⟩
    | false =>
      have HW := Lib.hid (white_is hw)
      rw [if_neg (by simp)]
      clear hw
      by_cases hr : s[0] = 47 ∧ s.data.toList.getD 1 0 = 47
      · rw [decide_eq_true hr] at hp1
        have HP := Lib.hid (fun W => prefix_is (s := s) (p := ⟨#[47, 47]⟩) hp1 W)
        rw [if_pos hr]
        clear hp1 hp2 hr
        go_enter Try.func57, Try.ntmps57
        go_wp2_with (first
          | (go_at_call 75; (with_reducible refine (HW.out _).mono ?_); rintro e w' ⟨rfl, rfl⟩)
          | (go_at_call 76; (with_reducible refine (HP.out _).mono ?_); rintro e w' ⟨rfl, rfl⟩))
        go_ret
        exact ⟨rfl, rfl⟩
      · rw [decide_eq_false hr] at hp1
        have HP := Lib.hid (fun W => prefix_is (s := s) (p := ⟨#[47, 47]⟩) hp1 W)
        rw [if_neg hr]
        clear hp1 hr
        by_cases hc : s[0] = 47 ∧ s.data.toList.getD 1 0 = 42
        · rw [decide_eq_true hc] at hp2
          have HC := Lib.hid (fun W => prefix_is (s := s) (p := ⟨#[47, 42]⟩) hp2 W)
          rw [if_pos hc]
          clear hp2 hc
          go_enter Try.func57, Try.ntmps57
          go_wp2_with (first
            | (go_at_call 75; (with_reducible refine (HW.out _).mono ?_); rintro e w' ⟨rfl, rfl⟩)
            | (go_at_call 76; (with_reducible refine (HP.out _).mono ?_); rintro e w' ⟨rfl, rfl⟩)
            | (go_at_call 76; (with_reducible refine (HC.out _).mono ?_); rintro e w' ⟨rfl, rfl⟩))
          go_ret
          exact ⟨rfl, rfl⟩
        · rw [decide_eq_false hc] at hp2
          have HC := Lib.hid (fun W => prefix_is (s := s) (p := ⟨#[47, 42]⟩) hp2 W)
          rw [if_neg hc]
          clear hp2 hc
          go_enter Try.func57, Try.ntmps57
          go_wp2_with (first
            | (go_at_call 75; (with_reducible refine (HW.out _).mono ?_); rintro e w' ⟨rfl, rfl⟩)
            | (go_at_call 76; (with_reducible refine (HP.out _).mono ?_); rintro e w' ⟨rfl, rfl⟩)
            | (go_at_call 76; (with_reducible refine (HC.out _).mono ?_); rintro e w' ⟨rfl, rfl⟩))
          go_ret
          exact ⟨rfl, rfl⟩

/-- What is ahead of a quote. -/
def u8q (l : List UInt8) : Bool := Lib.hasPrefix l [117, 56, 34]
theorem u8q_is (l : List UInt8) : u8q l = decide (l.getD 0 0 = 117 ∧ l.getD 1 0 = 56 ∧ l.getD 2 0 = 34) := by
  unfold u8q Lib.hasPrefix
  rw [Bool.eq_iff_iff, decide_eq_true_eq]
  rcases l with _ | ⟨x, _ | ⟨y, _ | ⟨z, r⟩⟩⟩
  · simp [List.isPrefixOf]
  · simp [List.isPrefixOf]
  · simp [List.isPrefixOf]
  · show (117 == x && (56 == y && (34 == z && true))) = true ↔ x = 117 ∧ y = 56 ∧ z = 34
    rw [Bool.and_true, Bool.and_eq_true, Bool.and_eq_true, beq_iff_eq, beq_iff_eq, beq_iff_eq]
    exact ⟨fun h => ⟨h.1.symm, h.2.1.symm, h.2.2.symm⟩, fun h => ⟨h.1.symm, h.2.1.symm, h.2.2.symm⟩⟩

theorem lett_two {l : List UInt8} (h : u8q l = true) : lettN l = 2 := by
  rw [u8q_is, decide_eq_true_eq] at h
  unfold lettN
  rw [if_pos h]
theorem lett_is {l : List UInt8} (h : u8q l = false) : lettN l = if ((l.getD 0 0).toNat = 76 ∨ (l.getD 0 0).toNat = 117 ∨ (l.getD 0 0).toNat = 85) ∧ ((l.getD 1 0).toNat = 34 ∨ (l.getD 1 0).toNat = 39) then 1 else 0 := by
  rw [u8q_is, decide_eq_false_iff_not] at h
  have e : ∀ (c : UInt8) (n : Nat), n < 256 → (c = UInt8.ofNat n ↔ c.toNat = n) := by
    intro c n hn
    constructor
    · rintro rfl
      simp
      omega
    · intro h
      apply UInt8.toNat_inj.1
      simp
      omega
  unfold lettN
  rw [if_neg h]
  have e1 := e (l.getD 0 0) 76 (by omega)
  have e2 := e (l.getD 0 0) 117 (by omega)
  have e3 := e (l.getD 0 0) 85 (by omega)
  have e4 := e (l.getD 1 0) 34 (by omega)
  have e5 := e (l.getD 1 0) 39 (by omega)
  by_cases hc : (l.getD 0 0 = 76 ∨ l.getD 0 0 = 117 ∨ l.getD 0 0 = 85) ∧ (l.getD 1 0 = 34 ∨ l.getD 1 0 = 39)
  · rw [if_pos hc, if_pos]
    exact ⟨hc.1.imp e1.1 (Or.imp e2.1 e3.1), hc.2.imp e4.1 e5.1⟩
  · rw [if_neg hc, if_neg]
    intro h2
    exact hc ⟨h2.1.imp e1.2 (Or.imp e2.2 e3.2), h2.2.imp e4.2 e5.2⟩

set_option maxRecDepth 100000 in
set_option maxHeartbeats 1600000 in
theorem lettersAhead_any (s : ByteArray) (w : World) (_hs : s.size ≤ 1000000) (hN : Nl s.data.toList) : Calls Try.prog 89 #[.string s] w (NatPost (lettN s.data.toList) w) := by
  have h0 : 0 < s.size := by have := hN.1; rw [len_byte] at this; exact this
  have hg := get_byte s 0 h0
  have h0i : (0 : Int) < (s.size : Int) := by omega
  cases hu : u8q s.data.toList with
  | true =>
    have HP := Lib.hid (fun W => prefix_is (s := s) (p := ⟨#[117, 56, 34]⟩) hu W)
    rw [lett_two hu]
    clear hu hg hN
    go_enter Try.func89, Try.ntmps89
    go_wp2_with (go_at_call 76; (with_reducible refine (HP.out _).mono ?_); rintro e w' ⟨rfl, rfl⟩)
    go_ret
    exact ⟨rfl, rfl⟩
  | false =>
    have HP := Lib.hid (fun W => prefix_is (s := s) (p := ⟨#[117, 56, 34]⟩) hu W)
    have hli := lett_is hu
    rw [hg] at hli
    by_cases h10 : s[0] = 10
    · have e : lettN s.data.toList = 0 := by rw [hli, h10, if_neg]; rintro ⟨h, -⟩; revert h; decide
      rw [e]
      have b1 : (((s[0].toNat : Nat) : Int) == 76) = false := by rw [h10]; rfl
      have b2 : (((s[0].toNat : Nat) : Int) == 117) = false := by rw [h10]; rfl
      have b3 : (((s[0].toNat : Nat) : Int) == 85) = false := by rw [h10]; rfl
      clear hu hg hN h10 e hli
      go_enter Try.func89, Try.ntmps89
      go_wp2_with (go_at_call 76; (with_reducible refine (HP.out _).mono ?_); rintro e w' ⟨rfl, rfl⟩)
      go_ret
      exact ⟨rfl, rfl⟩
    · have h1 : 1 < s.size := by
        have := hN.two (by rw [hg]; exact h10)
        rw [len_byte] at this
        exact this
      have h1i : (1 : Int) < (s.size : Int) := by omega
      rw [get_byte s 1 h1] at hli
      have HF := Lib.hid hli
      clear hN h10 hu hg hli
      go_enter Try.func89, Try.ntmps89
      go_wp2_with (go_at_call 76; (with_reducible refine (HP.out _).mono ?_); rintro e w' ⟨rfl, rfl⟩)
      all_goals
        go_ret
        refine ⟨ret_nat ?_, rfl⟩
        rw [HF.out]
        try simp only [beq_iff_eq, beq_eq_false_iff_ne] at *
        first
          | (rw [if_pos (by omega)]; rfl)
          | (rw [if_neg (by omega)]; rfl)

end Go.Proofs.Ytobplffailbkbaa
