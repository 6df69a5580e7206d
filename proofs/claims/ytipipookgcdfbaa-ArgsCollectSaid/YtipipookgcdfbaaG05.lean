/-
  Texts of the proof, put together: LxP.
-/
import Derived.Test.YtipipookgcdfbaaG04

/-
  Punctuators of the project; what begins somewhere.
-/
namespace Go.Proofs.Ytipipookgcdfbaa
open Go.RowKit

def isPun (l : List UInt8) : Bool := PL.contains l

theorem pun_yes {s : ByteArray} {L : List UInt8} {w : World} (h : (s.toList == L) = true) (hL : PL.contains L = true) : BoolPost (isPun s.data.toList) w (.returned (.bool true)) w := by
  rw [beq_iff_eq, ByteArray.toList_eq] at h
  unfold isPun
  rw [h, hL]
  exact ⟨rfl, rfl⟩

theorem two_ways {b : Bool} (h1 : b = true) (h2 : b = false) : False := by rw [h1] at h2; cases h2

set_option maxRecDepth 100000 in
set_option maxHeartbeats 3200000 in
theorem isPunct_any (s : ByteArray) (w : World) : Calls Try.prog 80 #[.string s] w (BoolPost (isPun s.data.toList) w) := by
  go_enter Try.func80, Try.ntmps80
  go_wp2
  all_goals first
    | (exfalso; apply two_ways; assumption; assumption)
    | (go_ret; apply pun_yes; assumption; rfl)
    | (go_ret; refine ⟨ret_bool ?_, rfl⟩; unfold isPun; rw [← ByteArray.toList_eq]; simp only [PL, List.contains_cons, List.contains_nil, Bool.or_false]; simp only [*]; rfl)

def punL (l : List UInt8) : Nat → Nat
  | 0 => 0
  | n + 1 => if isPun (l.take (n + 1)) then n + 1 else punL l n

theorem find_first {f : List UInt8 → Bool} : ∀ {P : List (List UInt8)} {p : List UInt8}, P.Pairwise (fun a b => b.length ≤ a.length) → P.find? f = some p → ∀ q ∈ P, f q = true → q.length ≤ p.length
  | [], _, _, h, _, _, _ => by cases h
  | a :: r, p, hp, h, q, hq, hf => by
    rw [List.pairwise_cons] at hp
    rw [List.find?_cons] at h
    cases ha : f a with
    | true =>
      rw [ha] at h
      cases h
      rcases List.mem_cons.1 hq with rfl | h1
      · exact Nat.le_refl _
      · exact hp.1 q h1
    | false =>
      rw [ha] at h
      rcases List.mem_cons.1 hq with rfl | h1
      · rw [ha] at hf; cases hf
      · exact find_first hp.2 h q h1 hf

theorem PL_sorted : PL.Pairwise (fun a b => b.length ≤ a.length) := by decide

theorem isPun_mem {l : List UInt8} (h : isPun l = true) : l ∈ PL := by
  unfold isPun at h
  exact List.contains_iff_mem.1 h
theorem isPun_of {l : List UInt8} (h : l ∈ PL) : isPun l = true := List.contains_iff_mem.2 h

theorem pun_ge {l : List UInt8} {n : Nat} (hn : n ≤ l.length) (h : isPun (l.take n) = true) : n ≤ punctN l := by
  unfold punctN
  have hm := isPun_mem h
  have hl : (l.take n).length = n := by rw [List.length_take]; omega
  have hp : (l.take n).isPrefixOf l = true := List.isPrefixOf_iff_prefix.2 (List.take_prefix n l)
  split
  · rename_i p hf
    have := find_first PL_sorted hf _ hm hp
    rw [hl] at this
    exact this
  · rename_i hf
    rw [List.find?_eq_none] at hf
    exact absurd hp (hf _ hm)

theorem pun_take {l : List UInt8} (h : 0 < punctN l) : isPun (l.take (punctN l)) = true := by
  obtain ⟨p, hm, hp, hl⟩ := punctN_is h
  obtain ⟨r, rfl⟩ := hp
  rw [← hl, List.take_left]
  exact isPun_of hm

theorem punL_eq {l : List UInt8} : ∀ n, n ≤ l.length → punctN l ≤ n → punL l n = punctN l
  | 0, _, h => by
    unfold punL
    omega
  | n + 1, hn, h => by
    unfold punL
    split
    · rename_i h1
      have := pun_ge hn h1
      omega
    · rename_i h1
      refine punL_eq n (by omega) ?_
      rcases Nat.lt_or_ge n (punctN l) with h2 | h2
      · exfalso
        apply h1
        rw [show n + 1 = punctN l from by omega]
        exact pun_take (by omega)
      · exact h2

theorem punctN_le (l : List UInt8) : punctN l ≤ 4 ∧ punctN l ≤ l.length := by
  rcases Nat.eq_zero_or_pos (punctN l) with h | h
  · omega
  · obtain ⟨p, hm, hp, hl⟩ := punctN_is h
    have := PL_len p hm
    have := hp.length_le
    omega

theorem take_extract (s : ByteArray) (n : Nat) : (s.extract 0 n).data.toList = s.data.toList.take n := by
  simp

def PunRel (s : ByteArray) (i : Value) : Prop := ∃ k : Nat, i = .int .i64 (k : Int) ∧ k ≤ s.size ∧ k ≤ 4 ∧ punL s.data.toList k = punctN s.data.toList

theorem pun_start {s : ByteArray} : PunRel s (.int .i64 (min 4 (s.size : Int))) := by
  have h := punctN_le s.data.toList
  have hl := len_byte s
  rw [hl] at h
  by_cases h4 : 4 ≤ s.size
  · exact ⟨4, by rw [show min 4 (s.size : Int) = ((4 : Nat) : Int) from by omega], h4, Nat.le_refl _, punL_eq 4 (by omega) h.1⟩
  · exact ⟨s.size, by rw [show min 4 (s.size : Int) = (s.size : Int) from by omega], Nat.le_refl _, by omega, punL_eq _ (by omega) h.2⟩

theorem isPunct_is {s : ByteArray} {b : Bool} (h : isPun s.data.toList = b) (W : World) : Calls Try.prog 80 #[.string s] W (BoolPost b W) := h ▸ isPunct_any s W

set_option maxRecDepth 100000 in
set_option maxHeartbeats 800000 in
theorem punctLen_any (s : ByteArray) (w : World) (_hs : s.size ≤ 1000000) : Calls Try.prog 70 #[.string s] w (NatPost (punctN s.data.toList) w) := by
  have hl := len_byte s
  have HLN := Lib.hid hl
  clear hl
  go_enter Try.func70, Try.ntmps70
  go_wp2
  go_loop [3] (PunRel s) (fun i => (intOf i).toNat)
  case atStart => exact pun_start
  case round =>
    obtain ⟨k, rfl, hk, hk4, hp⟩ := hrel
    have HP := Lib.hid hp
    clear hp
    cases k with
    | zero =>
      go_wp2
      go_ret
      exact ⟨ret_nat (by rw [← HP.out]; rfl), rfl⟩
    | succ k =>
      have hk0 : (0 : Int) < (k : Int) + 1 := by omega
      have hk1 : (k : Int) + 1 ≤ (s.size : Int) := by omega
      cases hb : isPun (s.data.toList.take (k + 1)) with
      | true =>
        have HI := Lib.hid (fun W => isPunct_is (s := s.extract 0 (k + 1)) (b := true) (by rw [take_extract]; exact hb) W)
        have HE : Hid (((k : Int) + 1) = (punctN s.data.toList : Int)) := Lib.hid (by
          rw [← HP.out]
          unfold punL
          rw [if_pos hb]
          rfl)
        clear hb
        go_wp2_with (go_at_call 80; (with_reducible refine (HI.out _).mono ?_); rintro e w' ⟨rfl, rfl⟩)
        go_ret
        exact ⟨ret_nat HE.out, rfl⟩
      | false =>
        have HI := Lib.hid (fun W => isPunct_is (s := s.extract 0 (k + 1)) (b := false) (by rw [take_extract]; exact hb) W)
        have HE : Hid (punL s.data.toList k = punctN s.data.toList) := Lib.hid (by
          rw [← HP.out]
          show punL s.data.toList k = if isPun (s.data.toList.take (k + 1)) then k + 1 else punL s.data.toList k
          rw [if_neg (by rw [hb]; simp)])
        clear hb
        go_wp2_with (go_at_call 80; (with_reducible refine (HI.out _).mono ?_); rintro e w' ⟨rfl, rfl⟩)
        go_round
        case rel => exact ⟨k, rfl, by omega, by omega, HE.out⟩
        case measure => simp [intOf]

theorem hasPrefix2 {s : ByteArray} {a b : UInt8} (h0 : a ≠ 0) (h1 : b ≠ 0) : Lib.hasPrefix s.data.toList [a, b] = decide (s.data.toList.getD 0 0 = a ∧ s.data.toList.getD 1 0 = b) := by
  unfold Lib.hasPrefix
  cases s.data.toList with
  | nil => simp [h0.symm]
  | cons x r =>
    cases r with
    | nil => simp [List.isPrefixOf, h1.symm]
    | cons y r =>
      rw [Bool.eq_iff_iff, decide_eq_true_eq]
      show (a == x && (b == y && true)) = true ↔ x = a ∧ y = b
      rw [Bool.and_true, Bool.and_eq_true, beq_iff_eq, beq_iff_eq]
      exact ⟨fun h => ⟨h.1.symm, h.2.symm⟩, fun h => ⟨h.1.symm, h.2.symm⟩⟩

theorem prefix_is {s p : ByteArray} {b : Bool} (h : Lib.hasPrefix s.data.toList p.data.toList = b) (W : World) : Calls Try.prog 65 #[.string s, .string p] W (BoolPost b W) := by
  refine (Try.strings_HasPrefix s p W).mono ?_
  rintro e w' ⟨rfl, rfl⟩
  rw [h]
  exact ⟨rfl, rfl⟩

theorem byte_eqB {c : UInt8} {n : Nat} (hn : n < 256) (h : c = UInt8.ofNat n) : (((c.toNat : Nat) : Int) == (n : Int)) = true := by
  rw [beq_iff_eq, h]
  simp
  omega
theorem byte_neB {c : UInt8} {n : Nat} (hn : n < 256) (h : ¬ c = UInt8.ofNat n) : (((c.toNat : Nat) : Int) == (n : Int)) = false := by
  simp only [beq_eq_false_iff_ne]
  intro e
  apply h
  apply UInt8.toNat_inj.1
  simp
  omega

set_option maxRecDepth 100000 in
set_option maxHeartbeats 800000 in
theorem begins_any (s : ByteArray) (w : World) (_hs : s.size ≤ 1000000) (h0 : 0 < s.size) : Calls Try.prog 47 #[.string s] w (NatPost (begN s.data.toList) w) := by
  have hg := get_byte s 0 h0
  have hp1 := hasPrefix2 (s := s) (a := 47) (b := 47) (by decide) (by decide)
  have hp2 := hasPrefix2 (s := s) (a := 47) (b := 42) (by decide) (by decide)
  have h0i : (0 : Int) < (s.size : Int) := by omega
  unfold begN
  rw [hg]
  rw [hg] at hp1 hp2
  by_cases h10 : s[0] = 10
  · have hb := byte_eqB (n := 10) (by omega) h10
    rw [if_pos h10]
    clear hp1 hp2 h10 hg
    go_enter Try.func47, Try.ntmps47
    go_wp2
    go_ret
    exact ⟨rfl, rfl⟩
  · have hb := byte_neB (n := 10) (by omega) h10
    rw [if_neg h10]
    have HG := Lib.hid hg
    clear h10 hg
    cases hw : isWhi s[0] with
    | true =>
      have HW := Lib.hid (white_is hw)
      rw [if_pos rfl]
      clear hp1 hp2 hw
      go_enter Try.func47, Try.ntmps47
      go_wp2_with (go_at_call 64; (with_reducible refine (HW.out _).mono ?_); rintro e w' ⟨rfl, rfl⟩)
      go_ret
      exact ⟨rfl, rfl⟩
    | false =>
      have HW := Lib.hid (white_is hw)
      rw [if_neg (by simp)]
      clear hw
      by_cases hr : s[0] = 47 ∧ s.data.toList.getD 1 0 = 47
      · rw [decide_eq_true hr] at hp1
        have HP := Lib.hid (fun W => prefix_is (s := s) (p := ⟨#[47, 47]⟩) hp1 W)
        rw [if_pos hr]
        clear hp1 hp2 hr
        go_enter Try.func47, Try.ntmps47
        go_wp2_with (first
          | (go_at_call 64; (with_reducible refine (HW.out _).mono ?_); rintro e w' ⟨rfl, rfl⟩)
          | (go_at_call 65; (with_reducible refine (HP.out _).mono ?_); rintro e w' ⟨rfl, rfl⟩))
        go_ret
        exact ⟨rfl, rfl⟩
      · rw [decide_eq_false hr] at hp1
        have HP := Lib.hid (fun W => prefix_is (s := s) (p := ⟨#[47, 47]⟩) hp1 W)
        rw [if_neg hr]
        clear hp1 hr
        by_cases hc : s[0] = 47 ∧ s.data.toList.getD 1 0 = 42
        · rw [decide_eq_true hc] at hp2
          have HC := Lib.hid (fun W => prefix_is (s := s) (p := ⟨#[47, 42]⟩) hp2 W)
          rw [if_pos hc]
          clear hp2 hc
          go_enter Try.func47, Try.ntmps47
          go_wp2_with (first
            | (go_at_call 64; (with_reducible refine (HW.out _).mono ?_); rintro e w' ⟨rfl, rfl⟩)
            | (go_at_call 65; (with_reducible refine (HP.out _).mono ?_); rintro e w' ⟨rfl, rfl⟩)
            | (go_at_call 65; (with_reducible refine (HC.out _).mono ?_); rintro e w' ⟨rfl, rfl⟩))
          go_ret
          exact ⟨rfl, rfl⟩
        · rw [decide_eq_false hc] at hp2
          have HC := Lib.hid (fun W => prefix_is (s := s) (p := ⟨#[47, 42]⟩) hp2 W)
          rw [if_neg hc]
          clear hp2 hc
          go_enter Try.func47, Try.ntmps47
          go_wp2_with (first
            | (go_at_call 64; (with_reducible refine (HW.out _).mono ?_); rintro e w' ⟨rfl, rfl⟩)
            | (go_at_call 65; (with_reducible refine (HP.out _).mono ?_); rintro e w' ⟨rfl, rfl⟩)
            | (go_at_call 65; (with_reducible refine (HC.out _).mono ?_); rintro e w' ⟨rfl, rfl⟩))
          go_ret
          exact ⟨rfl, rfl⟩

/-- What is ahead of a quote. -/
def u8q (l : List UInt8) : Bool := Lib.hasPrefix l [117, 56, 34]
theorem u8q_is (l : List UInt8) : u8q l = decide (l.getD 0 0 = 117 ∧ l.getD 1 0 = 56 ∧ l.getD 2 0 = 34) := by
  unfold u8q Lib.hasPrefix
  rw [Bool.eq_iff_iff, decide_eq_true_eq]
  rcases l with _ | ⟨x, _ | ⟨y, _ | ⟨z, r⟩⟩⟩
  · simp [List.isPrefixOf]
  · simp [List.isPrefixOf]
  · simp [List.isPrefixOf]
  · show (117 == x && (56 == y && (34 == z && true))) = true ↔ x = 117 ∧ y = 56 ∧ z = 34
    rw [Bool.and_true, Bool.and_eq_true, Bool.and_eq_true, beq_iff_eq, beq_iff_eq, beq_iff_eq]
    exact ⟨fun h => ⟨h.1.symm, h.2.1.symm, h.2.2.symm⟩, fun h => ⟨h.1.symm, h.2.1.symm, h.2.2.symm⟩⟩

theorem lett_two {l : List UInt8} (h : u8q l = true) : lettN l = 2 := by
  rw [u8q_is, decide_eq_true_eq] at h
  unfold lettN
  rw [if_pos h]
theorem lett_is {l : List UInt8} (h : u8q l = false) : lettN l = if ((l.getD 0 0).toNat = 76 ∨ (l.getD 0 0).toNat = 117 ∨ (l.getD 0 0).toNat = 85) ∧ ((l.getD 1 0).toNat = 34 ∨ (l.getD 1 0).toNat = 39) then 1 else 0 := by
  rw [u8q_is, decide_eq_false_iff_not] at h
  have e : ∀ (c : UInt8) (n : Nat), n < 256 → (c = UInt8.ofNat n ↔ c.toNat = n) := by
    intro c n hn
    constructor
    · rintro rfl
      simp
      omega
    · intro h
      apply UInt8.toNat_inj.1
      simp
      omega
  unfold lettN
  rw [if_neg h]
  have e1 := e (l.getD 0 0) 76 (by omega)
  have e2 := e (l.getD 0 0) 117 (by omega)
  have e3 := e (l.getD 0 0) 85 (by omega)
  have e4 := e (l.getD 1 0) 34 (by omega)
  have e5 := e (l.getD 1 0) 39 (by omega)
  by_cases hc : (l.getD 0 0 = 76 ∨ l.getD 0 0 = 117 ∨ l.getD 0 0 = 85) ∧ (l.getD 1 0 = 34 ∨ l.getD 1 0 = 39)
  · rw [if_pos hc, if_pos]
    exact ⟨hc.1.imp e1.1 (Or.imp e2.1 e3.1), hc.2.imp e4.1 e5.1⟩
  · rw [if_neg hc, if_neg]
    intro h2
    exact hc ⟨h2.1.imp e1.2 (Or.imp e2.2 e3.2), h2.2.imp e4.2 e5.2⟩

set_option maxRecDepth 100000 in
set_option maxHeartbeats 1600000 in
theorem lettersAhead_any (s : ByteArray) (w : World) (_hs : s.size ≤ 1000000) (hN : Nl s.data.toList) : Calls Try.prog 77 #[.string s] w (NatPost (lettN s.data.toList) w) := by
  have h0 : 0 < s.size := by have := hN.1; rw [len_byte] at this; exact this
  have hg := get_byte s 0 h0
  have h0i : (0 : Int) < (s.size : Int) := by omega
  cases hu : u8q s.data.toList with
  | true =>
    have HP := Lib.hid (fun W => prefix_is (s := s) (p := ⟨#[117, 56, 34]⟩) hu W)
    rw [lett_two hu]
    clear hu hg hN
    go_enter Try.func77, Try.ntmps77
    go_wp2_with (go_at_call 65; (with_reducible refine (HP.out _).mono ?_); rintro e w' ⟨rfl, rfl⟩)
    go_ret
    exact ⟨rfl, rfl⟩
  | false =>
    have HP := Lib.hid (fun W => prefix_is (s := s) (p := ⟨#[117, 56, 34]⟩) hu W)
    have hli := lett_is hu
    rw [hg] at hli
    by_cases h10 : s[0] = 10
    · have e : lettN s.data.toList = 0 := by rw [hli, h10, if_neg]; rintro ⟨h, -⟩; revert h; decide
      rw [e]
      have b1 : (((s[0].toNat : Nat) : Int) == 76) = false := by rw [h10]; rfl
      have b2 : (((s[0].toNat : Nat) : Int) == 117) = false := by rw [h10]; rfl
      have b3 : (((s[0].toNat : Nat) : Int) == 85) = false := by rw [h10]; rfl
      clear hu hg hN h10 e hli
      go_enter Try.func77, Try.ntmps77
      go_wp2_with (go_at_call 65; (with_reducible refine (HP.out _).mono ?_); rintro e w' ⟨rfl, rfl⟩)
      go_ret
      exact ⟨rfl, rfl⟩
    · have h1 : 1 < s.size := by
        have := hN.two (by rw [hg]; exact h10)
        rw [len_byte] at this
        exact this
      have h1i : (1 : Int) < (s.size : Int) := by omega
      rw [get_byte s 1 h1] at hli
      have HF := Lib.hid hli
      clear hN h10 hu hg hli
      go_enter Try.func77, Try.ntmps77
      go_wp2_with (go_at_call 65; (with_reducible refine (HP.out _).mono ?_); rintro e w' ⟨rfl, rfl⟩)
      all_goals
        go_ret
        refine ⟨ret_nat ?_, rfl⟩
        rw [HF.out]
        try simp only [beq_iff_eq, beq_eq_false_iff_ne] at *
        first
          | (rw [if_pos (by omega)]; rfl)
          | (rw [if_neg (by omega)]; rfl)

end Go.Proofs.Ytipipookgcdfbaa
