/-
  Texts of the proof, put together: RxN.
-/
import Derived.Test.YtobplffailbkbaaG15

/-
  The document's own number, walked.
-/
namespace Go.Proofs.Ytobplffailbkbaa
open Go.RowKit

/-- Where a number ends that begins at a place; the place itself, if none begins. -/
def rnum (l : List UInt8) (i : Nat) : Nat := if isDig (l.getD i 0) || (decide (l.getD i 0 = 46) && isDig (l.getD (i + 1) 0)) then i + 1 + numN (l.getD i 0) (l.drop (i + 1)) else i

theorem exp_cases {c : UInt8} (h : isExp c = true) : c = 101 ∨ c = 69 ∨ c = 112 ∨ c = 80 := by
  unfold isExp at h
  simp only [Bool.or_eq_true, decide_eq_true_eq] at h
  rcases h with ((h | h) | h) | h
  · exact .inl (UInt8.toNat_inj.1 h)
  · exact .inr (.inl (UInt8.toNat_inj.1 h))
  · exact .inr (.inr (.inl (UInt8.toNat_inj.1 h)))
  · exact .inr (.inr (.inr (UInt8.toNat_inj.1 h)))
theorem signB_cases {c : UInt8} (h : isSign c = true) : c = 43 ∨ c = 45 := by
  unfold isSign at h
  simp only [Bool.or_eq_true, decide_eq_true_eq] at h
  rcases h with h | h
  · exact .inl (UInt8.toNat_inj.1 h)
  · exact .inr (UInt8.toNat_inj.1 h)
theorem exp_word {c : UInt8} (h : isExp c = true) : isLet c = true := by
  rcases exp_cases h with rfl | rfl | rfl | rfl <;> rfl

theorem byte_bool {c : UInt8} {n : Nat} (hn : n < 256) (b : Bool) (h : decide (c = UInt8.ofNat n) = b) : (((c.toNat : Nat) : Int) == (n : Int)) = b := by
  cases b with
  | true => exact byte_eqB hn (of_decide_eq_true h)
  | false => exact byte_neB hn (of_decide_eq_false h)

def NumR (l : List UInt8) (i j : Nat) : Prop := i < j ∧ j ≤ l.length ∧ numN (l.getD i 0) (l.drop (i + 1)) + (i + 1) = numN (l.getD (j - 1) 0) (l.drop j) + j ∧ (isExp (l.getD (j - 1) 0) && isSign (l.getD j 0)) = false

theorem numN_at {l : List UInt8} {j : Nat} (p : UInt8) : numN p (l.drop j) = if numC p (l.getD j 0) then numN (l.getD j 0) (l.drop (j + 1)) + 1 else 0 := by
  rcases Nat.lt_or_ge j l.length with h | h
  · exact numN_step p h
  · rw [List.drop_eq_nil_of_le h]
    have : l.getD j 0 = 0 := by simp [List.getD, List.getElem?_eq_none h]
    rw [this]
    have e : numC p 0 = false := by
      unfold numC
      have e1 : isSign 0 = false := rfl
      have e2 : isWord 0 = false := rfl
      rw [e1, e2, Bool.and_false]
      rfl
    rw [if_neg (by rw [e]; simp)]
    rfl

theorem getD_pos {l : List UInt8} {j : Nat} (h : l.getD j 0 ≠ 0) : j < l.length := getD_lt h

theorem NumR.two {l : List UInt8} {i j : Nat} (h : NumR l i j) (he : isExp (l.getD j 0) = true) (hs : isSign (l.getD (j + 1) 0) = true) : NumR l i (j + 2) := by
  obtain ⟨h1, h2, h3, h4⟩ := h
  have hw : isWord (l.getD j 0) = true := by unfold isWord; rw [exp_word he]; rfl
  have hj : j + 1 < l.length := getD_pos (by rcases signB_cases hs with e | e <;> (rw [e]; decide))
  have c1 : numC (l.getD (j - 1) 0) (l.getD j 0) = true := by unfold numC; rw [hw]; rfl
  have c2 : numC (l.getD j 0) (l.getD (j + 1) 0) = true := by unfold numC; rw [he, hs]; simp
  rw [numN_at (j := j), if_pos c1, numN_at (j := j + 1), if_pos c2, show j + 1 + 1 = j + 2 from rfl] at h3
  refine ⟨by omega, by omega, ?_, ?_⟩
  · rw [show j + 2 - 1 = j + 1 from rfl]
    omega
  · rw [show j + 2 - 1 = j + 1 from rfl]
    have : isExp (l.getD (j + 1) 0) = false := by rcases signB_cases hs with e | e <;> (rw [e]; rfl)
    rw [this]
    rfl
theorem NumR.one {l : List UInt8} {i j : Nat} (h : NumR l i j) (hw : (isWord (l.getD j 0) || decide ((l.getD j 0).toNat = 46)) = true) (he : (isExp (l.getD j 0) && isSign (l.getD (j + 1) 0)) = false) : NumR l i (j + 1) := by
  obtain ⟨h1, h2, h3, h4⟩ := h
  have hj : j < l.length := getD_pos (by
    intro e
    rw [e] at hw
    revert hw
    decide)
  have c1 : numC (l.getD (j - 1) 0) (l.getD j 0) = true := by unfold numC; rw [hw]; rfl
  rw [numN_at (j := j), if_pos c1] at h3
  refine ⟨by omega, by omega, ?_, ?_⟩
  · rw [Nat.add_sub_cancel]
    omega
  · rw [Nat.add_sub_cancel]
    exact he
theorem NumR.stop {l : List UInt8} {i j : Nat} (h : NumR l i j) (hw : (isWord (l.getD j 0) || decide ((l.getD j 0).toNat = 46)) = false) : numN (l.getD i 0) (l.drop (i + 1)) + (i + 1) = j := by
  obtain ⟨h1, h2, h3, h4⟩ := h
  have c1 : numC (l.getD (j - 1) 0) (l.getD j 0) = false := by unfold numC; rw [hw, h4]; rfl
  rw [numN_at (j := j), if_neg (by rw [c1]; simp)] at h3
  omega

set_option maxRecDepth 100000 in
set_option maxHeartbeats 12800000 in
theorem rnum_some {L : List Rn} {v : Value} {w : World} (h : RsAt L v w) (i : Nat) (hL : L.length ≤ 1000000) (hi : i < L.length) (hd0 : (isDig ((bytesOf L).getD i 0) || (decide ((bytesOf L).getD i 0 = 46) && isDig ((bytesOf L).getD (i + 1) 0))) = true) :
    Calls Try.prog 65 #[v, .int .i64 (i : Int)] w (NatPost (rnum (bytesOf L) i) w) := by
  have hR : rnum (bytesOf L) i = numN ((bytesOf L).getD i 0) ((bytesOf L).drop (i + 1)) + (i + 1) := by
    unfold rnum
    rw [if_pos hd0]
    omega
  rw [hR]
  have hlen := bytesOf_len L
  have A0 := rat_any h i (x := (i : Int)) rfl
  have A1 := rat_any h (i + 1) (x := (i : Int) + 1) (by omega)
  have AJ : Hid (∀ (j : Nat) (c : UInt8), (bytesOf L).getD j 0 = c → Calls Try.prog 61 #[v, .int .i64 (j : Int)] w (BytePost c w)) := Lib.hid (fun j c hc => hc ▸ rat_any h j rfl)
  have AK : Hid (∀ (j : Nat) (c : UInt8), (bytesOf L).getD (j + 1) 0 = c → Calls Try.prog 61 #[v, .int .i64 ((j : Int) + 1)] w (BytePost c w)) := Lib.hid (fun j c hc => hc ▸ rat_any h (j + 1) (by omega))
  have HST : Hid (NumR (bytesOf L) i (i + 1)) := Lib.hid (by
    refine ⟨by omega, by omega, by rw [Nat.add_sub_cancel], ?_⟩
    rw [Nat.add_sub_cancel]
    have : isExp ((bytesOf L).getD i 0) = false := by
      cases he : isExp ((bytesOf L).getD i 0) with
      | false => rfl
      | true =>
        rcases exp_cases he with e | e | e | e <;> (rw [e] at hd0; revert hd0; rw [Bool.or_eq_true]; rintro (h | h) <;> (revert h; simp [isDig]))
    rw [this]
    rfl)
  obtain ⟨c0, hc0⟩ : ∃ c0, (bytesOf L).getD i 0 = c0 := ⟨_, rfl⟩
  obtain ⟨c1, hc1⟩ : ∃ c1, (bytesOf L).getD (i + 1) 0 = c1 := ⟨_, rfl⟩
  rw [hc0] at A0 hd0
  rw [hc1] at A1 hd0
  have HA0 := Lib.hid A0
  have HA1 := Lib.hid A1
  have HLEN := Lib.hid hlen
  clear A0 A1 hR hlen hc0 hc1 h
  cases hd : isDig c0 with
  | true =>
    have HD0 := Lib.hid (rDigit_is hd)
    clear hd hd0
    go_enter Try.func65, Try.ntmps65
    go_wp2_with (first
      | (go_at_call 61; (with_reducible refine HA0.out.mono ?_); rintro e w' ⟨rfl, rfl⟩)
      | (go_at_call 61; (with_reducible refine HA1.out.mono ?_); rintro e w' ⟨rfl, rfl⟩)
      | (go_at_call 64; (with_reducible refine (HD0.out _).mono ?_); rintro e w' ⟨rfl, rfl⟩))
    go_loop [5] (fun j => ∃ k : Nat, j = .int .i64 (k : Int) ∧ NumR (bytesOf L) i k) (fun j => L.length + 1 - (intOf j).toNat)
    case atStart => exact ⟨i + 1, by go_num, HST.out⟩
    case round =>
      obtain ⟨k, rfl, hn⟩ := hrel
      have hkl : k ≤ L.length := by have := hn.2.1; rw [HLEN.out] at this; exact this
      obtain ⟨c, hcc⟩ : ∃ c, (bytesOf L).getD k 0 = c := ⟨_, rfl⟩
      obtain ⟨d, hdd⟩ : ∃ d, (bytesOf L).getD (k + 1) 0 = d := ⟨_, rfl⟩
      have HJ := Lib.hid (AJ.out k c hcc)
      have HK := Lib.hid (AK.out k d hdd)
      have H2 : Hid (isExp c = true → isSign d = true → NumR (bytesOf L) i (k + 2)) := Lib.hid (fun he hs => hn.two (by rw [hcc]; exact he) (by rw [hdd]; exact hs))
      have H1 : Hid ((isWord c || decide (c.toNat = 46)) = true → (isExp c && isSign d) = false → NumR (bytesOf L) i (k + 1)) := Lib.hid (fun hw he => hn.one (by rw [hcc]; exact hw) (by rw [hcc, hdd]; exact he))
      have H0 : Hid ((isWord c || decide (c.toNat = 46)) = false → numN ((bytesOf L).getD i 0) ((bytesOf L).drop (i + 1)) + (i + 1) = k) := Lib.hid (fun hw => hn.stop (by rw [hcc]; exact hw))
      clear hn hcc hdd
      cases hs : isSign d with
      | true =>
        cases he : isExp c with
        | true =>
          have HR2 := Lib.hid (H2.out he hs)
          have hk2 : k + 2 ≤ L.length := by have := HR2.out.2.1; rw [HLEN.out] at this; exact this
          have hdc := signB_cases hs
          rcases exp_cases he with hc | hc | hc | hc
          · have x101 : (((c.toNat : Nat) : Int) == 101) = true := byte_bool (n := 101) (by omega) _ (by rw [hc]; rfl)
            have x69 : (((c.toNat : Nat) : Int) == 69) = false := byte_bool (n := 69) (by omega) _ (by rw [hc]; rfl)
            have x112 : (((c.toNat : Nat) : Int) == 112) = false := byte_bool (n := 112) (by omega) _ (by rw [hc]; rfl)
            have x80 : (((c.toNat : Nat) : Int) == 80) = false := byte_bool (n := 80) (by omega) _ (by rw [hc]; rfl)
            clear hc he hs
            rcases hdc with hd | hd
            · have y1 : (((d.toNat : Nat) : Int) == 43) = true := byte_bool (n := 43) (by omega) _ (by rw [hd]; rfl)
              have y2 : (((d.toNat : Nat) : Int) == 45) = false := byte_bool (n := 45) (by omega) _ (by rw [hd]; rfl)
              clear hd
              go_wp2_with (first
                | (go_at_call 61; (with_reducible refine HJ.out.mono ?_); rintro e w' ⟨rfl, rfl⟩)
                | (go_at_call 61; (with_reducible refine HK.out.mono ?_); rintro e w' ⟨rfl, rfl⟩))
              go_round
              case rel => exact ⟨k + 2, by go_num, HR2.out⟩
              case measure => simp [intOf]; omega
            · have y1 : (((d.toNat : Nat) : Int) == 43) = false := byte_bool (n := 43) (by omega) _ (by rw [hd]; rfl)
              have y2 : (((d.toNat : Nat) : Int) == 45) = true := byte_bool (n := 45) (by omega) _ (by rw [hd]; rfl)
              clear hd
              go_wp2_with (first
                | (go_at_call 61; (with_reducible refine HJ.out.mono ?_); rintro e w' ⟨rfl, rfl⟩)
                | (go_at_call 61; (with_reducible refine HK.out.mono ?_); rintro e w' ⟨rfl, rfl⟩))
              go_round
              case rel => exact ⟨k + 2, by go_num, HR2.out⟩
              case measure => simp [intOf]; omega
          · have x101 : (((c.toNat : Nat) : Int) == 101) = false := byte_bool (n := 101) (by omega) _ (by rw [hc]; rfl)
            have x69 : (((c.toNat : Nat) : Int) == 69) = true := byte_bool (n := 69) (by omega) _ (by rw [hc]; rfl)
            have x112 : (((c.toNat : Nat) : Int) == 112) = false := byte_bool (n := 112) (by omega) _ (by rw [hc]; rfl)
            have x80 : (((c.toNat : Nat) : Int) == 80) = false := byte_bool (n := 80) (by omega) _ (by rw [hc]; rfl)
            clear hc he hs
            rcases hdc with hd | hd
            · have y1 : (((d.toNat : Nat) : Int) == 43) = true := byte_bool (n := 43) (by omega) _ (by rw [hd]; rfl)
              have y2 : (((d.toNat : Nat) : Int) == 45) = false := byte_bool (n := 45) (by omega) _ (by rw [hd]; rfl)
              clear hd
              go_wp2_with (first
                | (go_at_call 61; (with_reducible refine HJ.out.mono ?_); rintro e w' ⟨rfl, rfl⟩)
                | (go_at_call 61; (with_reducible refine HK.out.mono ?_); rintro e w' ⟨rfl, rfl⟩))
              go_round
              case rel => exact ⟨k + 2, by go_num, HR2.out⟩
              case measure => simp [intOf]; omega
            · have y1 : (((d.toNat : Nat) : Int) == 43) = false := byte_bool (n := 43) (by omega) _ (by rw [hd]; rfl)
              have y2 : (((d.toNat : Nat) : Int) == 45) = true := byte_bool (n := 45) (by omega) _ (by rw [hd]; rfl)
              clear hd
              go_wp2_with (first
                | (go_at_call 61; (with_reducible refine HJ.out.mono ?_); rintro e w' ⟨rfl, rfl⟩)
                | (go_at_call 61; (with_reducible refine HK.out.mono ?_); rintro e w' ⟨rfl, rfl⟩))
              go_round
              case rel => exact ⟨k + 2, by go_num, HR2.out⟩
              case measure => simp [intOf]; omega
          · have x101 : (((c.toNat : Nat) : Int) == 101) = false := byte_bool (n := 101) (by omega) _ (by rw [hc]; rfl)
            have x69 : (((c.toNat : Nat) : Int) == 69) = false := byte_bool (n := 69) (by omega) _ (by rw [hc]; rfl)
            have x112 : (((c.toNat : Nat) : Int) == 112) = true := byte_bool (n := 112) (by omega) _ (by rw [hc]; rfl)
            have x80 : (((c.toNat : Nat) : Int) == 80) = false := byte_bool (n := 80) (by omega) _ (by rw [hc]; rfl)
            clear hc he hs
            rcases hdc with hd | hd
            · have y1 : (((d.toNat : Nat) : Int) == 43) = true := byte_bool (n := 43) (by omega) _ (by rw [hd]; rfl)
              have y2 : (((d.toNat : Nat) : Int) == 45) = false := byte_bool (n := 45) (by omega) _ (by rw [hd]; rfl)
              clear hd
              go_wp2_with (first
                | (go_at_call 61; (with_reducible refine HJ.out.mono ?_); rintro e w' ⟨rfl, rfl⟩)
                | (go_at_call 61; (with_reducible refine HK.out.mono ?_); rintro e w' ⟨rfl, rfl⟩))
              go_round
              case rel => exact ⟨k + 2, by go_num, HR2.out⟩
              case measure => simp [intOf]; omega
            · have y1 : (((d.toNat : Nat) : Int) == 43) = false := byte_bool (n := 43) (by omega) _ (by rw [hd]; rfl)
              have y2 : (((d.toNat : Nat) : Int) == 45) = true := byte_bool (n := 45) (by omega) _ (by rw [hd]; rfl)
              clear hd
              go_wp2_with (first
                | (go_at_call 61; (with_reducible refine HJ.out.mono ?_); rintro e w' ⟨rfl, rfl⟩)
                | (go_at_call 61; (with_reducible refine HK.out.mono ?_); rintro e w' ⟨rfl, rfl⟩))
              go_round
              case rel => exact ⟨k + 2, by go_num, HR2.out⟩
              case measure => simp [intOf]; omega
          · have x101 : (((c.toNat : Nat) : Int) == 101) = false := byte_bool (n := 101) (by omega) _ (by rw [hc]; rfl)
            have x69 : (((c.toNat : Nat) : Int) == 69) = false := byte_bool (n := 69) (by omega) _ (by rw [hc]; rfl)
            have x112 : (((c.toNat : Nat) : Int) == 112) = false := byte_bool (n := 112) (by omega) _ (by rw [hc]; rfl)
            have x80 : (((c.toNat : Nat) : Int) == 80) = true := byte_bool (n := 80) (by omega) _ (by rw [hc]; rfl)
            clear hc he hs
            rcases hdc with hd | hd
            · have y1 : (((d.toNat : Nat) : Int) == 43) = true := byte_bool (n := 43) (by omega) _ (by rw [hd]; rfl)
              have y2 : (((d.toNat : Nat) : Int) == 45) = false := byte_bool (n := 45) (by omega) _ (by rw [hd]; rfl)
              clear hd
              go_wp2_with (first
                | (go_at_call 61; (with_reducible refine HJ.out.mono ?_); rintro e w' ⟨rfl, rfl⟩)
                | (go_at_call 61; (with_reducible refine HK.out.mono ?_); rintro e w' ⟨rfl, rfl⟩))
              go_round
              case rel => exact ⟨k + 2, by go_num, HR2.out⟩
              case measure => simp [intOf]; omega
            · have y1 : (((d.toNat : Nat) : Int) == 43) = false := byte_bool (n := 43) (by omega) _ (by rw [hd]; rfl)
              have y2 : (((d.toNat : Nat) : Int) == 45) = true := byte_bool (n := 45) (by omega) _ (by rw [hd]; rfl)
              clear hd
              go_wp2_with (first
                | (go_at_call 61; (with_reducible refine HJ.out.mono ?_); rintro e w' ⟨rfl, rfl⟩)
                | (go_at_call 61; (with_reducible refine HK.out.mono ?_); rintro e w' ⟨rfl, rfl⟩))
              go_round
              case rel => exact ⟨k + 2, by go_num, HR2.out⟩
              case measure => simp [intOf]; omega
        | false =>
          have HNE : Hid ((isExp c && isSign d) = false) := Lib.hid (by rw [he]; simp)
          have x101 : (((c.toNat : Nat) : Int) == 101) = false := byte_neB (n := 101) (by omega) (fun e => by rw [e] at he; cases he)
          have x69 : (((c.toNat : Nat) : Int) == 69) = false := byte_neB (n := 69) (by omega) (fun e => by rw [e] at he; cases he)
          have x112 : (((c.toNat : Nat) : Int) == 112) = false := byte_neB (n := 112) (by omega) (fun e => by rw [e] at he; cases he)
          have x80 : (((c.toNat : Nat) : Int) == 80) = false := byte_neB (n := 80) (by omega) (fun e => by rw [e] at he; cases he)
          clear he hs
          cases hl : isLet c with
          | true =>
            have HLE := Lib.hid (rLetter_is hl)
            have HR1 := Lib.hid (H1.out (by unfold isWord; rw [hl]; rfl) HNE.out)
            have hk2 : k + 1 ≤ L.length := by have := HR1.out.2.1; rw [HLEN.out] at this; exact this
            clear hl
            go_wp2_with (first
              | (go_at_call 61; (with_reducible refine HJ.out.mono ?_); rintro e w' ⟨rfl, rfl⟩)
              | (go_at_call 61; (with_reducible refine HK.out.mono ?_); rintro e w' ⟨rfl, rfl⟩)
              | (go_at_call 63; (with_reducible refine (HLE.out _).mono ?_); rintro e w' ⟨rfl, rfl⟩)
              | (go_at_call 64; (with_reducible refine (HDI.out _).mono ?_); rintro e w' ⟨rfl, rfl⟩))
            go_round
            case rel => exact ⟨k + 1, by go_num, HR1.out⟩
            case measure => simp [intOf]; omega
          | false =>
            have HLE := Lib.hid (rLetter_is hl)
            cases hdg : isDig c with
            | true =>
              have HDI := Lib.hid (rDigit_is hdg)
              have HR1 := Lib.hid (H1.out (by unfold isWord; rw [hl, hdg]; rfl) HNE.out)
              have hk2 : k + 1 ≤ L.length := by have := HR1.out.2.1; rw [HLEN.out] at this; exact this
              clear hl hdg
              go_wp2_with (first
                | (go_at_call 61; (with_reducible refine HJ.out.mono ?_); rintro e w' ⟨rfl, rfl⟩)
                | (go_at_call 61; (with_reducible refine HK.out.mono ?_); rintro e w' ⟨rfl, rfl⟩)
                | (go_at_call 63; (with_reducible refine (HLE.out _).mono ?_); rintro e w' ⟨rfl, rfl⟩)
                | (go_at_call 64; (with_reducible refine (HDI.out _).mono ?_); rintro e w' ⟨rfl, rfl⟩))
              go_round
              case rel => exact ⟨k + 1, by go_num, HR1.out⟩
              case measure => simp [intOf]; omega
            | false =>
              have HDI := Lib.hid (rDigit_is hdg)
              by_cases h46 : c.toNat = 46
              · have z : (((c.toNat : Nat) : Int) == 46) = true := by rw [h46]; rfl
                have HR1 := Lib.hid (H1.out (by rw [decide_eq_true h46]; simp) HNE.out)
                have hk2 : k + 1 ≤ L.length := by have := HR1.out.2.1; rw [HLEN.out] at this; exact this
                clear hl hdg h46
                go_wp2_with (first
                  | (go_at_call 61; (with_reducible refine HJ.out.mono ?_); rintro e w' ⟨rfl, rfl⟩)
                  | (go_at_call 61; (with_reducible refine HK.out.mono ?_); rintro e w' ⟨rfl, rfl⟩)
                  | (go_at_call 63; (with_reducible refine (HLE.out _).mono ?_); rintro e w' ⟨rfl, rfl⟩)
                  | (go_at_call 64; (with_reducible refine (HDI.out _).mono ?_); rintro e w' ⟨rfl, rfl⟩))
                go_round
                case rel => exact ⟨k + 1, by go_num, HR1.out⟩
                case measure => simp [intOf]; omega
              · have z : (((c.toNat : Nat) : Int) == 46) = false := by simp only [beq_eq_false_iff_ne]; omega
                have HR0 := Lib.hid (H0.out (by unfold isWord; rw [hl, hdg, decide_eq_false h46]; rfl))
                clear hl hdg h46
                go_wp2_with (first
                  | (go_at_call 61; (with_reducible refine HJ.out.mono ?_); rintro e w' ⟨rfl, rfl⟩)
                  | (go_at_call 61; (with_reducible refine HK.out.mono ?_); rintro e w' ⟨rfl, rfl⟩)
                  | (go_at_call 63; (with_reducible refine (HLE.out _).mono ?_); rintro e w' ⟨rfl, rfl⟩)
                  | (go_at_call 64; (with_reducible refine (HDI.out _).mono ?_); rintro e w' ⟨rfl, rfl⟩))
                go_ret
                rw [HR0.out]
                exact ⟨rfl, rfl⟩
      | false =>
        have y1 : (((d.toNat : Nat) : Int) == 43) = false := byte_neB (n := 43) (by omega) (fun e => by rw [e] at hs; cases hs)
        have y2 : (((d.toNat : Nat) : Int) == 45) = false := byte_neB (n := 45) (by omega) (fun e => by rw [e] at hs; cases hs)
        cases he : isExp c with
        | true =>
          have hdc : (isExp c && isSign d) = false := by rw [hs, Bool.and_false]
          have HNE := Lib.hid hdc
          have hl := exp_word he
          have HLE := Lib.hid (rLetter_is hl)
          have HR1 := Lib.hid (H1.out (by unfold isWord; rw [hl]; rfl) HNE.out)
          have hk2 : k + 1 ≤ L.length := by have := HR1.out.2.1; rw [HLEN.out] at this; exact this
          clear hl hdc
          rcases exp_cases he with hc | hc | hc | hc
          · have x101 : (((c.toNat : Nat) : Int) == 101) = true := byte_bool (n := 101) (by omega) _ (by rw [hc]; rfl)
            have x69 : (((c.toNat : Nat) : Int) == 69) = false := byte_bool (n := 69) (by omega) _ (by rw [hc]; rfl)
            have x112 : (((c.toNat : Nat) : Int) == 112) = false := byte_bool (n := 112) (by omega) _ (by rw [hc]; rfl)
            have x80 : (((c.toNat : Nat) : Int) == 80) = false := byte_bool (n := 80) (by omega) _ (by rw [hc]; rfl)
            clear hc he hs
            go_wp2_with (first
              | (go_at_call 61; (with_reducible refine HJ.out.mono ?_); rintro e w' ⟨rfl, rfl⟩)
              | (go_at_call 61; (with_reducible refine HK.out.mono ?_); rintro e w' ⟨rfl, rfl⟩)
              | (go_at_call 63; (with_reducible refine (HLE.out _).mono ?_); rintro e w' ⟨rfl, rfl⟩))
            go_round
            case rel => exact ⟨k + 1, by go_num, HR1.out⟩
            case measure => simp [intOf]; omega
          · have x101 : (((c.toNat : Nat) : Int) == 101) = false := byte_bool (n := 101) (by omega) _ (by rw [hc]; rfl)
            have x69 : (((c.toNat : Nat) : Int) == 69) = true := byte_bool (n := 69) (by omega) _ (by rw [hc]; rfl)
            have x112 : (((c.toNat : Nat) : Int) == 112) = false := byte_bool (n := 112) (by omega) _ (by rw [hc]; rfl)
            have x80 : (((c.toNat : Nat) : Int) == 80) = false := byte_bool (n := 80) (by omega) _ (by rw [hc]; rfl)
            clear hc he hs
            go_wp2_with (first
              | (go_at_call 61; (with_reducible refine HJ.out.mono ?_); rintro e w' ⟨rfl, rfl⟩)
              | (go_at_call 61; (with_reducible refine HK.out.mono ?_); rintro e w' ⟨rfl, rfl⟩)
              | (go_at_call 63; (with_reducible refine (HLE.out _).mono ?_); rintro e w' ⟨rfl, rfl⟩))
            go_round
            case rel => exact ⟨k + 1, by go_num, HR1.out⟩
            case measure => simp [intOf]; omega
          · have x101 : (((c.toNat : Nat) : Int) == 101) = false := byte_bool (n := 101) (by omega) _ (by rw [hc]; rfl)
            have x69 : (((c.toNat : Nat) : Int) == 69) = false := byte_bool (n := 69) (by omega) _ (by rw [hc]; rfl)
            have x112 : (((c.toNat : Nat) : Int) == 112) = true := byte_bool (n := 112) (by omega) _ (by rw [hc]; rfl)
            have x80 : (((c.toNat : Nat) : Int) == 80) = false := byte_bool (n := 80) (by omega) _ (by rw [hc]; rfl)
            clear hc he hs
            go_wp2_with (first
              | (go_at_call 61; (with_reducible refine HJ.out.mono ?_); rintro e w' ⟨rfl, rfl⟩)
              | (go_at_call 61; (with_reducible refine HK.out.mono ?_); rintro e w' ⟨rfl, rfl⟩)
              | (go_at_call 63; (with_reducible refine (HLE.out _).mono ?_); rintro e w' ⟨rfl, rfl⟩))
            go_round
            case rel => exact ⟨k + 1, by go_num, HR1.out⟩
            case measure => simp [intOf]; omega
          · have x101 : (((c.toNat : Nat) : Int) == 101) = false := byte_bool (n := 101) (by omega) _ (by rw [hc]; rfl)
            have x69 : (((c.toNat : Nat) : Int) == 69) = false := byte_bool (n := 69) (by omega) _ (by rw [hc]; rfl)
            have x112 : (((c.toNat : Nat) : Int) == 112) = false := byte_bool (n := 112) (by omega) _ (by rw [hc]; rfl)
            have x80 : (((c.toNat : Nat) : Int) == 80) = true := byte_bool (n := 80) (by omega) _ (by rw [hc]; rfl)
            clear hc he hs
            go_wp2_with (first
              | (go_at_call 61; (with_reducible refine HJ.out.mono ?_); rintro e w' ⟨rfl, rfl⟩)
              | (go_at_call 61; (with_reducible refine HK.out.mono ?_); rintro e w' ⟨rfl, rfl⟩)
              | (go_at_call 63; (with_reducible refine (HLE.out _).mono ?_); rintro e w' ⟨rfl, rfl⟩))
            go_round
            case rel => exact ⟨k + 1, by go_num, HR1.out⟩
            case measure => simp [intOf]; omega
        | false =>
          have HNE : Hid ((isExp c && isSign d) = false) := Lib.hid (by rw [he]; simp)
          have x101 : (((c.toNat : Nat) : Int) == 101) = false := byte_neB (n := 101) (by omega) (fun e => by rw [e] at he; cases he)
          have x69 : (((c.toNat : Nat) : Int) == 69) = false := byte_neB (n := 69) (by omega) (fun e => by rw [e] at he; cases he)
          have x112 : (((c.toNat : Nat) : Int) == 112) = false := byte_neB (n := 112) (by omega) (fun e => by rw [e] at he; cases he)
          have x80 : (((c.toNat : Nat) : Int) == 80) = false := byte_neB (n := 80) (by omega) (fun e => by rw [e] at he; cases he)
          clear he hs
          cases hl : isLet c with
          | true =>
            have HLE := Lib.hid (rLetter_is hl)
            have HR1 := Lib.hid (H1.out (by unfold isWord; rw [hl]; rfl) HNE.out)
            have hk2 : k + 1 ≤ L.length := by have := HR1.out.2.1; rw [HLEN.out] at this; exact this
            clear hl
            go_wp2_with (first
              | (go_at_call 61; (with_reducible refine HJ.out.mono ?_); rintro e w' ⟨rfl, rfl⟩)
              | (go_at_call 61; (with_reducible refine HK.out.mono ?_); rintro e w' ⟨rfl, rfl⟩)
              | (go_at_call 63; (with_reducible refine (HLE.out _).mono ?_); rintro e w' ⟨rfl, rfl⟩)
              | (go_at_call 64; (with_reducible refine (HDI.out _).mono ?_); rintro e w' ⟨rfl, rfl⟩))
            go_round
            case rel => exact ⟨k + 1, by go_num, HR1.out⟩
            case measure => simp [intOf]; omega
          | false =>
            have HLE := Lib.hid (rLetter_is hl)
            cases hdg : isDig c with
            | true =>
              have HDI := Lib.hid (rDigit_is hdg)
              have HR1 := Lib.hid (H1.out (by unfold isWord; rw [hl, hdg]; rfl) HNE.out)
              have hk2 : k + 1 ≤ L.length := by have := HR1.out.2.1; rw [HLEN.out] at this; exact this
              clear hl hdg
              go_wp2_with (first
                | (go_at_call 61; (with_reducible refine HJ.out.mono ?_); rintro e w' ⟨rfl, rfl⟩)
                | (go_at_call 61; (with_reducible refine HK.out.mono ?_); rintro e w' ⟨rfl, rfl⟩)
                | (go_at_call 63; (with_reducible refine (HLE.out _).mono ?_); rintro e w' ⟨rfl, rfl⟩)
                | (go_at_call 64; (with_reducible refine (HDI.out _).mono ?_); rintro e w' ⟨rfl, rfl⟩))
              go_round
              case rel => exact ⟨k + 1, by go_num, HR1.out⟩
              case measure => simp [intOf]; omega
            | false =>
              have HDI := Lib.hid (rDigit_is hdg)
              by_cases h46 : c.toNat = 46
              · have z : (((c.toNat : Nat) : Int) == 46) = true := by rw [h46]; rfl
                have HR1 := Lib.hid (H1.out (by rw [decide_eq_true h46]; simp) HNE.out)
                have hk2 : k + 1 ≤ L.length := by have := HR1.out.2.1; rw [HLEN.out] at this; exact this
                clear hl hdg h46
                go_wp2_with (first
                  | (go_at_call 61; (with_reducible refine HJ.out.mono ?_); rintro e w' ⟨rfl, rfl⟩)
                  | (go_at_call 61; (with_reducible refine HK.out.mono ?_); rintro e w' ⟨rfl, rfl⟩)
                  | (go_at_call 63; (with_reducible refine (HLE.out _).mono ?_); rintro e w' ⟨rfl, rfl⟩)
                  | (go_at_call 64; (with_reducible refine (HDI.out _).mono ?_); rintro e w' ⟨rfl, rfl⟩))
                go_round
                case rel => exact ⟨k + 1, by go_num, HR1.out⟩
                case measure => simp [intOf]; omega
              · have z : (((c.toNat : Nat) : Int) == 46) = false := by simp only [beq_eq_false_iff_ne]; omega
                have HR0 := Lib.hid (H0.out (by unfold isWord; rw [hl, hdg, decide_eq_false h46]; rfl))
                clear hl hdg h46
                go_wp2_with (first
                  | (go_at_call 61; (with_reducible refine HJ.out.mono ?_); rintro e w' ⟨rfl, rfl⟩)
                  | (go_at_call 61; (with_reducible refine HK.out.mono ?_); rintro e w' ⟨rfl, rfl⟩)
                  | (go_at_call 63; (with_reducible refine (HLE.out _).mono ?_); rintro e w' ⟨rfl, rfl⟩)
                  | (go_at_call 64; (with_reducible refine (HDI.out _).mono ?_); rintro e w' ⟨rfl, rfl⟩))
                go_ret
                rw [HR0.out]
                exact ⟨rfl, rfl⟩
  | false =>
    have HD0 := Lib.hid (rDigit_is hd)
    rw [hd, Bool.false_or, Bool.and_eq_true, decide_eq_true_eq] at hd0
    have z0 : (((c0.toNat : Nat) : Int) == 46) = true := byte_eqB (n := 46) (by omega) hd0.1
    have z1 : (((c0.toNat : Nat) : Int) != 46) = false := by rw [bne, z0]; rfl
    have HD1 := Lib.hid (rDigit_is hd0.2)
    clear hd hd0
    go_enter Try.func65, Try.ntmps65
    go_wp2_with (first
      | (go_at_call 61; (with_reducible refine HA0.out.mono ?_); rintro e w' ⟨rfl, rfl⟩)
      | (go_at_call 61; (with_reducible refine HA1.out.mono ?_); rintro e w' ⟨rfl, rfl⟩)
      | (go_at_call 64; (with_reducible refine (HD0.out _).mono ?_); rintro e w' ⟨rfl, rfl⟩)
      | (go_at_call 64; (with_reducible refine (HD1.out _).mono ?_); rintro e w' ⟨rfl, rfl⟩))
    go_loop [5] (fun j => ∃ k : Nat, j = .int .i64 (k : Int) ∧ NumR (bytesOf L) i k) (fun j => L.length + 1 - (intOf j).toNat)
    case atStart => exact ⟨i + 1, by go_num, HST.out⟩
    case round =>
      obtain ⟨k, rfl, hn⟩ := hrel
      have hkl : k ≤ L.length := by have := hn.2.1; rw [HLEN.out] at this; exact this
      obtain ⟨c, hcc⟩ : ∃ c, (bytesOf L).getD k 0 = c := ⟨_, rfl⟩
      obtain ⟨d, hdd⟩ : ∃ d, (bytesOf L).getD (k + 1) 0 = d := ⟨_, rfl⟩
      have HJ := Lib.hid (AJ.out k c hcc)
      have HK := Lib.hid (AK.out k d hdd)
      have H2 : Hid (isExp c = true → isSign d = true → NumR (bytesOf L) i (k + 2)) := Lib.hid (fun he hs => hn.two (by rw [hcc]; exact he) (by rw [hdd]; exact hs))
      have H1 : Hid ((isWord c || decide (c.toNat = 46)) = true → (isExp c && isSign d) = false → NumR (bytesOf L) i (k + 1)) := Lib.hid (fun hw he => hn.one (by rw [hcc]; exact hw) (by rw [hcc, hdd]; exact he))
      have H0 : Hid ((isWord c || decide (c.toNat = 46)) = false → numN ((bytesOf L).getD i 0) ((bytesOf L).drop (i + 1)) + (i + 1) = k) := Lib.hid (fun hw => hn.stop (by rw [hcc]; exact hw))
      clear hn hcc hdd
      cases hs : isSign d with
      | true =>
        cases he : isExp c with
        | true =>
          have HR2 := Lib.hid (H2.out he hs)
          have hk2 : k + 2 ≤ L.length := by have := HR2.out.2.1; rw [HLEN.out] at this; exact this
          have hdc := signB_cases hs
          rcases exp_cases he with hc | hc | hc | hc
          · have x101 : (((c.toNat : Nat) : Int) == 101) = true := byte_bool (n := 101) (by omega) _ (by rw [hc]; rfl)
            have x69 : (((c.toNat : Nat) : Int) == 69) = false := byte_bool (n := 69) (by omega) _ (by rw [hc]; rfl)
            have x112 : (((c.toNat : Nat) : Int) == 112) = false := byte_bool (n := 112) (by omega) _ (by rw [hc]; rfl)
            have x80 : (((c.toNat : Nat) : Int) == 80) = false := byte_bool (n := 80) (by omega) _ (by rw [hc]; rfl)
            clear hc he hs
            rcases hdc with hd | hd
            · have y1 : (((d.toNat : Nat) : Int) == 43) = true := byte_bool (n := 43) (by omega) _ (by rw [hd]; rfl)
              have y2 : (((d.toNat : Nat) : Int) == 45) = false := byte_bool (n := 45) (by omega) _ (by rw [hd]; rfl)
              clear hd
              go_wp2_with (first
                | (go_at_call 61; (with_reducible refine HJ.out.mono ?_); rintro e w' ⟨rfl, rfl⟩)
                | (go_at_call 61; (with_reducible refine HK.out.mono ?_); rintro e w' ⟨rfl, rfl⟩))
              go_round
              case rel => exact ⟨k + 2, by go_num, HR2.out⟩
              case measure => simp [intOf]; omega
            · have y1 : (((d.toNat : Nat) : Int) == 43) = false := byte_bool (n := 43) (by omega) _ (by rw [hd]; rfl)
              have y2 : (((d.toNat : Nat) : Int) == 45) = true := byte_bool (n := 45) (by omega) _ (by rw [hd]; rfl)
              clear hd
              go_wp2_with (first
                | (go_at_call 61; (with_reducible refine HJ.out.mono ?_); rintro e w' ⟨rfl, rfl⟩)
                | (go_at_call 61; (with_reducible refine HK.out.mono ?_); rintro e w' ⟨rfl, rfl⟩))
              go_round
              case rel => exact ⟨k + 2, by go_num, HR2.out⟩
              case measure => simp [intOf]; omega
          · have x101 : (((c.toNat : Nat) : Int) == 101) = false := byte_bool (n := 101) (by omega) _ (by rw [hc]; rfl)
            have x69 : (((c.toNat : Nat) : Int) == 69) = true := byte_bool (n := 69) (by omega) _ (by rw [hc]; rfl)
            have x112 : (((c.toNat : Nat) : Int) == 112) = false := byte_bool (n := 112) (by omega) _ (by rw [hc]; rfl)
            have x80 : (((c.toNat : Nat) : Int) == 80) = false := byte_bool (n := 80) (by omega) _ (by rw [hc]; rfl)
            clear hc he hs
            rcases hdc with hd | hd
            · have y1 : (((d.toNat : Nat) : Int) == 43) = true := byte_bool (n := 43) (by omega) _ (by rw [hd]; rfl)
              have y2 : (((d.toNat : Nat) : Int) == 45) = false := byte_bool (n := 45) (by omega) _ (by rw [hd]; rfl)
              clear hd
              go_wp2_with (first
                | (go_at_call 61; (with_reducible refine HJ.out.mono ?_); rintro e w' ⟨rfl, rfl⟩)
                | (go_at_call 61; (with_reducible refine HK.out.mono ?_); rintro e w' ⟨rfl, rfl⟩))
              go_round
              case rel => exact ⟨k + 2, by go_num, HR2.out⟩
              case measure => simp [intOf]; omega
            · have y1 : (((d.toNat : Nat) : Int) == 43) = false := byte_bool (n := 43) (by omega) _ (by rw [hd]; rfl)
              have y2 : (((d.toNat : Nat) : Int) == 45) = true := byte_bool (n := 45) (by omega) _ (by rw [hd]; rfl)
              clear hd
              go_wp2_with (first
                | (go_at_call 61; (with_reducible refine HJ.out.mono ?_); rintro e w' ⟨rfl, rfl⟩)
                | (go_at_call 61; (with_reducible refine HK.out.mono ?_); rintro e w' ⟨rfl, rfl⟩))
              go_round
              case rel => exact ⟨k + 2, by go_num, HR2.out⟩
              case measure => simp [intOf]; omega
          · have x101 : (((c.toNat : Nat) : Int) == 101) = false := byte_bool (n := 101) (by omega) _ (by rw [hc]; rfl)
            have x69 : (((c.toNat : Nat) : Int) == 69) = false := byte_bool (n := 69) (by omega) _ (by rw [hc]; rfl)
            have x112 : (((c.toNat : Nat) : Int) == 112) = true := byte_bool (n := 112) (by omega) _ (by rw [hc]; rfl)
            have x80 : (((c.toNat : Nat) : Int) == 80) = false := byte_bool (n := 80) (by omega) _ (by rw [hc]; rfl)
            clear hc he hs
            rcases hdc with hd | hd
            · have y1 : (((d.toNat : Nat) : Int) == 43) = true := byte_bool (n := 43) (by omega) _ (by rw [hd]; rfl)
              have y2 : (((d.toNat : Nat) : Int) == 45) = false := byte_bool (n := 45) (by omega) _ (by rw [hd]; rfl)
              clear hd
              go_wp2_with (first
                | (go_at_call 61; (with_reducible refine HJ.out.mono ?_); rintro e w' ⟨rfl, rfl⟩)
                | (go_at_call 61; (with_reducible refine HK.out.mono ?_); rintro e w' ⟨rfl, rfl⟩))
              go_round
              case rel => exact ⟨k + 2, by go_num, HR2.out⟩
              case measure => simp [intOf]; omega
            · have y1 : (((d.toNat : Nat) : Int) == 43) = false := byte_bool (n := 43) (by omega) _ (by rw [hd]; rfl)
              have y2 : (((d.toNat : Nat) : Int) == 45) = true := byte_bool (n := 45) (by omega) _ (by rw [hd]; rfl)
              clear hd
              go_wp2_with (first
                | (go_at_call 61; (with_reducible refine HJ.out.mono ?_); rintro e w' ⟨rfl, rfl⟩)
                | (go_at_call 61; (with_reducible refine HK.out.mono ?_); rintro e w' ⟨rfl, rfl⟩))
              go_round
              case rel => exact ⟨k + 2, by go_num, HR2.out⟩
              case measure => simp [intOf]; omega
          · have x101 : (((c.toNat : Nat) : Int) == 101) = false := byte_bool (n := 101) (by omega) _ (by rw [hc]; rfl)
            have x69 : (((c.toNat : Nat) : Int) == 69) = false := byte_bool (n := 69) (by omega) _ (by rw [hc]; rfl)
            have x112 : (((c.toNat : Nat) : Int) == 112) = false := byte_bool (n := 112) (by omega) _ (by rw [hc]; rfl)
            have x80 : (((c.toNat : Nat) : Int) == 80) = true := byte_bool (n := 80) (by omega) _ (by rw [hc]; rfl)
            clear hc he hs
            rcases hdc with hd | hd
            · have y1 : (((d.toNat : Nat) : Int) == 43) = true := byte_bool (n := 43) (by omega) _ (by rw [hd]; rfl)
              have y2 : (((d.toNat : Nat) : Int) == 45) = false := byte_bool (n := 45) (by omega) _ (by rw [hd]; rfl)
              clear hd
              go_wp2_with (first
                | (go_at_call 61; (with_reducible refine HJ.out.mono ?_); rintro e w' ⟨rfl, rfl⟩)
                | (go_at_call 61; (with_reducible refine HK.out.mono ?_); rintro e w' ⟨rfl, rfl⟩))
              go_round
              case rel => exact ⟨k + 2, by go_num, HR2.out⟩
              case measure => simp [intOf]; omega
            · have y1 : (((d.toNat : Nat) : Int) == 43) = false := byte_bool (n := 43) (by omega) _ (by rw [hd]; rfl)
              have y2 : (((d.toNat : Nat) : Int) == 45) = true := byte_bool (n := 45) (by omega) _ (by rw [hd]; rfl)
              clear hd
              go_wp2_with (first
                | (go_at_call 61; (with_reducible refine HJ.out.mono ?_); rintro e w' ⟨rfl, rfl⟩)
                | (go_at_call 61; (with_reducible refine HK.out.mono ?_); rintro e w' ⟨rfl, rfl⟩))
              go_round
              case rel => exact ⟨k + 2, by go_num, HR2.out⟩
              case measure => simp [intOf]; omega
        | false =>
          have HNE : Hid ((isExp c && isSign d) = false) := Lib.hid (by rw [he]; simp)
          have x101 : (((c.toNat : Nat) : Int) == 101) = false := byte_neB (n := 101) (by omega) (fun e => by rw [e] at he; cases he)
          have x69 : (((c.toNat : Nat) : Int) == 69) = false := byte_neB (n := 69) (by omega) (fun e => by rw [e] at he; cases he)
          have x112 : (((c.toNat : Nat) : Int) == 112) = false := byte_neB (n := 112) (by omega) (fun e => by rw [e] at he; cases he)
          have x80 : (((c.toNat : Nat) : Int) == 80) = false := byte_neB (n := 80) (by omega) (fun e => by rw [e] at he; cases he)
          clear he hs
          cases hl : isLet c with
          | true =>
            have HLE := Lib.hid (rLetter_is hl)
            have HR1 := Lib.hid (H1.out (by unfold isWord; rw [hl]; rfl) HNE.out)
            have hk2 : k + 1 ≤ L.length := by have := HR1.out.2.1; rw [HLEN.out] at this; exact this
            clear hl
            go_wp2_with (first
              | (go_at_call 61; (with_reducible refine HJ.out.mono ?_); rintro e w' ⟨rfl, rfl⟩)
              | (go_at_call 61; (with_reducible refine HK.out.mono ?_); rintro e w' ⟨rfl, rfl⟩)
              | (go_at_call 63; (with_reducible refine (HLE.out _).mono ?_); rintro e w' ⟨rfl, rfl⟩)
              | (go_at_call 64; (with_reducible refine (HDI.out _).mono ?_); rintro e w' ⟨rfl, rfl⟩))
            go_round
            case rel => exact ⟨k + 1, by go_num, HR1.out⟩
            case measure => simp [intOf]; omega
          | false =>
            have HLE := Lib.hid (rLetter_is hl)
            cases hdg : isDig c with
            | true =>
              have HDI := Lib.hid (rDigit_is hdg)
              have HR1 := Lib.hid (H1.out (by unfold isWord; rw [hl, hdg]; rfl) HNE.out)
              have hk2 : k + 1 ≤ L.length := by have := HR1.out.2.1; rw [HLEN.out] at this; exact this
              clear hl hdg
              go_wp2_with (first
                | (go_at_call 61; (with_reducible refine HJ.out.mono ?_); rintro e w' ⟨rfl, rfl⟩)
                | (go_at_call 61; (with_reducible refine HK.out.mono ?_); rintro e w' ⟨rfl, rfl⟩)
                | (go_at_call 63; (with_reducible refine (HLE.out _).mono ?_); rintro e w' ⟨rfl, rfl⟩)
                | (go_at_call 64; (with_reducible refine (HDI.out _).mono ?_); rintro e w' ⟨rfl, rfl⟩))
              go_round
              case rel => exact ⟨k + 1, by go_num, HR1.out⟩
              case measure => simp [intOf]; omega
            | false =>
              have HDI := Lib.hid (rDigit_is hdg)
              by_cases h46 : c.toNat = 46
              · have z : (((c.toNat : Nat) : Int) == 46) = true := by rw [h46]; rfl
                have HR1 := Lib.hid (H1.out (by rw [decide_eq_true h46]; simp) HNE.out)
                have hk2 : k + 1 ≤ L.length := by have := HR1.out.2.1; rw [HLEN.out] at this; exact this
                clear hl hdg h46
                go_wp2_with (first
                  | (go_at_call 61; (with_reducible refine HJ.out.mono ?_); rintro e w' ⟨rfl, rfl⟩)
                  | (go_at_call 61; (with_reducible refine HK.out.mono ?_); rintro e w' ⟨rfl, rfl⟩)
                  | (go_at_call 63; (with_reducible refine (HLE.out _).mono ?_); rintro e w' ⟨rfl, rfl⟩)
                  | (go_at_call 64; (with_reducible refine (HDI.out _).mono ?_); rintro e w' ⟨rfl, rfl⟩))
                go_round
                case rel => exact ⟨k + 1, by go_num, HR1.out⟩
                case measure => simp [intOf]; omega
              · have z : (((c.toNat : Nat) : Int) == 46) = false := by simp only [beq_eq_false_iff_ne]; omega
                have HR0 := Lib.hid (H0.out (by unfold isWord; rw [hl, hdg, decide_eq_false h46]; rfl))
                clear hl hdg h46
                go_wp2_with (first
                  | (go_at_call 61; (with_reducible refine HJ.out.mono ?_); rintro e w' ⟨rfl, rfl⟩)
                  | (go_at_call 61; (with_reducible refine HK.out.mono ?_); rintro e w' ⟨rfl, rfl⟩)
                  | (go_at_call 63; (with_reducible refine (HLE.out _).mono ?_); rintro e w' ⟨rfl, rfl⟩)
                  | (go_at_call 64; (with_reducible refine (HDI.out _).mono ?_); rintro e w' ⟨rfl, rfl⟩))
                go_ret
                rw [HR0.out]
                exact ⟨rfl, rfl⟩
      | false =>
        have y1 : (((d.toNat : Nat) : Int) == 43) = false := byte_neB (n := 43) (by omega) (fun e => by rw [e] at hs; cases hs)
        have y2 : (((d.toNat : Nat) : Int) == 45) = false := byte_neB (n := 45) (by omega) (fun e => by rw [e] at hs; cases hs)
        cases he : isExp c with
        | true =>
          have hdc : (isExp c && isSign d) = false := by rw [hs, Bool.and_false]
          have HNE := Lib.hid hdc
          have hl := exp_word he
          have HLE := Lib.hid (rLetter_is hl)
          have HR1 := Lib.hid (H1.out (by unfold isWord; rw [hl]; rfl) HNE.out)
          have hk2 : k + 1 ≤ L.length := by have := HR1.out.2.1; rw [HLEN.out] at this; exact this
          clear hl hdc
          rcases exp_cases he with hc | hc | hc | hc
          · have x101 : (((c.toNat : Nat) : Int) == 101) = true := byte_bool (n := 101) (by omega) _ (by rw [hc]; rfl)
            have x69 : (((c.toNat : Nat) : Int) == 69) = false := byte_bool (n := 69) (by omega) _ (by rw [hc]; rfl)
            have x112 : (((c.toNat : Nat) : Int) == 112) = false := byte_bool (n := 112) (by omega) _ (by rw [hc]; rfl)
            have x80 : (((c.toNat : Nat) : Int) == 80) = false := byte_bool (n := 80) (by omega) _ (by rw [hc]; rfl)
            clear hc he hs
            go_wp2_with (first
              | (go_at_call 61; (with_reducible refine HJ.out.mono ?_); rintro e w' ⟨rfl, rfl⟩)
              | (go_at_call 61; (with_reducible refine HK.out.mono ?_); rintro e w' ⟨rfl, rfl⟩)
              | (go_at_call 63; (with_reducible refine (HLE.out _).mono ?_); rintro e w' ⟨rfl, rfl⟩))
            go_round
            case rel => exact ⟨k + 1, by go_num, HR1.out⟩
            case measure => simp [intOf]; omega
          · have x101 : (((c.toNat : Nat) : Int) == 101) = false := byte_bool (n := 101) (by omega) _ (by rw [hc]; rfl)
            have x69 : (((c.toNat : Nat) : Int) == 69) = true := byte_bool (n := 69) (by omega) _ (by rw [hc]; rfl)
            have x112 : (((c.toNat : Nat) : Int) == 112) = false := byte_bool (n := 112) (by omega) _ (by rw [hc]; rfl)
            have x80 : (((c.toNat : Nat) : Int) == 80) = false := byte_bool (n := 80) (by omega) _ (by rw [hc]; rfl)
            clear hc he hs
            go_wp2_with (first
              | (go_at_call 61; (with_reducible refine HJ.out.mono ?_); rintro e w' ⟨rfl, rfl⟩)
              | (go_at_call 61; (with_reducible refine HK.out.mono ?_); rintro e w' ⟨rfl, rfl⟩)
              | (go_at_call 63; (with_reducible refine (HLE.out _).mono ?_); rintro e w' ⟨rfl, rfl⟩))
            go_round
            case rel => exact ⟨k + 1, by go_num, HR1.out⟩
            case measure => simp [intOf]; omega
          · have x101 : (((c.toNat : Nat) : Int) == 101) = false := byte_bool (n := 101) (by omega) _ (by rw [hc]; rfl)
            have x69 : (((c.toNat : Nat) : Int) == 69) = false := byte_bool (n := 69) (by omega) _ (by rw [hc]; rfl)
            have x112 : (((c.toNat : Nat) : Int) == 112) = true := byte_bool (n := 112) (by omega) _ (by rw [hc]; rfl)
            have x80 : (((c.toNat : Nat) : Int) == 80) = false := byte_bool (n := 80) (by omega) _ (by rw [hc]; rfl)
            clear hc he hs
            go_wp2_with (first
              | (go_at_call 61; (with_reducible refine HJ.out.mono ?_); rintro e w' ⟨rfl, rfl⟩)
              | (go_at_call 61; (with_reducible refine HK.out.mono ?_); rintro e w' ⟨rfl, rfl⟩)
              | (go_at_call 63; (with_reducible refine (HLE.out _).mono ?_); rintro e w' ⟨rfl, rfl⟩))
            go_round
            case rel => exact ⟨k + 1, by go_num, HR1.out⟩
            case measure => simp [intOf]; omega
          · have x101 : (((c.toNat : Nat) : Int) == 101) = false := byte_bool (n := 101) (by omega) _ (by rw [hc]; rfl)
            have x69 : (((c.toNat : Nat) : Int) == 69) = false := byte_bool (n := 69) (by omega) _ (by rw [hc]; rfl)
            have x112 : (((c.toNat : Nat) : Int) == 112) = false := byte_bool (n := 112) (by omega) _ (by rw [hc]; rfl)
            have x80 : (((c.toNat : Nat) : Int) == 80) = true := byte_bool (n := 80) (by omega) _ (by rw [hc]; rfl)
            clear hc he hs
            go_wp2_with (first
              | (go_at_call 61; (with_reducible refine HJ.out.mono ?_); rintro e w' ⟨rfl, rfl⟩)
              | (go_at_call 61; (with_reducible refine HK.out.mono ?_); rintro e w' ⟨rfl, rfl⟩)
              | (go_at_call 63; (with_reducible refine (HLE.out _).mono ?_); rintro e w' ⟨rfl, rfl⟩))
            go_round
            case rel => exact ⟨k + 1, by go_num, HR1.out⟩
            case measure => simp [intOf]; omega
        | false =>
          have HNE : Hid ((isExp c && isSign d) = false) := Lib.hid (by rw [he]; simp)
          have x101 : (((c.toNat : Nat) : Int) == 101) = false := byte_neB (n := 101) (by omega) (fun e => by rw [e] at he; cases he)
          have x69 : (((c.toNat : Nat) : Int) == 69) = false := byte_neB (n := 69) (by omega) (fun e => by rw [e] at he; cases he)
          have x112 : (((c.toNat : Nat) : Int) == 112) = false := byte_neB (n := 112) (by omega) (fun e => by rw [e] at he; cases he)
          have x80 : (((c.toNat : Nat) : Int) == 80) = false := byte_neB (n := 80) (by omega) (fun e => by rw [e] at he; cases he)
          clear he hs
          cases hl : isLet c with
          | true =>
            have HLE := Lib.hid (rLetter_is hl)
            have HR1 := Lib.hid (H1.out (by unfold isWord; rw [hl]; rfl) HNE.out)
            have hk2 : k + 1 ≤ L.length := by have := HR1.out.2.1; rw [HLEN.out] at this; exact this
            clear hl
            go_wp2_with (first
              | (go_at_call 61; (with_reducible refine HJ.out.mono ?_); rintro e w' ⟨rfl, rfl⟩)
              | (go_at_call 61; (with_reducible refine HK.out.mono ?_); rintro e w' ⟨rfl, rfl⟩)
              | (go_at_call 63; (with_reducible refine (HLE.out _).mono ?_); rintro e w' ⟨rfl, rfl⟩)
              | (go_at_call 64; (with_reducible refine (HDI.out _).mono ?_); rintro e w' ⟨rfl, rfl⟩))
            go_round
            case rel => exact ⟨k + 1, by go_num, HR1.out⟩
            case measure => simp [intOf]; omega
          | false =>
            have HLE := Lib.hid (rLetter_is hl)
            cases hdg : isDig c with
            | true =>
              have HDI := Lib.hid (rDigit_is hdg)
              have HR1 := Lib.hid (H1.out (by unfold isWord; rw [hl, hdg]; rfl) HNE.out)
              have hk2 : k + 1 ≤ L.length := by have := HR1.out.2.1; rw [HLEN.out] at this; exact this
              clear hl hdg
              go_wp2_with (first
                | (go_at_call 61; (with_reducible refine HJ.out.mono ?_); rintro e w' ⟨rfl, rfl⟩)
                | (go_at_call 61; (with_reducible refine HK.out.mono ?_); rintro e w' ⟨rfl, rfl⟩)
                | (go_at_call 63; (with_reducible refine (HLE.out _).mono ?_); rintro e w' ⟨rfl, rfl⟩)
                | (go_at_call 64; (with_reducible refine (HDI.out _).mono ?_); rintro e w' ⟨rfl, rfl⟩))
              go_round
              case rel => exact ⟨k + 1, by go_num, HR1.out⟩
              case measure => simp [intOf]; omega
            | false =>
              have HDI := Lib.hid (rDigit_is hdg)
              by_cases h46 : c.toNat = 46
              · have z : (((c.toNat : Nat) : Int) == 46) = true := by rw [h46]; rfl
                have HR1 := Lib.hid (H1.out (by rw [decide_eq_true h46]; simp) HNE.out)
                have hk2 : k + 1 ≤ L.length := by have := HR1.out.2.1; rw [HLEN.out] at this; exact this
                clear hl hdg h46
                go_wp2_with (first
                  | (go_at_call 61; (with_reducible refine HJ.out.mono ?_); rintro e w' ⟨rfl, rfl⟩)
                  | (go_at_call 61; (with_reducible refine HK.out.mono ?_); rintro e w' ⟨rfl, rfl⟩)
                  | (go_at_call 63; (with_reducible refine (HLE.out _).mono ?_); rintro e w' ⟨rfl, rfl⟩)
                  | (go_at_call 64; (with_reducible refine (HDI.out _).mono ?_); rintro e w' ⟨rfl, rfl⟩))
                go_round
                case rel => exact ⟨k + 1, by go_num, HR1.out⟩
                case measure => simp [intOf]; omega
              · have z : (((c.toNat : Nat) : Int) == 46) = false := by simp only [beq_eq_false_iff_ne]; omega
                have HR0 := Lib.hid (H0.out (by unfold isWord; rw [hl, hdg, decide_eq_false h46]; rfl))
                clear hl hdg h46
                go_wp2_with (first
                  | (go_at_call 61; (with_reducible refine HJ.out.mono ?_); rintro e w' ⟨rfl, rfl⟩)
                  | (go_at_call 61; (with_reducible refine HK.out.mono ?_); rintro e w' ⟨rfl, rfl⟩)
                  | (go_at_call 63; (with_reducible refine (HLE.out _).mono ?_); rintro e w' ⟨rfl, rfl⟩)
                  | (go_at_call 64; (with_reducible refine (HDI.out _).mono ?_); rintro e w' ⟨rfl, rfl⟩))
                go_ret
                rw [HR0.out]
                exact ⟨rfl, rfl⟩

set_option maxRecDepth 100000 in
set_option maxHeartbeats 1600000 in
theorem rnum_none {L : List Rn} {v : Value} {w : World} (h : RsAt L v w) (i : Nat) (hL : L.length ≤ 1000000) (hi : i < L.length) (hd0 : (isDig ((bytesOf L).getD i 0) || (decide ((bytesOf L).getD i 0 = 46) && isDig ((bytesOf L).getD (i + 1) 0))) = false) :
    Calls Try.prog 65 #[v, .int .i64 (i : Int)] w (NatPost (rnum (bytesOf L) i) w) := by
  have hR : rnum (bytesOf L) i = i := by
    unfold rnum
    rw [if_neg (by rw [hd0]; simp)]
  rw [hR]
  have A0 := rat_any h i (x := (i : Int)) rfl
  have A1 := rat_any h (i + 1) (x := (i : Int) + 1) (by omega)
  obtain ⟨c0, hc0⟩ : ∃ c0, (bytesOf L).getD i 0 = c0 := ⟨_, rfl⟩
  obtain ⟨c1, hc1⟩ : ∃ c1, (bytesOf L).getD (i + 1) 0 = c1 := ⟨_, rfl⟩
  rw [hc0] at A0 hd0
  rw [hc1] at A1 hd0
  have HA0 := Lib.hid A0
  have HA1 := Lib.hid A1
  rw [Bool.or_eq_false_iff] at hd0
  have HD0 := Lib.hid (rDigit_is hd0.1)
  clear A0 A1 hR hc0 hc1 h
  by_cases h46 : c0 = 46
  · have z0 : (((c0.toNat : Nat) : Int) == 46) = true := byte_eqB (n := 46) (by omega) h46
    have z1 : (((c0.toNat : Nat) : Int) != 46) = false := by rw [bne, z0]; rfl
    have hdd := hd0.2
    rw [decide_eq_true h46, Bool.true_and] at hdd
    have HD1 := Lib.hid (rDigit_is hdd)
    clear hd0 h46 hdd
    go_enter Try.func65, Try.ntmps65
    go_wp2_with (first
      | (go_at_call 61; (with_reducible refine HA0.out.mono ?_); rintro e w' ⟨rfl, rfl⟩)
      | (go_at_call 61; (with_reducible refine HA1.out.mono ?_); rintro e w' ⟨rfl, rfl⟩)
      | (go_at_call 64; (with_reducible refine (HD0.out _).mono ?_); rintro e w' ⟨rfl, rfl⟩)
      | (go_at_call 64; (with_reducible refine (HD1.out _).mono ?_); rintro e w' ⟨rfl, rfl⟩))
    go_ret
    exact ⟨rfl, rfl⟩
  · have z0 : (((c0.toNat : Nat) : Int) == 46) = false := byte_neB (n := 46) (by omega) h46
    have z1 : (((c0.toNat : Nat) : Int) != 46) = true := by rw [bne, z0]; rfl
    clear hd0 h46
    go_enter Try.func65, Try.ntmps65
    go_wp2_with (first
      | (go_at_call 61; (with_reducible refine HA0.out.mono ?_); rintro e w' ⟨rfl, rfl⟩)
      | (go_at_call 64; (with_reducible refine (HD0.out _).mono ?_); rintro e w' ⟨rfl, rfl⟩))
    go_ret
    exact ⟨rfl, rfl⟩

theorem rnumber_any {L : List Rn} {v : Value} {w : World} (h : RsAt L v w) (i : Nat) (hL : L.length ≤ 1000000) (hi : i < L.length) : Calls Try.prog 65 #[v, .int .i64 (i : Int)] w (NatPost (rnum (bytesOf L) i) w) := by
  cases hd : (isDig ((bytesOf L).getD i 0) || (decide ((bytesOf L).getD i 0 = 46) && isDig ((bytesOf L).getD (i + 1) 0))) with
  | true => exact rnum_some h i hL hi hd
  | false => exact rnum_none h i hL hi hd

end Go.Proofs.Ytobplffailbkbaa
