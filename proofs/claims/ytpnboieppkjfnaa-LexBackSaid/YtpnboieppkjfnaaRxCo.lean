/-
  The document's own comment and text, walked.
-/
import Derived.Test.YtpnboieppkjfnaaRxQ
import Derived.Test.YtpnboieppkjfnaaBack
namespace Go.Proofs.Ytpnboieppkjfnaa
open Go.RowKit

def comOut (n i : Nat) : Option Nat → Nat × Bool
  | some k => (i + 2 + k, false)
  | none => (n, true)

/-- Where a comment ends that begins at a place, and whether it does not. -/
def rcom (l : List UInt8) (i : Nat) : Nat × Bool :=
  if l.getD i 0 = 47 ∧ l.getD (i + 1) 0 = 47 then (i + remN (l.drop i), false)
  else if l.getD i 0 = 47 ∧ l.getD (i + 1) 0 = 42 then comOut l.length i (comN (l.drop (i + 2))) else (i, false)

def ComPost (r : Nat × Bool) (w : World) (e : Ending) (w' : World) : Prop := e = .returned (.tuple #[.int .i64 (r.1 : Int), .bool r.2]) ∧ w = w'

theorem com_none {l : List UInt8} {i : Nat} (h : l.getD i 0 ≠ 47 ∨ (l.getD (i + 1) 0 ≠ 47 ∧ l.getD (i + 1) 0 ≠ 42)) : rcom l i = (i, false) := by
  unfold rcom
  rw [if_neg, if_neg]
  · rintro ⟨h1, h2⟩
    rcases h with h | h
    · exact h h1
    · exact h.2 h2
  · rintro ⟨h1, h2⟩
    rcases h with h | h
    · exact h h1
    · exact h.1 h2

set_option maxRecDepth 100000 in
set_option maxHeartbeats 3200000 in
theorem rcom_no {L : List Rn} {v : Value} {w : World} (h : RsAt L v w) (i : Nat) (hi : i ≤ 1000000) (hc : (bytesOf L).getD i 0 ≠ 47 ∨ ((bytesOf L).getD (i + 1) 0 ≠ 47 ∧ (bytesOf L).getD (i + 1) 0 ≠ 42)) : Calls Try.prog 23 #[v, .int .i64 (i : Int)] w (ComPost (rcom (bytesOf L) i) w) := by
  rw [com_none hc]
  have A0 := rat_any h i (x := (i : Int)) rfl
  have A1 := rat_any h (i + 1) (x := (i : Int) + 1) (by omega)
  obtain ⟨c0, hc0⟩ : ∃ c0, (bytesOf L).getD i 0 = c0 := ⟨_, rfl⟩
  obtain ⟨c1, hc1⟩ : ∃ c1, (bytesOf L).getD (i + 1) 0 = c1 := ⟨_, rfl⟩
  rw [hc0] at A0 hc
  rw [hc1] at A1 hc
  have HA0 := Lib.hid A0
  have HA1 := Lib.hid A1
  clear A0 A1 hc0 hc1 h
  by_cases h47 : c0 = 47
  · have x1 : (((c0.toNat : Nat) : Int) == 47) = true := byte_eqB (n := 47) (by omega) h47
    have x2 : (((c0.toNat : Nat) : Int) != 47) = false := by rw [bne, x1]; rfl
    have hc2 := hc.resolve_left (fun e => e h47)
    have y1 : (((c1.toNat : Nat) : Int) == 47) = false := byte_neB (n := 47) (by omega) hc2.1
    have y2 : (((c1.toNat : Nat) : Int) == 42) = false := byte_neB (n := 42) (by omega) hc2.2
    have y3 : (((c1.toNat : Nat) : Int) != 42) = true := by rw [bne, y2]; rfl
    clear hc hc2 h47
    go_enter Try.func23, Try.ntmps23
    go_wp2_with (first
      | (go_at_call 38; (with_reducible refine HA0.out.mono ?_); rintro e w' ⟨rfl, rfl⟩)
      | (go_at_call 38; (with_reducible refine HA1.out.mono ?_); rintro e w' ⟨rfl, rfl⟩))
    go_ret2
    exact ⟨rfl, rfl⟩
  · have x1 : (((c0.toNat : Nat) : Int) == 47) = false := byte_neB (n := 47) (by omega) h47
    have x2 : (((c0.toNat : Nat) : Int) != 47) = true := by rw [bne, x1]; rfl
    clear hc h47
    go_enter Try.func23, Try.ntmps23
    go_wp2_with (go_at_call 38; (with_reducible refine HA0.out.mono ?_); rintro e w' ⟨rfl, rfl⟩)
    go_ret2
    exact ⟨rfl, rfl⟩

theorem remN_drop {l : List UInt8} {j : Nat} (h : j < l.length) : remN (l.drop j) = if l.getD j 0 = 10 then 0 else remN (l.drop (j + 1)) + 1 := by
  rw [drop_cons h]
  rfl

set_option maxRecDepth 100000 in
set_option maxHeartbeats 3200000 in
theorem rcom_rem {L : List Rn} {v : Value} {w : World} (h : RsAt L v w) (i : Nat) (_hL : L.length ≤ 1000000) (hi : i < L.length) (hc : (bytesOf L).getD i 0 = 47 ∧ (bytesOf L).getD (i + 1) 0 = 47) : Calls Try.prog 23 #[v, .int .i64 (i : Int)] w (ComPost (rcom (bytesOf L) i) w) := by
  have hR : rcom (bytesOf L) i = (i + remN ((bytesOf L).drop i), false) := by unfold rcom; rw [if_pos hc]
  rw [hR]
  have hlen := bytesOf_len L
  have A0 := rat_any h i (x := (i : Int)) rfl
  have A1 := rat_any h (i + 1) (x := (i : Int) + 1) (by omega)
  rw [hc.1] at A0
  rw [hc.2] at A1
  have HA0 : Hid (Calls Try.prog 38 #[v, .int .i64 (i : Int)] w fun e w' => e = .returned (.int .u8 47) ∧ w = w') := Lib.hid A0
  have HA1 : Hid (Calls Try.prog 38 #[v, .int .i64 ((i : Int) + 1)] w fun e w' => e = .returned (.int .u8 47) ∧ w = w') := Lib.hid A1
  obtain ⟨a, cap, rfl, h1, h2, h3⟩ := h
  unfold maxLen at h2
  have H3 := Lib.hid h3
  have HLEN := Lib.hid hlen
  clear A0 A1 h3 hlen hc hR
  go_enter Try.func23, Try.ntmps23
  go_wp2_with (first
    | (go_at_call 38; (with_reducible refine HA0.out.mono ?_); rintro e w' ⟨rfl, rfl⟩)
    | (go_at_call 38; (with_reducible refine HA1.out.mono ?_); rintro e w' ⟨rfl, rfl⟩))
  go_loop [6] (fun j => ∃ k : Nat, j = .int .i64 (k : Int) ∧ i ≤ k ∧ k ≤ L.length ∧ i + remN ((bytesOf L).drop i) = k + remN ((bytesOf L).drop k)) (fun j => L.length - (intOf j).toNat)
  case atStart => exact ⟨i, rfl, Nat.le_refl _, by omega, rfl⟩
  case round =>
    obtain ⟨k, rfl, hik, hkl, hr⟩ := hrel
    have HR := Lib.hid hr
    clear hr
    by_cases hlt : k < L.length
    · obtain ⟨r, hrr⟩ : ∃ r, L[k]? = some r := ⟨_, List.getElem?_eq_getElem hlt⟩
      obtain ⟨g, rfl, hg, e0, -, -⟩ := H3.out k r hrr
      have hki : (k : Int) < (L.length : Int) := by omega
      have hs := remN_drop (l := bytesOf L) (j := k) (by rw [HLEN.out]; exact hlt)
      rw [get_bytes hrr] at hs
      clear hrr
      by_cases h10 : r.c = 10
      · have b1 : (((r.c.toNat : Nat) : Int) == 10) = true := by rw [h10]; rfl
        have b2 : (((r.c.toNat : Nat) : Int) != 10) = false := by rw [h10]; rfl
        rw [if_pos h10] at hs
        have HX : Hid (i + remN ((bytesOf L).drop i) = k) := Lib.hid (by rw [HR.out, hs]; rfl)
        clear h10 hs
        go_wp2
        go_ret2
        rw [HX.out]
        exact ⟨rfl, rfl⟩
      · have b1 : (((r.c.toNat : Nat) : Int) == 10) = false := byte_neB (n := 10) (by omega) h10
        have b2 : (((r.c.toNat : Nat) : Int) != 10) = true := by rw [bne, b1]; rfl
        rw [if_neg h10] at hs
        have HX : Hid (i + remN ((bytesOf L).drop i) = k + 1 + remN ((bytesOf L).drop (k + 1))) := Lib.hid (by rw [HR.out, hs]; omega)
        clear h10 hs
        go_wp2
        go_round
        case rel => exact ⟨k + 1, by go_num, by omega, by omega, HX.out⟩
        case measure => simp [intOf]; omega
    · have hki : ¬ (k : Int) < (L.length : Int) := by omega
      have HX : Hid (i + remN ((bytesOf L).drop i) = k) := Lib.hid (by
        rw [HR.out, List.drop_eq_nil_of_le (by rw [HLEN.out]; omega)]
        rfl)
      go_wp2
      go_ret2
      rw [HX.out]
      exact ⟨rfl, rfl⟩

set_option maxRecDepth 100000 in
set_option maxHeartbeats 6400000 in
theorem rcom_com {L : List Rn} {v : Value} {w : World} (h : RsAt L v w) (i : Nat) (_hL : L.length ≤ 1000000) (_hi : i < L.length) (hc : (bytesOf L).getD i 0 = 47 ∧ (bytesOf L).getD (i + 1) 0 = 42) : Calls Try.prog 23 #[v, .int .i64 (i : Int)] w (ComPost (rcom (bytesOf L) i) w) := by
  have hR : rcom (bytesOf L) i = comOut (bytesOf L).length i (comN ((bytesOf L).drop (i + 2))) := by
    unfold rcom
    rw [if_neg (by rw [hc.2]; rintro ⟨-, h⟩; revert h; decide), if_pos hc]
  rw [hR]
  have hlen := bytesOf_len L
  have hi1 : i + 1 < L.length := by
    have := getD_lt (l := bytesOf L) (i := i + 1) (by rw [hc.2]; decide)
    rw [hlen] at this
    exact this
  have A0 := rat_any h i (x := (i : Int)) rfl
  have A1 := rat_any h (i + 1) (x := (i : Int) + 1) (by omega)
  rw [hc.1] at A0
  rw [hc.2] at A1
  have HA0 : Hid (Calls Try.prog 38 #[v, .int .i64 (i : Int)] w fun e w' => e = .returned (.int .u8 47) ∧ w = w') := Lib.hid A0
  have HA1 : Hid (Calls Try.prog 38 #[v, .int .i64 ((i : Int) + 1)] w fun e w' => e = .returned (.int .u8 42) ∧ w = w') := Lib.hid A1
  have AK : Hid (∀ (j : Nat) (c : UInt8), (bytesOf L).getD (j + 1) 0 = c → Calls Try.prog 38 #[v, .int .i64 ((j : Int) + 1)] w (BytePost c w)) := Lib.hid (fun j c hc => hc ▸ rat_any h (j + 1) (by omega))
  obtain ⟨a, cap, rfl, h1, h2, h3⟩ := h
  unfold maxLen at h2
  have H3 := Lib.hid h3
  have HLEN := Lib.hid hlen
  obtain ⟨o, ho⟩ : ∃ o, comN ((bytesOf L).drop (i + 2)) = o := ⟨_, rfl⟩
  have HO := Lib.hid ho
  rw [ho]
  clear A0 A1 h3 hlen hc hR ho
  go_enter Try.func23, Try.ntmps23
  go_wp2_with (first
    | (go_at_call 38; (with_reducible refine HA0.out.mono ?_); rintro e w' ⟨rfl, rfl⟩)
    | (go_at_call 38; (with_reducible refine HA1.out.mono ?_); rintro e w' ⟨rfl, rfl⟩))
  go_loop [7] (fun j => ∃ k : Nat, j = .int .i64 (k : Int) ∧ i + 2 ≤ k ∧ k ≤ L.length ∧ o = (comN ((bytesOf L).drop k)).map (· + (k - (i + 2)))) (fun j => L.length - (intOf j).toNat)
  case atStart => exact ⟨i + 2, by go_num, Nat.le_refl _, by omega, by rw [HO.out]; simp⟩
  case round =>
    obtain ⟨k, rfl, hik, hkl, hr⟩ := hrel
    have HR := Lib.hid hr
    clear hr
    by_cases hlt : k < L.length
    · obtain ⟨r, hrr⟩ : ∃ r, L[k]? = some r := ⟨_, List.getElem?_eq_getElem hlt⟩
      obtain ⟨g, rfl, hg, e0, -, -⟩ := H3.out k r hrr
      have hki : (k : Int) < (L.length : Int) := by omega
      have hs := comN_step (l := bytesOf L) (i := k) (by rw [HLEN.out]; exact hlt)
      rw [get_bytes hrr] at hs
      obtain ⟨d, hd⟩ : ∃ d, (bytesOf L).getD (k + 1) 0 = d := ⟨_, rfl⟩
      have HK := Lib.hid (AK.out k d hd)
      rw [hd] at hs
      clear hrr hd
      by_cases h42 : r.c = 42
      · have b1 : (((r.c.toNat : Nat) : Int) == 42) = true := by rw [h42]; rfl
        by_cases h47 : d = 47
        · have b2 : (((d.toNat : Nat) : Int) == 47) = true := by rw [h47]; rfl
          rw [if_pos ⟨h42, h47⟩] at hs
          have HX : Hid (o = some (2 + (k - (i + 2)))) := Lib.hid (by rw [HR.out, hs]; rfl)
          clear h42 h47 hs
          go_wp2_with (go_at_call 38; (with_reducible refine HK.out.mono ?_); rintro e w' ⟨rfl, rfl⟩)
          go_ret2
          rw [HX.out]
          refine ⟨?_, rfl⟩
          show Ending.returned (.tuple #[.int .i64 ((k : Int) + 2), .bool false]) = .returned (.tuple #[.int .i64 ((i + 2 + (2 + (k - (i + 2))) : Nat) : Int), .bool false])
          rw [show i + 2 + (2 + (k - (i + 2))) = k + 2 from by omega]
          rfl
        · have b2 : (((d.toNat : Nat) : Int) == 47) = false := byte_neB (n := 47) (by omega) h47
          rw [if_neg (fun h => h47 h.2)] at hs
          have HX : Hid (o = (comN ((bytesOf L).drop (k + 1))).map (· + (k + 1 - (i + 2)))) := Lib.hid (by
            rw [HR.out, hs, Option.map_map]
            congr 1
            funext n
            simp
            omega)
          clear h42 h47 hs
          go_wp2_with (go_at_call 38; (with_reducible refine HK.out.mono ?_); rintro e w' ⟨rfl, rfl⟩)
          go_round
          case rel => exact ⟨k + 1, by go_num, by omega, by omega, HX.out⟩
          case measure => simp [intOf]; omega
      · have b1 : (((r.c.toNat : Nat) : Int) == 42) = false := byte_neB (n := 42) (by omega) h42
        rw [if_neg (fun h => h42 h.1)] at hs
        have HX : Hid (o = (comN ((bytesOf L).drop (k + 1))).map (· + (k + 1 - (i + 2)))) := Lib.hid (by
          rw [HR.out, hs, Option.map_map]
          congr 1
          funext n
          simp
          omega)
        clear h42 hs
        go_wp2
        go_round
        case rel => exact ⟨k + 1, by go_num, by omega, by omega, HX.out⟩
        case measure => simp [intOf]; omega
    · have hki : ¬ (k : Int) < (L.length : Int) := by omega
      have HX : Hid (o = none) := Lib.hid (by
        rw [HR.out, List.drop_eq_nil_of_le (by rw [HLEN.out]; omega)]
        rfl)
      go_wp2
      go_ret2
      rw [HX.out]
      refine ⟨?_, rfl⟩
      show Ending.returned (.tuple #[.int .i64 (L.length : Int), .bool true]) = .returned (.tuple #[.int .i64 ((bytesOf L).length : Int), .bool true])
      rw [HLEN.out]

theorem rcomment_any {L : List Rn} {v : Value} {w : World} (h : RsAt L v w) (i : Nat) (hL : L.length ≤ 1000000) (hi : i < L.length) : Calls Try.prog 23 #[v, .int .i64 (i : Int)] w (ComPost (rcom (bytesOf L) i) w) := by
  by_cases h0 : (bytesOf L).getD i 0 = 47
  · by_cases h1 : (bytesOf L).getD (i + 1) 0 = 47
    · exact rcom_rem h i hL hi ⟨h0, h1⟩
    · by_cases h2 : (bytesOf L).getD (i + 1) 0 = 42
      · exact rcom_com h i hL hi ⟨h0, h2⟩
      · exact rcom_no h i (by omega) (.inr ⟨h1, h2⟩)
  · exact rcom_no h i (by omega) (.inl h0)

end Go.Proofs.Ytpnboieppkjfnaa
