/-
  Texts of the proof, put together: RxCo, RxT, RxP.
-/
import Derived.Test.YtobplffailbkbaaG15
import Derived.Test.YtobplffailbkbaaG08
import Derived.Test.YtobplffailbkbaaG10
import Derived.BigQuiet
import Derived.IntWalk

/-
  The document's own comment and text, walked.
-/
namespace Go.Proofs.Ytobplffailbkbaa
open Go.RowKit

def comOut (n i : Nat) : Option Nat → Nat × Bool
  | some k => (i + 2 + k, false)
  | none => (n, true)

/-- Where a comment ends that begins at a place, and whether it does not. -/
def rcom (l : List UInt8) (i : Nat) : Nat × Bool :=
  if l.getD i 0 = 47 ∧ l.getD (i + 1) 0 = 47 then (i + remN (l.drop i), false)
  else if l.getD i 0 = 47 ∧ l.getD (i + 1) 0 = 42 then comOut l.length i (comN (l.drop (i + 2))) else (i, false)

def ComPost (r : Nat × Bool) (w : World) (e : Ending) (w' : World) : Prop := e = .returned (.tuple #[.int .i64 (r.1 : Int), .bool r.2]) ∧ w = w'

theorem com_none {l : List UInt8} {i : Nat} (h : l.getD i 0 ≠ 47 ∨ (l.getD (i + 1) 0 ≠ 47 ∧ l.getD (i + 1) 0 ≠ 42)) : rcom l i = (i, false) := by
  unfold rcom
  rw [if_neg, if_neg]
  · rintro ⟨h1, h2⟩
    rcases h with h | h
    · exact h h1
    · exact h.2 h2
  · rintro ⟨h1, h2⟩
    rcases h with h | h
    · exact h h1
    · exact h.1 h2

set_option maxRecDepth 100000 in
set_option maxHeartbeats 3200000 in
theorem rcom_no {L : List Rn} {v : Value} {w : World} (h : RsAt L v w) (i : Nat) (hi : i ≤ 1000000) (hc : (bytesOf L).getD i 0 ≠ 47 ∨ ((bytesOf L).getD (i + 1) 0 ≠ 47 ∧ (bytesOf L).getD (i + 1) 0 ≠ 42)) : Calls Try.prog 41 #[v, .int .i64 (i : Int)] w (ComPost (rcom (bytesOf L) i) w) := by
  rw [com_none hc]
  have A0 := rat_any h i (x := (i : Int)) rfl
  have A1 := rat_any h (i + 1) (x := (i : Int) + 1) (by omega)
  obtain ⟨c0, hc0⟩ : ∃ c0, (bytesOf L).getD i 0 = c0 := ⟨_, rfl⟩
  obtain ⟨c1, hc1⟩ : ∃ c1, (bytesOf L).getD (i + 1) 0 = c1 := ⟨_, rfl⟩
  rw [hc0] at A0 hc
  rw [hc1] at A1 hc
  have HA0 := Lib.hid A0
  have HA1 := Lib.hid A1
  clear A0 A1 hc0 hc1 h
  by_cases h47 : c0 = 47
  · have x1 : (((c0.toNat : Nat) : Int) == 47) = true := byte_eqB (n := 47) (by omega) h47
    have x2 : (((c0.toNat : Nat) : Int) != 47) = false := by rw [bne, x1]; rfl
    have hc2 := hc.resolve_left (fun e => e h47)
    have y1 : (((c1.toNat : Nat) : Int) == 47) = false := byte_neB (n := 47) (by omega) hc2.1
    have y2 : (((c1.toNat : Nat) : Int) == 42) = false := byte_neB (n := 42) (by omega) hc2.2
    have y3 : (((c1.toNat : Nat) : Int) != 42) = true := by rw [bne, y2]; rfl
    clear hc hc2 h47
    go_enter Try.func41, Try.ntmps41
    go_wp2_with (first
      | (go_at_call 61; (with_reducible refine HA0.out.mono ?_); rintro e w' ⟨rfl, rfl⟩)
      | (go_at_call 61; (with_reducible refine HA1.out.mono ?_); rintro e w' ⟨rfl, rfl⟩))
    go_ret2
    exact ⟨rfl, rfl⟩
  · have x1 : (((c0.toNat : Nat) : Int) == 47) = false := byte_neB (n := 47) (by omega) h47
    have x2 : (((c0.toNat : Nat) : Int) != 47) = true := by rw [bne, x1]; rfl
    clear hc h47
    go_enter Try.func41, Try.ntmps41
    go_wp2_with (go_at_call 61; (with_reducible refine HA0.out.mono ?_); rintro e w' ⟨rfl, rfl⟩)
    go_ret2
    exact ⟨rfl, rfl⟩

theorem remN_drop {l : List UInt8} {j : Nat} (h : j < l.length) : remN (l.drop j) = if l.getD j 0 = 10 then 0 else remN (l.drop (j + 1)) + 1 := by
  rw [drop_cons h]
  rfl

set_option maxRecDepth 100000 in
set_option maxHeartbeats 3200000 in
theorem rcom_rem {L : List Rn} {v : Value} {w : World} (h : RsAt L v w) (i : Nat) (_hL : L.length ≤ 1000000) (hi : i < L.length) (hc : (bytesOf L).getD i 0 = 47 ∧ (bytesOf L).getD (i + 1) 0 = 47) : Calls Try.prog 41 #[v, .int .i64 (i : Int)] w (ComPost (rcom (bytesOf L) i) w) := by
  have hR : rcom (bytesOf L) i = (i + remN ((bytesOf L).drop i), false) := by unfold rcom; rw [if_pos hc]
  rw [hR]
  have hlen := bytesOf_len L
  have A0 := rat_any h i (x := (i : Int)) rfl
  have A1 := rat_any h (i + 1) (x := (i : Int) + 1) (by omega)
  rw [hc.1] at A0
  rw [hc.2] at A1
  have HA0 : Hid (Calls Try.prog 61 #[v, .int .i64 (i : Int)] w fun e w' => e = .returned (.int .u8 47) ∧ w = w') := Lib.hid A0
  have HA1 : Hid (Calls Try.prog 61 #[v, .int .i64 ((i : Int) + 1)] w fun e w' => e = .returned (.int .u8 47) ∧ w = w') := Lib.hid A1
  obtain ⟨a, cap, rfl, h1, h2, h3⟩ := h
  unfold maxLen at h2
  have H3 := Lib.hid h3
  have HLEN := Lib.hid hlen
  clear A0 A1 h3 hlen hc hR
  go_enter Try.func41, Try.ntmps41
  go_wp2_with (first
    | (go_at_call 61; (with_reducible refine HA0.out.mono ?_); rintro e w' ⟨rfl, rfl⟩)
    | (go_at_call 61; (with_reducible refine HA1.out.mono ?_); rintro e w' ⟨rfl, rfl⟩))
  go_loop [6] (fun j => ∃ k : Nat, j = .int .i64 (k : Int) ∧ i ≤ k ∧ k ≤ L.length ∧ i + remN ((bytesOf L).drop i) = k + remN ((bytesOf L).drop k)) (fun j => L.length - (intOf j).toNat)
  case atStart => exact ⟨i, rfl, Nat.le_refl _, by omega, rfl⟩
  case round =>
    obtain ⟨k, rfl, hik, hkl, hr⟩ := hrel
    have HR := Lib.hid hr
    clear hr
    by_cases hlt : k < L.length
    · obtain ⟨r, hrr⟩ : ∃ r, L[k]? = some r := ⟨_, List.getElem?_eq_getElem hlt⟩
      obtain ⟨g, rfl, hg, e0, -, -⟩ := H3.out k r hrr
      have hki : (k : Int) < (L.length : Int) := by omega
      have hs := remN_drop (l := bytesOf L) (j := k) (by rw [HLEN.out]; exact hlt)
      rw [get_bytes hrr] at hs
      clear hrr
      by_cases h10 : r.c = 10
      · have b1 : (((r.c.toNat : Nat) : Int) == 10) = true := by rw [h10]; rfl
        have b2 : (((r.c.toNat : Nat) : Int) != 10) = false := by rw [h10]; rfl
        rw [if_pos h10] at hs
        have HX : Hid (i + remN ((bytesOf L).drop i) = k) := Lib.hid (by rw [HR.out, hs]; rfl)
        clear h10 hs
        go_wp2
        go_ret2
        rw [HX.out]
        exact ⟨rfl, rfl⟩
      · have b1 : (((r.c.toNat : Nat) : Int) == 10) = false := byte_neB (n := 10) (by omega) h10
        have b2 : (((r.c.toNat : Nat) : Int) != 10) = true := by rw [bne, b1]; rfl
        rw [if_neg h10] at hs
        have HX : Hid (i + remN ((bytesOf L).drop i) = k + 1 + remN ((bytesOf L).drop (k + 1))) := Lib.hid (by rw [HR.out, hs]; omega)
        clear h10 hs
        go_wp2
        go_round
        case rel => exact ⟨k + 1, by go_num, by omega, by omega, HX.out⟩
        case measure => simp [intOf]; omega
    · have hki : ¬ (k : Int) < (L.length : Int) := by omega
      have HX : Hid (i + remN ((bytesOf L).drop i) = k) := Lib.hid (by
        rw [HR.out, List.drop_eq_nil_of_le (by rw [HLEN.out]; omega)]
        rfl)
      go_wp2
      go_ret2
      rw [HX.out]
      exact ⟨rfl, rfl⟩

set_option maxRecDepth 100000 in
set_option maxHeartbeats 6400000 in
theorem rcom_com {L : List Rn} {v : Value} {w : World} (h : RsAt L v w) (i : Nat) (_hL : L.length ≤ 1000000) (_hi : i < L.length) (hc : (bytesOf L).getD i 0 = 47 ∧ (bytesOf L).getD (i + 1) 0 = 42) : Calls Try.prog 41 #[v, .int .i64 (i : Int)] w (ComPost (rcom (bytesOf L) i) w) := by
  have hR : rcom (bytesOf L) i = comOut (bytesOf L).length i (comN ((bytesOf L).drop (i + 2))) := by
    unfold rcom
    rw [if_neg (by rw [hc.2]; rintro ⟨-, h⟩; revert h; decide), if_pos hc]
  rw [hR]
  have hlen := bytesOf_len L
  have hi1 : i + 1 < L.length := by
    have := getD_lt (l := bytesOf L) (i := i + 1) (by rw [hc.2]; decide)
    rw [hlen] at this
    exact this
  have A0 := rat_any h i (x := (i : Int)) rfl
  have A1 := rat_any h (i + 1) (x := (i : Int) + 1) (by omega)
  rw [hc.1] at A0
  rw [hc.2] at A1
  have HA0 : Hid (Calls Try.prog 61 #[v, .int .i64 (i : Int)] w fun e w' => e = .returned (.int .u8 47) ∧ w = w') := Lib.hid A0
  have HA1 : Hid (Calls Try.prog 61 #[v, .int .i64 ((i : Int) + 1)] w fun e w' => e = .returned (.int .u8 42) ∧ w = w') := Lib.hid A1
  have AK : Hid (∀ (j : Nat) (c : UInt8), (bytesOf L).getD (j + 1) 0 = c → Calls Try.prog 61 #[v, .int .i64 ((j : Int) + 1)] w (BytePost c w)) := Lib.hid (fun j c hc => hc ▸ rat_any h (j + 1) (by omega))
  obtain ⟨a, cap, rfl, h1, h2, h3⟩ := h
  unfold maxLen at h2
  have H3 := Lib.hid h3
  have HLEN := Lib.hid hlen
  obtain ⟨o, ho⟩ : ∃ o, comN ((bytesOf L).drop (i + 2)) = o := ⟨_, rfl⟩
  have HO := Lib.hid ho
  rw [ho]
  clear A0 A1 h3 hlen hc hR ho
  go_enter Try.func41, Try.ntmps41
  go_wp2_with (first
    | (go_at_call 61; (with_reducible refine HA0.out.mono ?_); rintro e w' ⟨rfl, rfl⟩)
    | (go_at_call 61; (with_reducible refine HA1.out.mono ?_); rintro e w' ⟨rfl, rfl⟩))
  go_loop [7] (fun j => ∃ k : Nat, j = .int .i64 (k : Int) ∧ i + 2 ≤ k ∧ k ≤ L.length ∧ o = (comN ((bytesOf L).drop k)).map (· + (k - (i + 2)))) (fun j => L.length - (intOf j).toNat)
  case atStart => exact ⟨i + 2, by go_num, Nat.le_refl _, by omega, by rw [HO.out]; simp⟩
  case round =>
    obtain ⟨k, rfl, hik, hkl, hr⟩ := hrel
    have HR := Lib.hid hr
    clear hr
    by_cases hlt : k < L.length
    · obtain ⟨r, hrr⟩ : ∃ r, L[k]? = some r := ⟨_, List.getElem?_eq_getElem hlt⟩
      obtain ⟨g, rfl, hg, e0, -, -⟩ := H3.out k r hrr
      have hki : (k : Int) < (L.length : Int) := by omega
      have hs := comN_step (l := bytesOf L) (i := k) (by rw [HLEN.out]; exact hlt)
      rw [get_bytes hrr] at hs
      obtain ⟨d, hd⟩ : ∃ d, (bytesOf L).getD (k + 1) 0 = d := ⟨_, rfl⟩
      have HK := Lib.hid (AK.out k d hd)
      rw [hd] at hs
      clear hrr hd
      by_cases h42 : r.c = 42
      · have b1 : (((r.c.toNat : Nat) : Int) == 42) = true := by rw [h42]; rfl
        by_cases h47 : d = 47
        · have b2 : (((d.toNat : Nat) : Int) == 47) = true := by rw [h47]; rfl
          rw [if_pos ⟨h42, h47⟩] at hs
          have HX : Hid (o = some (2 + (k - (i + 2)))) := Lib.hid (by rw [HR.out, hs]; rfl)
          clear h42 h47 hs
          go_wp2_with (go_at_call 61; (with_reducible refine HK.out.mono ?_); rintro e w' ⟨rfl, rfl⟩)
          go_ret2
          rw [HX.out]
          refine ⟨?_, rfl⟩
          show Ending.returned (.tuple #[.int .i64 ((k : Int) + 2), .bool false]) = .returned (.tuple #[.int .i64 ((i + 2 + (2 + (k - (i + 2))) : Nat) : Int), .bool false])
          rw [show i + 2 + (2 + (k - (i + 2))) = k + 2 from by omega]
          rfl
        · have b2 : (((d.toNat : Nat) : Int) == 47) = false := byte_neB (n := 47) (by omega) h47
          rw [if_neg (fun h => h47 h.2)] at hs
          have HX : Hid (o = (comN ((bytesOf L).drop (k + 1))).map (· + (k + 1 - (i + 2)))) := Lib.hid (by
            rw [HR.out, hs, Option.map_map]
            congr 1
            funext n
            simp
            omega)
          clear h42 h47 hs
          go_wp2_with (go_at_call 61; (with_reducible refine HK.out.mono ?_); rintro e w' ⟨rfl, rfl⟩)
          go_round
          case rel => exact ⟨k + 1, by go_num, by omega, by omega, HX.out⟩
          case measure => simp [intOf]; omega
      · have b1 : (((r.c.toNat : Nat) : Int) == 42) = false := byte_neB (n := 42) (by omega) h42
        rw [if_neg (fun h => h42 h.1)] at hs
        have HX : Hid (o = (comN ((bytesOf L).drop (k + 1))).map (· + (k + 1 - (i + 2)))) := Lib.hid (by
          rw [HR.out, hs, Option.map_map]
          congr 1
          funext n
          simp
          omega)
        clear h42 hs
        go_wp2
        go_round
        case rel => exact ⟨k + 1, by go_num, by omega, by omega, HX.out⟩
        case measure => simp [intOf]; omega
    · have hki : ¬ (k : Int) < (L.length : Int) := by omega
      have HX : Hid (o = none) := Lib.hid (by
        rw [HR.out, List.drop_eq_nil_of_le (by rw [HLEN.out]; omega)]
        rfl)
      go_wp2
      go_ret2
      rw [HX.out]
      refine ⟨?_, rfl⟩
      show Ending.returned (.tuple #[.int .i64 (L.length : Int), .bool true]) = .returned (.tuple #[.int .i64 ((bytesOf L).length : Int), .bool true])
      rw [HLEN.out]

theorem rcomment_any {L : List Rn} {v : Value} {w : World} (h : RsAt L v w) (i : Nat) (hL : L.length ≤ 1000000) (hi : i < L.length) : Calls Try.prog 41 #[v, .int .i64 (i : Int)] w (ComPost (rcom (bytesOf L) i) w) := by
  by_cases h0 : (bytesOf L).getD i 0 = 47
  · by_cases h1 : (bytesOf L).getD (i + 1) 0 = 47
    · exact rcom_rem h i hL hi ⟨h0, h1⟩
    · by_cases h2 : (bytesOf L).getD (i + 1) 0 = 42
      · exact rcom_com h i hL hi ⟨h0, h2⟩
      · exact rcom_no h i (by omega) (.inr ⟨h1, h2⟩)
  · exact rcom_no h i (by omega) (.inl h0)

end Go.Proofs.Ytobplffailbkbaa

/-
  The document's own text of characters, walked.
-/
namespace Go.Proofs.Ytobplffailbkbaa
open Go.RowKit

/-- A part of a row of the document's characters, as its signs are read. -/
def TsAt (T : List Rn) (v : Value) (w : World) : Prop :=
  ∃ g o cap, v = .slice (some ⟨g, o, none⟩) T.length cap ∧ T.length ≤ cap ∧ cap ≤ maxLen ∧ ∀ k r, T[k]? = some r → g < w.heap.size ∧ w.cell? ⟨g, o + k * 3, none⟩ = some (.int .u8 (r.c.toNat : Int))

def RTextRel (W : World) (C : List Rn) (o i : Value) (w : World) : Prop :=
  ∃ (k : Nat) (bs : List UInt8) (ad : Option Addr) (n cap : Nat), i = .int .i64 (k : Int) ∧ k ≤ C.length ∧ o = .slice ad n cap ∧ n = bs.length ∧ bs.length = k ∧ bs ++ bytesOf (C.drop k) = bytesOf C ∧ BRow W o bs w

theorem rtext_in {W : World} {C : List Rn} {k : Nat} {bs : List UInt8} {w : World} {ad : Option Addr} {cap : Nat} {r : Rn} {i : Int} (hi : i = ((k + 1 : Nat) : Int)) (hr : C[k]? = some r) (hk : k < C.length) (hLk : bs.length = k) (hL : bs ++ bytesOf (C.drop k) = bytesOf C) (hU : BRow W (.slice ad (bs.length + 1) cap) (bs ++ [r.c]) w) :
    RTextRel W C (.slice ad (bs.length + 1) cap) (.int .i64 i) w := by
  refine ⟨k + 1, bs ++ [r.c], ad, bs.length + 1, cap, by rw [hi], hk, rfl, by simp, by simp; omega, ?_, hU⟩
  rw [← hL, drop_get hr, List.append_assoc]
  rfl

set_option maxRecDepth 100000 in
set_option maxHeartbeats 1600000 in
theorem rtext_any {C : List Rn} {v : Value} {w : World} (h : TsAt C v w) (hs : C.length ≤ 1000000) : Calls Try.prog 44 #[v] w (TextPost w (bytesOf C)) := by
  obtain ⟨i0, hi, hz0, hz1, hz2⟩ := info_parts Try.infoByte
  obtain ⟨g, off, cp, rfl, hc1, hc2, hcell⟩ := h
  have HC := Lib.hid hcell
  have R0 : Up w 5 1 (.slice none 0 0) 0 [] w := up_nil w _ 1
  have HR0 := Lib.hid R0
  obtain ⟨B, hB⟩ : ∃ B, bytesOf C = B := ⟨_, rfl⟩
  have HBB := Lib.hid hB
  rw [hB]
  unfold maxLen at hc2
  clear hcell R0 hB
  go_enter Try.func44, Try.ntmps44
  go_wp2
  go_loopw [3, 4] (fun o i w' => RTextRel w C o i w') (fun _ i _ => C.length - (intOf i).toNat)
  case atStart => exact ⟨0, [], none, 0, 0, rfl, Nat.zero_le _, rfl, rfl, rfl, rfl, HR0.out⟩
  case round =>
    obtain ⟨k, bs, ad, n, cap, rfl, hk, rfl, rfl, hLk, hL, hU⟩ := hrel
    have HU := Lib.hid hU
    have HLL := Lib.hid hL
    have HLk := Lib.hid hLk
    clear hU hL hLk
    by_cases hlt : k < C.length
    · obtain ⟨r, hr⟩ : ∃ r, C[k]? = some r := ⟨_, List.getElem?_eq_getElem hlt⟩
      obtain ⟨hg, d0⟩ := HC.out k r hr
      have e0 := Up.cell HU.out hg d0
      have HR := Lib.hid hr
      have hki : (k : Int) < (C.length : Int) := by omega
      have hbs : bs.length < 1000000 := by have := HLk.out; omega
      clear d0 hr
      go_wp2_with (at_builtin; refine wpList_append_ex rfl (.tmp 11) (.tmp 17) 35 rfl _ (app_up Try.underlying35 hi hz0 hz1 hz2 rfl (by decide) (by decide) (HU.out.alloc _) (src_one _ _ _) byte_one (by omega)) ?_; intro v2 w3 hu2; obtain ⟨a3, cap3, rfl, -, -, -⟩ := row_form hu2.1; have U3 := Lib.hid (BRow.push r.c hu2 rfl); clear hu2)
      go_roundw
      case rel => exact rtext_in (by simp) HR.out hlt HLk.out HLL.out U3.out
      case measure => simp [intOf]; omega
    · have hki : ¬ (k : Int) < (C.length : Int) := by omega
      have ht := brow_text HU.out
      go_wp2
      go_ret
      have h3 := HLL.out
      rw [List.drop_eq_nil_of_le (by omega : C.length ≤ k), show bytesOf [] = [] from rfl, List.append_nil, HBB.out] at h3
      rw [← h3]
      exact ⟨rfl, HU.out.2⟩

end Go.Proofs.Ytobplffailbkbaa

/-
  The document's own punctuators, walked.
-/
namespace Go.Proofs.Ytobplffailbkbaa
open Go.RowKit

def pfind (P : List (List UInt8)) (l : List UInt8) : Nat := match P.find? (fun p => p.isPrefixOf l) with
  | some p => p.length
  | none => 0
theorem pfind_all (l : List UInt8) : pfind PL l = punctN l := rfl
theorem pfind_hit {p : List UInt8} {P : List (List UInt8)} {l : List UInt8} (h : p.isPrefixOf l = true) : pfind (p :: P) l = p.length := by
  unfold pfind
  rw [List.find?_cons, h]
theorem pfind_miss {p : List UInt8} {P : List (List UInt8)} {l : List UInt8} (h : p.isPrefixOf l = false) : pfind (p :: P) l = pfind P l := by
  unfold pfind
  rw [List.find?_cons, h]
theorem PL_drop {k : Nat} {p : List UInt8} (h : PL[k]? = some p) : PL.drop k = p :: PL.drop (k + 1) := by
  obtain ⟨hk, rfl⟩ := List.getElem?_eq_some_iff.1 h
  exact List.drop_eq_getElem_cons hk
theorem PL_nz : ∀ p ∈ PL, ∀ c ∈ p, c ≠ 0 := by decide

/-- One byte of a punctuator further. -/
theorem pre_step {p l : List UInt8} {i j : Nat} (hp : ∀ c ∈ p, c ≠ 0) (h : j < p.length) : (p.drop j).isPrefixOf (l.drop (i + j)) = (decide (l.getD (i + j) 0 = p.getD j 0) && (p.drop (j + 1)).isPrefixOf (l.drop (i + (j + 1)))) := by
  rw [drop_cons h]
  rcases Nat.lt_or_ge (i + j) l.length with h1 | h1
  · rw [drop_cons h1, List.isPrefixOf_cons_cons]
    congr 1
    rw [Bool.eq_iff_iff, beq_iff_eq, decide_eq_true_iff]
    exact ⟨Eq.symm, Eq.symm⟩
  · rw [List.drop_eq_nil_of_le h1]
    have : l.getD (i + j) 0 = 0 := by simp [List.getD, List.getElem?_eq_none h1]
    rw [this]
    have hm : p.getD j 0 ∈ p := by
      have : p.getD j 0 = p[j] := by simp [List.getD, h]
      rw [this]
      exact List.getElem_mem h
    have hn := hp _ hm
    rw [decide_eq_false (fun e => hn e.symm)]
    rfl

def PuncAt (g : Nat) (w : World) : Prop := ∀ k p, PL[k]? = some p → w.cell? ⟨g, k, none⟩ = some (.string ⟨p.toArray⟩)
def PuncPost (w : World) (e : Ending) (w' : World) : Prop := ∃ g, e = .returned (.slice (some ⟨g, 0, none⟩) 54 54) ∧ PuncAt g w' ∧ Below w.heap.size w w'

theorem punc_cells (w : World) {cs : Array Value} {T : TypeId} (h : cs.toList = PL.map fun p => .string ⟨p.toArray⟩) : PuncAt w.heap.size (w.alloc (.cells cs T)) := by
  intro k p hp
  refine bcell_new (Below.refl _ _) ?_
  rw [← Array.getElem?_toList, h, List.getElem?_map, hp]
  rfl

set_option maxRecDepth 100000 in
set_option maxHeartbeats 3200000 in
theorem rpuncts_any (w : World) : Calls Try.prog 82 #[] w (PuncPost w) := by
  go_enter Try.func82, Try.ntmps82
  go_wp2
  go_ret
  exact ⟨w.heap.size, rfl, punc_cells w rfl, (Below.refl _ _).alloc (Nat.le_refl _) _⟩

theorem quiet_byte {f : FuncId} {args : Array Value} {w : World} {n : Nat} {b : UInt8} (h : Calls Try.prog f args (w.drewN n) (BytePost b (w.drewN n))) :
    Calls Try.prog f args (w.drewN n) fun e w'' => e = .returned (.int .u8 (b.toNat : Int)) ∧ ∃ m, w'' = w.drewN m :=
  h.mono fun _ _ ⟨he, hm⟩ => ⟨he, n, hm.symm⟩

def NumBelow (n : Nat) (w : World) (e : Ending) (w' : World) : Prop := e = .returned (.int .i64 (n : Int)) ∧ Below w.heap.size w w'

set_option maxRecDepth 100000 in
set_option maxHeartbeats 3200000 in
theorem rpunct_any {L : List Rn} {v : Value} {w : World} (h : RsAt L v w) (i : Nat) (hi : i ≤ 1000000) : Calls Try.prog 66 #[v, .int .i64 (i : Int)] w (NumBelow (punctN ((bytesOf L).drop i)) w) := by
  have H := Lib.hid h
  obtain ⟨l, hl⟩ : ∃ l, bytesOf L = l := ⟨_, rfl⟩
  have HL := Lib.hid hl
  rw [hl]
  clear h hl
  go_enter Try.func66, Try.ntmps66
  go_wp2_with (go_at_call 82; (with_reducible refine (rpuncts_any _).mono ?_); rintro e w1 ⟨g, rfl, hp, hb⟩; have HP := Lib.hid hp; have HB := Lib.hid hb; clear hp hb)
  have H1 := Lib.hid (H.out.next HB.out)
  go_loopw [6] (fun k wr => ∃ (kn m : Nat), k = .int .i64 (kn : Int) ∧ kn ≤ 54 ∧ wr = w1.drewN m ∧ pfind (PL.drop kn) (l.drop i) = punctN (l.drop i)) (fun k _ => 54 - (intOf k).toNat)
  case atStart => exact ⟨0, 0, rfl, Nat.zero_le _, rfl, pfind_all _⟩
  case round =>
    obtain ⟨k, m, rfl, hk, hw, hf⟩ := hrel
    have HW := Lib.hid hw
    have HF := Lib.hid hf
    clear hw hf
    by_cases hlt : k < 54
    · obtain ⟨p, hp⟩ : ∃ p, PL[k]? = some p := ⟨_, List.getElem?_eq_getElem (by show k < 54; exact hlt)⟩
      have hkI : (k : Int) < 54 := by omega
      have hm := List.mem_of_getElem? hp
      have hsz := PL_len p hm
      obtain ⟨s, hs⟩ : ∃ s : ByteArray, s = ⟨p.toArray⟩ := ⟨_, rfl⟩
      have hsp : s.data.toList = p := by rw [hs]
      have HC : Hid (∀ n, (w1.drewN n).cell? ⟨g, k, none⟩ = some (.string s)) := Lib.hid (fun n => by rw [hs]; exact HP.out k p hp)
      have hss : s.size = p.length := by rw [← len_byte, hsp]
      rw [← hss] at hsz
      have HX := Lib.hid (show pfind (s.data.toList :: PL.drop (k + 1)) (l.drop i) = punctN (l.drop i) from by rw [hsp, ← PL_drop hp]; exact HF.out)
      have HZ := Lib.hid (show ∀ c ∈ s.data.toList, c ≠ 0 from by rw [hsp]; exact PL_nz p hm)
      clear hp hm hs hsp hss
      go_wp2
      go_loopw [7] (fun j wx => ∃ (jn n : Nat), j = .int .i64 (jn : Int) ∧ jn ≤ s.size ∧ wx = w1.drewN n ∧ (s.data.toList.drop jn).isPrefixOf (l.drop (i + jn)) = s.data.toList.isPrefixOf (l.drop i)) (fun j _ => s.size - (intOf j).toNat)
      case atStart => exact ⟨0, m, rfl, Nat.zero_le _, HW.out, rfl⟩
      case round =>
        obtain ⟨j, n, rfl, hj, hw, hx⟩ := hrel
        have e0 : wr.cell? ⟨g, k, none⟩ = some (.string s) := by rw [hw]; exact HC.out n
        have e1 : ∀ q, (wr.drewN q).cell? ⟨g, k, none⟩ = some (.string s) := fun q => e0
        have HA : Hid (∀ q, Calls Try.prog 61 #[v, .int .i64 ((i : Int) + (j : Int))] (wr.drewN q) (BytePost (l.getD (i + j) 0) (wr.drewN q))) := Lib.hid (fun q => by
          rw [← HL.out]
          refine rat_any ?_ (i + j) (by omega)
          rw [hw]
          rw [World.drewN_drewN]
          exact H1.out.next (Below.of_drews _ _))
        obtain ⟨c, hc⟩ : ∃ c, l.getD (i + j) 0 = c := ⟨_, rfl⟩
        rw [hc] at HA
        have HWW := Lib.hid hw
        have HXX := Lib.hid hx
        have HCC := Lib.hid hc
        clear hw hx hc
        by_cases hjs : j < s.size
        · have hst := pre_step (p := s.data.toList) (l := l) (i := i) (j := j) HZ.out (by rw [len_byte]; exact hjs)
          rw [HCC.out, get_byte s j hjs] at hst
          have hd : decide ((j : Int) < (s.size : Int)) = true := decide_eq_true (by omega)
          have hjI : (j : Int) < (s.size : Int) := by omega
          by_cases hcs : c = s[j]
          · have hb : (((c.toNat : Nat) : Int) == ((s[j].toNat : Nat) : Int)) = true := by rw [hcs]; simp
            have HN : Hid ((s.data.toList.drop (j + 1)).isPrefixOf (l.drop (i + (j + 1))) = s.data.toList.isPrefixOf (l.drop i)) := Lib.hid (by rw [← HXX.out, hst, decide_eq_true hcs]; rfl)
            have hwr : IntKind.i64.wrap ((i : Int) + (j : Int)) = (i : Int) + (j : Int) := IntWalk.i64_in _ (by omega)
            clear hcs hst
            go_wp2
            go_quiet ((go_at_call 61; exact quiet_byte (HA.out _)))
            clear hwr
            go_wp2
            go_roundw
            case rel => exact ⟨j + 1, _, by go_num, by omega, by rw [HWW.out, World.drewN_drewN], HN.out⟩
            case measure => simp [intOf]; omega
          · have hb : (((c.toNat : Nat) : Int) == ((s[j].toNat : Nat) : Int)) = false := by
              rw [beq_eq_false_iff_ne]
              intro e
              exact hcs (UInt8.toNat_inj.1 (by omega))
            have HN : Hid (s.data.toList.isPrefixOf (l.drop i) = false) := Lib.hid (by rw [← HXX.out, hst, decide_eq_false hcs]; rfl)
            have hwr : IntKind.i64.wrap ((i : Int) + (j : Int)) = (i : Int) + (j : Int) := IntWalk.i64_in _ (by omega)
            have hjn : ((j : Int) == (s.size : Int)) = false := by rw [beq_eq_false_iff_ne]; omega
            clear hcs hst
            go_wp2
            go_quiet ((go_at_call 61; exact quiet_byte (HA.out _)))
            clear hwr
            go_wp2
            go_roundw
            case rel => exact ⟨k + 1, _, by go_num, by omega, by rw [HWW.out, World.drewN_drewN], by rw [← HX.out, pfind_miss HN.out]⟩
            case measure => simp [intOf]; omega
        · have hje : j = s.size := by omega
          have hd : decide ((j : Int) < (s.size : Int)) = false := decide_eq_false (by omega)
          have hjn : ((j : Int) == (s.size : Int)) = true := by rw [beq_iff_eq]; omega
          have HN : Hid (s.data.toList.isPrefixOf (l.drop i) = true) := Lib.hid (by
            rw [← HXX.out, List.drop_eq_nil_of_le (by rw [len_byte]; omega)]
            rfl)
          go_wp2
          go_quiet (fail)
          go_wp2
          go_ret
          refine ⟨?_, ?_⟩
          · rw [← HX.out, pfind_hit HN.out, len_byte, ← hje]
            rfl
          · rw [HWW.out, World.drewN_drewN]
            exact HB.out.trans ((Below.of_drews _ _).mono HB.out.size)
    · have hkI : ¬ (k : Int) < 54 := by omega
      have hk2 : k = 54 := by omega
      go_wp2
      go_ret
      refine ⟨?_, ?_⟩
      · rw [← HF.out, hk2]
        rfl
      · rw [HW.out]
        exact HB.out.trans ((Below.of_drews _ m).mono HB.out.size)

end Go.Proofs.Ytobplffailbkbaa
