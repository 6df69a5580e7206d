/-
  PhaseParts, walked.
-/
import Derived.Test.YtlbjogdlapjfeaaLChars
import Derived.Test.YtlbjogdlapjfeaaPartsL
namespace Go.Proofs.Ytlbjogdlapjfeaa
open Go.RowKit

def StrPost (W : World) (B : ByteArray) (e : Ending) (w' : World) : Prop := e = .returned (.string B) ∧ Below W.heap.size W w'

theorem back_str {s B : ByteArray} {l : List UInt8} {a b : Int} (hl : s.data.toList = l) (h : (⟨(backL l a b).toArray⟩ : ByteArray) = B) (hs : s.size ≤ 100000) (ha : a ≤ 9223372036854775807) (w : World) : Calls Try.prog 13 #[.string s, .int .i64 a, .int .i64 b] w (StrPost w B) := by
  rw [← h, ← hl]
  exact back_any s a b w hs ha

theorem backL_len (l : List UInt8) (a b : Int) : (backL l a b).length ≤ l.length := by
  unfold backL bk
  rw [List.length_map]
  exact Nat.le_trans (List.length_filter_le _ _) (by have := chs_len l _ 0 (Nat.le_refl _); omega)

theorem fits2 {a b : ByteArray} (h : a.size + b.size ≤ 2000000) : (a.size + b.size > 9223372036854775807) = False := by
  simp; omega

theorem bytes_app (x y : List UInt8) : (⟨(x ++ y).toArray⟩ : ByteArray) = ⟨x.toArray⟩ ++ ⟨y.toArray⟩ := by
  apply ByteArray.ext
  simp

theorem drop3 (l : List UInt8) (h : 2 < l.length) : l.drop (l.length - 3) = [l.getD (l.length - 3) 0, l.getD (l.length - 2) 0, l.getD (l.length - 1) 0] := by
  have g : ∀ k, k < l.length → l.drop k = l.getD k 0 :: l.drop (k + 1) := fun k hk => by
    rw [List.drop_eq_getElem_cons hk]
    congr 1
    simp [List.getD, List.getElem?_eq_getElem hk]
  rw [g _ (by omega), show l.length - 3 + 1 = l.length - 2 from by omega, g _ (by omega), show l.length - 2 + 1 = l.length - 1 from by omega, g _ (by omega), show l.length - 1 + 1 = l.length from by omega, List.drop_length]

theorem extract3 (s : ByteArray) : (s.extract (s.size - 3) s.size).toList = s.data.toList.drop (s.data.toList.length - 3) := by
  rw [ByteArray.toList_eq, ByteArray.data_extract, Array.toList_extract, List.extract_eq_take_drop, len_byte, List.take_of_length_le]
  rw [List.length_drop, len_byte]
  omega

theorem whole_of {s : ByteArray} (h1 : ∀ h : 0 < s.size, (s[s.size - 1]'(by omega)) ≠ 63 ∧ (s[s.size - 1]'(by omega)) ≠ 92) (h2 : 2 < s.size → ((s.extract (s.size - 3) s.size).toList == [63, 63, 47]) = false) : Whole s.data.toList := by
  constructor
  · intro h
    rw [len_byte] at h ⊢
    rw [get_byte s _ (by omega)]
    exact h1 h
  · rintro h ⟨e1, e2, e3⟩
    have h3 := h2 (by rw [len_byte] at h; exact h)
    rw [extract3, drop3 _ h, e1, e2, e3] at h3
    cases h3

/-- What the law asks of five answers, the first of them two of the others side by side. -/
theorem five {s t : ByteArray} (hw : Whole s.data.toList) (hs : s.size ≤ 1500) (ht : t.size ≤ 1500) : ∃ B1 B2 B3 B4 : ByteArray, B1.size + B2.size ≤ 2000000 ∧ B3.size + B4.size ≤ 2000000 ∧ B3 ++ B4 = B1 ++ B2 ∧
    (∀ w, Calls Try.prog 13 #[.string (s ++ t), .int .i64 0, .int .i64 ((s.size : Int) + (t.size : Int))] w (StrPost w (B1 ++ B2))) ∧
    (∀ w, Calls Try.prog 13 #[.string s, .int .i64 0, .int .i64 (s.size : Int)] w (StrPost w B1)) ∧
    (∀ w, Calls Try.prog 13 #[.string t, .int .i64 0, .int .i64 (t.size : Int)] w (StrPost w B2)) ∧
    (∀ w, Calls Try.prog 13 #[.string (s ++ t), .int .i64 0, .int .i64 (s.size : Int)] w (StrPost w B3)) ∧
    (∀ w, Calls Try.prog 13 #[.string (s ++ t), .int .i64 (s.size : Int), .int .i64 ((s.size : Int) + (t.size : Int))] w (StrPost w B4)) := by
  have hst : (s ++ t).data.toList = s.data.toList ++ t.data.toList := by simp
  have hsz : (s ++ t).size ≤ 100000 := by rw [ByteArray.size_append]; omega
  have l1 := len_byte s
  have l2 := len_byte t
  have k1 := backL_len s.data.toList 0 s.size
  have k2 := backL_len t.data.toList 0 t.size
  have k3 := backL_len (s.data.toList ++ t.data.toList) 0 s.size
  have k4 := backL_len (s.data.toList ++ t.data.toList) s.size ((s.size : Int) + (t.size : Int))
  rw [List.length_append] at k3 k4
  have p1 := back_parts (b := t.data.toList) hw
  have p2 := back_halves (b := t.data.toList) hw
  rw [l1, l2] at p1 p2
  have sz : ∀ l : List UInt8, (⟨l.toArray⟩ : ByteArray).size = l.length := fun l => by simp [ByteArray.size]
  refine ⟨⟨(backL s.data.toList 0 s.size).toArray⟩, ⟨(backL t.data.toList 0 t.size).toArray⟩, ⟨(backL (s.data.toList ++ t.data.toList) 0 s.size).toArray⟩, ⟨(backL (s.data.toList ++ t.data.toList) s.size ((s.size : Int) + (t.size : Int))).toArray⟩, ?_, ?_, ?_, ?_, ?_, ?_, ?_, ?_⟩
  · rw [sz (backL s.data.toList 0 s.size), sz (backL t.data.toList 0 t.size)]; omega
  · rw [sz (backL (s.data.toList ++ t.data.toList) 0 s.size), sz (backL (s.data.toList ++ t.data.toList) s.size ((s.size : Int) + (t.size : Int)))]; omega
  · rw [← bytes_app, ← bytes_app, p2, p1]
  · exact back_str hst (by rw [p1, bytes_app]) hsz (by omega)
  · exact back_str rfl rfl (by omega) (by omega)
  · exact back_str rfl rfl (by omega) (by omega)
  · exact back_str hst rfl hsz (by omega)
  · exact back_str hst rfl hsz (by omega)

theorem below5 {w0 w1 w2 w3 w4 w5 w6 : World} (h1 : Below w0.heap.size w0 w1) (h2 : Below w1.heap.size w1 w2) (h3 : Below w2.heap.size w2 w3) (h4 : Below w3.heap.size w3 w4) (h5 : Below w4.heap.size w4 w5) (h6 : Below w5.heap.size w5 w6) : Below w0.heap.size w0 w6 :=
  have g2 := h1.trans (h2.mono h1.size)
  have g3 := g2.trans (h3.mono g2.size)
  have g4 := g3.trans (h4.mono g3.size)
  have g5 := g4.trans (h5.mono g4.size)
  g5.trans (h6.mono g5.size)

set_option maxRecDepth 100000 in
set_option maxHeartbeats 1600000 in
theorem law_parts (s t : ByteArray) (w : World) (hs : s.size ≤ maxLen) (ht : t.size ≤ maxLen) : Calls Try.prog 5 #[.string s, .string t] w (AwakePost w) := by
  unfold maxLen at hs ht
  by_cases hl1 : s.size ≤ 1500
  · by_cases hl2 : t.size ≤ 1500
    · by_cases hz : s.size = 0
      · have h0 : ¬ (0 : Int) < (s.size : Int) := by omega
        have h00 : ¬ 0 < s.size := by omega
        have h02 : ¬ (2 : Int) < (s.size : Int) := by omega
        clear hz
        obtain ⟨B1, B2, B3, B4, n1, n2, hE, d0, d1, d2, d3, d4⟩ := five (whole_of (fun h => absurd h h00) (fun h => absurd h (by omega))) hl1 hl2
        have D0 := Lib.hid d0
        have D1 := Lib.hid d1
        have D2 := Lib.hid d2
        have D3 := Lib.hid d3
        have D4 := Lib.hid d4
        have q1 := fits2 n1
        have q2 := fits2 n2
        have q3 : (s.size + t.size > 9223372036854775807) = False := by simp; omega
        have q4 : ((B3 ++ B4).toList == (B1 ++ B2).toList) = true := by rw [hE]; exact beq_self_eq_true _
        clear d0 d1 d2 d3 d4 hE n1 n2
        go_enter Try.func5, Try.ntmps5
        go_wp2_with (first
                  | (go_at_call 13; (with_reducible refine (D0.out _).mono ?_); rintro e w1 ⟨rfl, b1⟩; have B1 := Lib.hid b1; clear b1)
                  | (go_at_call 13; (with_reducible refine (D1.out _).mono ?_); rintro e w2 ⟨rfl, b2⟩; have B2 := Lib.hid b2; clear b2)
                  | (go_at_call 13; (with_reducible refine (D2.out _).mono ?_); rintro e w3 ⟨rfl, b3⟩; have B3 := Lib.hid b3; clear b3)
                  | (go_at_call 13; (with_reducible refine (D3.out _).mono ?_); rintro e w4 ⟨rfl, b4⟩; have B4 := Lib.hid b4; clear b4)
                  | (go_at_call 13; (with_reducible refine (D4.out _).mono ?_); rintro e w5 ⟨rfl, b5⟩; have B5 := Lib.hid b5; clear b5)
                  | (go_at_call 7; (with_reducible refine (awake_any _).mono ?_); rintro e w6 ⟨rfl, b6⟩))
        go_ret
        exact ⟨rfl, below5 B1.out B2.out B3.out B4.out B5.out b6⟩
      · have h0 : (0 : Int) < (s.size : Int) := by omega
        have hn : s.size - 1 < s.size := by omega
        clear hz
        by_cases ha : s[s.size - 1] = 63
        · have ea : (((s[s.size - 1].toNat : Nat) : Int) == 63) = true := by rw [ha]; rfl
          clear ha
          go_enter Try.func5, Try.ntmps5
          go_wp2_with (go_at_call 7; (with_reducible refine (awake_any _).mono ?_); rintro e w6 ⟨rfl, b6⟩)
          go_ret
          exact ⟨rfl, b6⟩
        · have ea : (((s[s.size - 1].toNat : Nat) : Int) == 63) = false := by simpa using byte_is (x := 63) (by omega) ha
          by_cases hb : s[s.size - 1] = 92
          · have eb : (((s[s.size - 1].toNat : Nat) : Int) == 92) = true := by rw [hb]; rfl
            clear ha hb
            go_enter Try.func5, Try.ntmps5
            go_wp2_with (go_at_call 7; (with_reducible refine (awake_any _).mono ?_); rintro e w6 ⟨rfl, b6⟩)
            go_ret
            exact ⟨rfl, b6⟩
          · have eb : (((s[s.size - 1].toNat : Nat) : Int) == 92) = false := by simpa using byte_is (x := 92) (by omega) hb
            have HW := Lib.hid (fun (_ : 0 < s.size) => (⟨ha, hb⟩ : s[s.size - 1] ≠ 63 ∧ s[s.size - 1] ≠ 92))
            clear ha hb
            by_cases h3 : 2 < s.size
            · have h3' : (2 : Int) < (s.size : Int) := by omega
              cases hx : (s.extract (s.size - 3) s.size).toList == [63, 63, 47] with
              | true =>
                go_enter Try.func5, Try.ntmps5
                go_wp2_with (go_at_call 7; (with_reducible refine (awake_any _).mono ?_); rintro e w6 ⟨rfl, b6⟩)
                go_ret
                exact ⟨rfl, b6⟩
              | false =>
                obtain ⟨B1, B2, B3, B4, n1, n2, hE, d0, d1, d2, d3, d4⟩ := five (whole_of HW.out (fun _ => hx)) hl1 hl2
                have D0 := Lib.hid d0
                have D1 := Lib.hid d1
                have D2 := Lib.hid d2
                have D3 := Lib.hid d3
                have D4 := Lib.hid d4
                have q1 := fits2 n1
                have q2 := fits2 n2
                have q3 : (s.size + t.size > 9223372036854775807) = False := by simp; omega
                have q4 : ((B3 ++ B4).toList == (B1 ++ B2).toList) = true := by rw [hE]; exact beq_self_eq_true _
                clear d0 d1 d2 d3 d4 hE n1 n2
                go_enter Try.func5, Try.ntmps5
                go_wp2_with (first
                          | (go_at_call 13; (with_reducible refine (D0.out _).mono ?_); rintro e w1 ⟨rfl, b1⟩; have B1 := Lib.hid b1; clear b1)
                          | (go_at_call 13; (with_reducible refine (D1.out _).mono ?_); rintro e w2 ⟨rfl, b2⟩; have B2 := Lib.hid b2; clear b2)
                          | (go_at_call 13; (with_reducible refine (D2.out _).mono ?_); rintro e w3 ⟨rfl, b3⟩; have B3 := Lib.hid b3; clear b3)
                          | (go_at_call 13; (with_reducible refine (D3.out _).mono ?_); rintro e w4 ⟨rfl, b4⟩; have B4 := Lib.hid b4; clear b4)
                          | (go_at_call 13; (with_reducible refine (D4.out _).mono ?_); rintro e w5 ⟨rfl, b5⟩; have B5 := Lib.hid b5; clear b5)
                          | (go_at_call 7; (with_reducible refine (awake_any _).mono ?_); rintro e w6 ⟨rfl, b6⟩))
                go_ret
                exact ⟨rfl, below5 B1.out B2.out B3.out B4.out B5.out b6⟩
            · have h3' : ¬ (2 : Int) < (s.size : Int) := by omega
              obtain ⟨B1, B2, B3, B4, n1, n2, hE, d0, d1, d2, d3, d4⟩ := five (whole_of HW.out (fun h => absurd h h3)) hl1 hl2
              have D0 := Lib.hid d0
              have D1 := Lib.hid d1
              have D2 := Lib.hid d2
              have D3 := Lib.hid d3
              have D4 := Lib.hid d4
              have q1 := fits2 n1
              have q2 := fits2 n2
              have q3 : (s.size + t.size > 9223372036854775807) = False := by simp; omega
              have q4 : ((B3 ++ B4).toList == (B1 ++ B2).toList) = true := by rw [hE]; exact beq_self_eq_true _
              clear d0 d1 d2 d3 d4 hE n1 n2
              go_enter Try.func5, Try.ntmps5
              go_wp2_with (first
                        | (go_at_call 13; (with_reducible refine (D0.out _).mono ?_); rintro e w1 ⟨rfl, b1⟩; have B1 := Lib.hid b1; clear b1)
                        | (go_at_call 13; (with_reducible refine (D1.out _).mono ?_); rintro e w2 ⟨rfl, b2⟩; have B2 := Lib.hid b2; clear b2)
                        | (go_at_call 13; (with_reducible refine (D2.out _).mono ?_); rintro e w3 ⟨rfl, b3⟩; have B3 := Lib.hid b3; clear b3)
                        | (go_at_call 13; (with_reducible refine (D3.out _).mono ?_); rintro e w4 ⟨rfl, b4⟩; have B4 := Lib.hid b4; clear b4)
                        | (go_at_call 13; (with_reducible refine (D4.out _).mono ?_); rintro e w5 ⟨rfl, b5⟩; have B5 := Lib.hid b5; clear b5)
                        | (go_at_call 7; (with_reducible refine (awake_any _).mono ?_); rintro e w6 ⟨rfl, b6⟩))
              go_ret
              exact ⟨rfl, below5 B1.out B2.out B3.out B4.out B5.out b6⟩
    · have hl3 : ¬ (t.size : Int) ≤ 1500 := by omega
      have hl4 : (s.size : Int) ≤ 1500 := by omega
      go_enter Try.func5, Try.ntmps5
      go_wp2_with (go_at_call 7; (with_reducible refine (awake_any _).mono ?_); rintro e w6 ⟨rfl, b6⟩)
      go_ret
      exact ⟨rfl, b6⟩
  · have hl3 : ¬ (s.size : Int) ≤ 1500 := by omega
    go_enter Try.func5, Try.ntmps5
    go_wp2_with (go_at_call 7; (with_reducible refine (awake_any _).mono ?_); rintro e w6 ⟨rfl, b6⟩)
    go_ret
    exact ⟨rfl, b6⟩

end Go.Proofs.Ytlbjogdlapjfeaa
