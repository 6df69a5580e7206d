/-
  LexLines, walked.
-/
import Derived.Test.YtpnboieppkjfnaaFlat
namespace Go.Proofs.Ytpnboieppkjfnaa
open Go.RowKit

theorem runA_lim {L : List Rn} {sz : Nat} : ∀ (m i : Nat) (a : Acc), i ≤ L.length → Lim a i → Lim (runA L sz m i a) L.length
  | 0, _, _, hi, h => h.up hi
  | m + 1, i, a, hi, h => by
    unfold runA
    split
    · rename_i hlt
      have hin := lenA_in hlt
      exact runA_lim m _ _ hin.2 ((h.step _).up (by omega))
    · exact h.up hi
theorem linesA_lim (L : List Rn) (sz : Nat) : Lim (linesA L sz) L.length := runA_lim _ _ _ (Nat.zero_le _) ⟨Nat.le_refl _, Nat.le_refl _, Nat.le_refl _⟩

theorem flat_lines {W w : World} {F : ByteArray} {v : Value} {lines : List Ln} (h : LRow W F 36 v lines w) (hl : lines.length ≤ 500000) : Calls Try.prog 12 #[v] w fun e w' => ∃ (a : Option Addr) (n cap : Nat), e = .returned (.slice a n cap) ∧ LinesAt F lines (.slice a n cap) w' ∧ Below w.heap.size w w' := by
  obtain ⟨P, hP, h1, h2⟩ := h
  have hPl : P.length = lines.length := by rw [← hP, List.length_map]
  refine (flat_any h1 (fun p hp => ?_) (by omega)).mono ?_
  · obtain ⟨a, cap, hv, -⟩ := row_form (h2 p hp).1
    exact ⟨a, _, cap, hv⟩
  · rintro e w' ⟨a, n, cap, rfl, rfl, hU⟩
    have hR : LRow W F 64 (.slice a P.length cap) lines w' := ⟨P, hP, Up.lower hU h1.2, fun p hp => Up.over (h2 p hp) hU.2⟩
    exact ⟨a, _, cap, rfl, hR.at, hU.2⟩

theorem DiagsAt.next {F : ByteArray} {D : List Dg} {v : Value} {w w' : World} (h : DiagsAt F D v w) (b : Below w.heap.size w w') : DiagsAt F D v w' := by
  obtain ⟨a, cap, hv, h1, h2, h3⟩ := h
  refine ⟨a, cap, hv, h1, h2, fun k t ht => ?_⟩
  obtain ⟨g, hg, hlt, k0, k1, k2, k3⟩ := h3 k t ht
  exact ⟨g, hg, Nat.lt_of_lt_of_le hlt b.size, bcell b k0 hlt, bcell b k1 hlt, bcell b k2 hlt, bcell b k3 hlt⟩

theorem lines_longA (F s : ByteArray) (W : World) (_hF : F.size ≤ maxLen) (hs : s.size ≤ maxLen) (hl : 3000 < s.size) : Calls Try.prog 3 #[.string F, .string s] W (AwakePost W) := by
  unfold maxLen at hs
  have hli : (3000 : Int) < (s.size : Int) := by omega
  go_enter Try.func3, Try.ntmps3
  go_wp2_with (go_at_call 8; (with_reducible refine (awake_any _).mono ?_); rintro e w1 ⟨rfl, b1⟩)
  go_ret
  exact ⟨rfl, b1⟩
theorem lines_longB (F s : ByteArray) (W : World) (hF : F.size ≤ maxLen) (hl : ¬ 3000 < s.size) (hl2 : 100 < F.size) : Calls Try.prog 3 #[.string F, .string s] W (AwakePost W) := by
  unfold maxLen at hF
  have hli : ¬ (3000 : Int) < (s.size : Int) := by omega
  have hl2i : (100 : Int) < (F.size : Int) := by omega
  go_enter Try.func3, Try.ntmps3
  go_wp2_with (go_at_call 8; (with_reducible refine (awake_any _).mono ?_); rintro e w1 ⟨rfl, b1⟩)
  go_ret
  exact ⟨rfl, b1⟩

def RowsPost (W : World) (F : ByteArray) (T : TypeId) (R : Acc) (e : Ending) (w' : World) : Prop :=
  ∃ la n lc da m dc, e = .returned (.tuple #[.slice la n lc, .slice da m dc]) ∧ LRow W F T (.slice la n lc) R.lines w' ∧ DRow W F (.slice da m dc) R.diags w'
theorem LinesPost.rows {W : World} {F : ByteArray} {T : TypeId} {R : Acc} {e : Ending} {w' : World} (h : LinesPost W F T R e w') : RowsPost W F T R e w' := by
  obtain ⟨la, n, lc, da, m, dc, rfl, -, -, h1, h2⟩ := h
  exact ⟨la, n, lc, da, m, dc, rfl, h1, h2⟩

set_option maxRecDepth 100000 in
set_option maxHeartbeats 6400000 in
theorem lines_short (F s : ByteArray) (W : World) (hl : ¬ 3000 < s.size) (hl2 : ¬ 100 < F.size) : Calls Try.prog 3 #[.string F, .string s] W (AwakePost W) := by
  have hli : ¬ (3000 : Int) < (s.size : Int) := by omega
  have hl2i : ¬ (100 : Int) < (F.size : Int) := by omega
  have hlim := linesA_lim (charsL s.data.toList) s.size
  obtain ⟨n, hn, hn2⟩ := charsL_few s.data.toList
  rw [len_byte] at hn2
  obtain ⟨R, hR⟩ : ∃ R, linesA (charsL s.data.toList) s.size = R := ⟨_, rfl⟩
  have HLN : Hid (Calls Try.prog 9 #[.string F, .string s] W (RowsPost W F 36 R)) := Lib.hid ((hR ▸ lines_any F s W (by omega) (by omega)).mono fun _ _ h => h.rows)
  have HRL : Hid (∀ X : World, Calls Try.prog 10 #[.string F, .string s] X (RowsPost X F 64 R)) := Lib.hid (fun X => (hR ▸ rlines_any F s X (by omega)).mono fun _ _ h => h.rows)
  rw [hR] at hlim
  have hRl : R.lines.length ≤ 500000 := by have := hlim.2.1; omega
  clear hlim hn hn2 hR
  go_enter Try.func3, Try.ntmps3
  go_wp2_with (first
    | (go_at_call 9; (with_reducible refine HLN.out.mono ?_); rintro e w1 ⟨la, n1, lc, da, m1, dc, rfl, hr1, hd1⟩; have HR1 := Lib.hid hr1; have HD1 := Lib.hid hd1; clear hr1 hd1)
    | (go_at_call 10; (with_reducible refine (HRL.out _).mono ?_); rintro e w2 ⟨lb, n2, lc2, db, m2, dc2, rfl, hr2, hd2⟩; have HB2 := Lib.hid hr2.low; have HR2 := Lib.hid hr2; have HD2 := Lib.hid hd2; clear hr2 hd2)
    | (go_at_call 12; (with_reducible refine (flat_lines (LRow.over HR1.out HB2.out) hRl).mono ?_); rintro e w3 ⟨fa, n3, fc, rfl, hat3, hb3⟩; have HA3 := Lib.hid hat3; have HB3 := Lib.hid hb3; clear hat3 hb3)
    | (go_at_call 11; (with_reducible refine (sameLines_any HA3.out (LRow.at (LRow.over HR2.out HB3.out))).mono ?_); rintro e w4 ⟨rfl, hb4⟩; have HB4 := Lib.hid hb4; clear hb4)
    | (go_at_call 13; (with_reducible refine (sameDiags_any (DRow.at (DRow.over (DRow.over (DRow.over HD1.out HB2.out) HB3.out) HB4.out)) (DRow.at (DRow.over (DRow.over HD2.out HB3.out) HB4.out))).mono ?_); rintro e w5 ⟨rfl, hb5⟩; have HB5 := Lib.hid hb5; clear hb5)
    | (go_at_call 8; (with_reducible refine (awake_any _).mono ?_); rintro e w6 ⟨rfl, hb6⟩; have HB6 := Lib.hid hb6; clear hb6))
  go_ret
  exact ⟨rfl, below_up (below_up (below_up (below_up (below_up HR1.out.low HB2.out) HB3.out) HB4.out) HB5.out) HB6.out⟩

theorem law_lines (F s : ByteArray) (W : World) (hF : F.size ≤ maxLen) (hs : s.size ≤ maxLen) : Calls Try.prog 3 #[.string F, .string s] W (AwakePost W) := by
  by_cases h1 : 3000 < s.size
  · exact lines_longA F s W hF hs h1
  · by_cases h2 : 100 < F.size
    · exact lines_longB F s W hF h1 h2
    · exact lines_short F s W h1 h2

end Go.Proofs.Ytpnboieppkjfnaa
