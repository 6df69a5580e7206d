/-
  Texts of the proof, put together: DkToks, DkAwake, McToks.
-/
import Derived.Test.YtobplffailbkbaaG15
import Derived.Test.YtobplffailbkbaaG20
import Derived.Test.YtobplffailbkbaaG14

/-
  Tokens of a text, as the law lexes it, and what the document fixes.
-/
namespace Go.Proofs.Ytobplffailbkbaa
open Go.RowKit

/-- The first line's tokens. -/
def firstT (A : Acc) : List Tk := match A.lines with
  | [] => []
  | ln :: _ => ln.toks
def fB : ByteArray := ⟨#[102]⟩
def lexT (s : ByteArray) : List Xt := (firstT (linesA (charsL s.data.toList) s.size)).map (xtOf fB)

def LinesFirst (W : World) (A : Acc) (e : Ending) (w' : World) : Prop :=
  ∃ la n lc da m dc, e = .returned (.tuple #[.slice la n lc, .slice da m dc]) ∧ n = A.lines.length ∧ n ≤ lc ∧ lc ≤ maxLen ∧ Below W.heap.size W w' ∧ (0 < n → ∃ g ta tn tc, la = some ⟨g, 0, none⟩ ∧ w'.cell? ⟨g, 0, none⟩ = some (.slice ta tn tc) ∧ tn = (firstT A).length ∧ ToksX ((firstT A).map (xtOf fB)) (.slice ta tn tc) w')

theorem lines_first {W : World} {T : TypeId} {A : Acc} {e : Ending} {w' : World} (h : LinesPost W fB T A e w') : LinesFirst W A e w' := by
  obtain ⟨la, n, lc, da, m, dc, rfl, hn, hm, hl, hd⟩ := h
  obtain ⟨a, cap, hv, h1, h2, h3⟩ := hl.at
  obtain ⟨P, -, hu, -⟩ := hl
  simp only [Value.slice.injEq] at hv
  obtain ⟨rfl, hn', rfl⟩ := hv
  refine ⟨la, n, lc, da, m, dc, rfl, hn, by omega, h2, hu.2, fun h0 => ?_⟩
  obtain ⟨ln, hln⟩ : ∃ ln, A.lines[0]? = some ln := ⟨_, List.getElem?_eq_getElem (by omega)⟩
  obtain ⟨g, tv, hg, -, c0, -, -, -, ht⟩ := h3 0 ln hln
  have hf : firstT A = ln.toks := by
    unfold firstT
    cases hA : A.lines with
    | nil => rw [hA] at hln; simp at hln
    | cons x r => rw [hA] at hln; simp at hln; rw [hln]
  have hx := ToksAt.x ht
  obtain ⟨ta, tc, rfl, -⟩ := ht
  refine ⟨g, ta, _, tc, hg, ?_, by rw [hf], ?_⟩
  · simpa using c0
  · rw [hf]
    exact hx

set_option maxRecDepth 100000 in
set_option maxHeartbeats 1600000 in
theorem lexed_any (s : ByteArray) (W : World) (hs : s.size ≤ 100000) : Calls Try.prog 12 #[.string s] W (ToksNew W (lexT s)) := by
  have HL : Hid (Calls Try.prog 24 #[.string ⟨#[102]⟩, .string s] W (LinesFirst W (linesA (charsL s.data.toList) s.size))) := Lib.hid ((rlines_any fB s W hs).mono fun _ _ h => lines_first h)
  obtain ⟨A, hA⟩ : ∃ A, linesA (charsL s.data.toList) s.size = A := ⟨_, rfl⟩
  unfold lexT
  rw [hA] at HL ⊢
  clear hA hs
  by_cases h0 : A.lines = []
  · have hf : Hid (firstT A = []) := Lib.hid (by unfold firstT; rw [h0])
    have hl : Hid (A.lines.length = 0) := Lib.hid (by rw [h0]; rfl)
    clear h0
    go_enter Try.func12, Try.ntmps12
    go_wp2_with (go_at_call 24; (with_reducible refine HL.out.mono ?_); rintro e w1 ⟨la, n, lc, da, m, dc, rfl, hn, -, -, hb1, -⟩; have HB1 := Lib.hid hb1; clear hb1; (have hn0 : n = 0 := hn.trans hl.out); subst hn0; clear hn)
    go_ret
    exact ⟨none, 0, 0, rfl, by rw [hf.out]; rfl, by rw [hf.out]; exact toksX_nil _, HB1.out⟩
  · have hl : Hid (0 < A.lines.length) := Lib.hid (List.length_pos_iff.2 h0)
    clear h0
    go_enter Try.func12, Try.ntmps12
    go_wp2_with (go_at_call 24; (with_reducible refine HL.out.mono ?_); rintro e w1 ⟨la, n, lc, da, m, dc, rfl, hn, hlc, hlm, hb1, hf⟩; have HB1 := Lib.hid hb1; clear hb1; (have hn0 : 0 < n := hn ▸ hl.out); (obtain ⟨g, ta, tn, tc, rfl, c0, htn, hx⟩ := hf hn0); have HX := Lib.hid hx; have HTN := Lib.hid htn; (have hne : ((n : Int) == 0) = false := by simp; omega); unfold maxLen at hlm; clear hn hx htn hf)
    go_ret
    exact ⟨ta, tn, tc, rfl, by rw [HTN.out, List.length_map], HX.out, HB1.out⟩

end Go.Proofs.Ytobplffailbkbaa

/-
  What the document fixes.
-/
namespace Go.Proofs.Ytobplffailbkbaa
open Go.RowKit

def awX (k : Nat) (x : ByteArray) (sp : Bool) (f t : Nat) : Xt := ⟨(k : Int), x, sp, fB, (f : Int), (t : Int), false, []⟩
theorem awd_one : lexT ⟨#[35, 32, 100, 101, 102, 105, 110, 101, 32, 65]⟩ = [awX 5 ⟨#[35]⟩ false 0 1, awX 1 ⟨#[100, 101, 102, 105, 110, 101]⟩ true 2 8, awX 1 ⟨#[65]⟩ true 9 10] := by rfl
theorem awd_two : lexT ⟨#[37, 58]⟩ = [awX 5 ⟨#[37, 58]⟩ false 0 2] := by rfl
theorem awd_three : lexT ⟨#[35, 120]⟩ = [awX 5 ⟨#[35]⟩ false 0 1, awX 1 ⟨#[120]⟩ false 1 2] := by rfl
theorem hash_is {t : Xt} {b : Bool} (h : (decide (t.k = 5) && (t.x.data.toList == [35] || t.x.data.toList == [37, 58])) = b) : hashX t = b := by
  unfold hashX
  rw [ByteArray.toList_eq]
  exact h
theorem awd_k1 : kindL [awX 5 ⟨#[35]⟩ false 0 1, awX 1 ⟨#[100, 101, 102, 105, 110, 101]⟩ true 2 8, awX 1 ⟨#[65]⟩ true 9 10] = 9 := by
  rw [kind_two (hash_is (by decide)), if_pos (by decide)]
  decide
theorem awd_k2 : kindL [awX 5 ⟨#[37, 58]⟩ false 0 2] = 1 := kind_one (hash_is (by decide))
theorem awd_k3 : kindL [awX 5 ⟨#[35]⟩ false 0 1, awX 1 ⟨#[120]⟩ false 1 2] = 14 := by
  rw [kind_two (hash_is (by decide)), if_pos (by decide)]
  decide

end Go.Proofs.Ytobplffailbkbaa

/-
  Tokens of a text, as the laws of macro lex it; definitions that were written out.
-/
namespace Go.Proofs.Ytobplffailbkbaa
open Go.RowKit Go.Maps

set_option maxRecDepth 100000 in
set_option maxHeartbeats 1600000 in
theorem lexed9_any (s : ByteArray) (W : World) (hs : s.size ≤ 100000) : Calls Try.prog 12 #[.string s] W (ToksNew W (lexT s)) := by
  have HL : Hid (Calls Try.prog 24 #[.string ⟨#[102]⟩, .string s] W (LinesFirst W (linesA (charsL s.data.toList) s.size))) := Lib.hid ((rlines_any fB s W hs).mono fun _ _ h => lines_first h)
  obtain ⟨A, hA⟩ : ∃ A, linesA (charsL s.data.toList) s.size = A := ⟨_, rfl⟩
  unfold lexT
  rw [hA] at HL ⊢
  clear hA hs
  by_cases h0 : A.lines = []
  · have hf : Hid (firstT A = []) := Lib.hid (by unfold firstT; rw [h0])
    have hl : Hid (A.lines.length = 0) := Lib.hid (by rw [h0]; rfl)
    clear h0
    go_enter Try.func12, Try.ntmps12
    go_wp2_with (go_at_call 24; (with_reducible refine HL.out.mono ?_); rintro e w1 ⟨la, n, lc, da, m, dc, rfl, hn, -, -, hb1, -⟩; have HB1 := Lib.hid hb1; clear hb1; (have hn0 : n = 0 := hn.trans hl.out); subst hn0; clear hn)
    go_ret
    exact ⟨none, 0, 0, rfl, by rw [hf.out]; rfl, by rw [hf.out]; exact toksX_nil _, HB1.out⟩
  · have hl : Hid (0 < A.lines.length) := Lib.hid (List.length_pos_iff.2 h0)
    clear h0
    go_enter Try.func12, Try.ntmps12
    go_wp2_with (go_at_call 24; (with_reducible refine HL.out.mono ?_); rintro e w1 ⟨la, n, lc, da, m, dc, rfl, hn, hlc, hlm, hb1, hf⟩; have HB1 := Lib.hid hb1; clear hb1; (have hn0 : 0 < n := hn ▸ hl.out); (obtain ⟨g, ta, tn, tc, rfl, c0, htn, hx⟩ := hf hn0); have HX := Lib.hid hx; have HTN := Lib.hid htn; (have hne : ((n : Int) == 0) = false := by simp; omega); unfold maxLen at hlm; clear hn hx htn hf)
    go_ret
    exact ⟨ta, tn, tc, rfl, by rw [HTN.out, List.length_map], HX.out, HB1.out⟩

theorem isX_eq (t : Xt) (s : ByteArray) : isX t s = (decide (t.k = 5) && decide (t.x = s)) := by
  unfold isX
  rw [str_is]
theorem hashX_eq (t : Xt) : hashX t = (decide (t.k = 5) && (decide (t.x = ⟨#[35]⟩) || decide (t.x = ⟨#[37, 58]⟩))) := by
  have hb : hashX t = (isX t ⟨#[35]⟩ || isX t ⟨#[37, 58]⟩) := by
    unfold hashX isX
    rw [ByteArray.toList_eq ⟨#[35]⟩, ByteArray.toList_eq ⟨#[37, 58]⟩]
    cases decide (t.k = 5) <;> rfl
  rw [hb, isX_eq, isX_eq]
  cases decide (t.k = 5) <;> rfl
theorem pasteX_eq (t : Xt) : pasteX t = (decide (t.k = 5) && (decide (t.x = ⟨#[35, 35]⟩) || decide (t.x = ⟨#[37, 58, 37, 58]⟩))) := by
  unfold pasteX
  rw [isX_eq, isX_eq]
  cases decide (t.k = 5) <;> rfl

theorem aw9_one : lexT ⟨#[70, 40, 97, 44, 98, 41, 32, 97, 32, 98]⟩ = [awX 1 ⟨#[70]⟩ false 0 1, awX 5 ⟨#[40]⟩ false 1 2, awX 1 ⟨#[97]⟩ false 2 3, awX 5 ⟨#[44]⟩ false 3 4, awX 1 ⟨#[98]⟩ false 4 5, awX 5 ⟨#[41]⟩ false 5 6, awX 1 ⟨#[97]⟩ true 7 8, awX 1 ⟨#[98]⟩ true 9 10] := by rfl
theorem aw9_two : lexT ⟨#[70, 40, 97, 44, 97, 41, 32, 97]⟩ = [awX 1 ⟨#[70]⟩ false 0 1, awX 5 ⟨#[40]⟩ false 1 2, awX 1 ⟨#[97]⟩ false 2 3, awX 5 ⟨#[44]⟩ false 3 4, awX 1 ⟨#[97]⟩ false 4 5, awX 5 ⟨#[41]⟩ false 5 6, awX 1 ⟨#[97]⟩ true 7 8] := by rfl
theorem aw9_three : lexT ⟨#[70, 32, 97, 35, 35]⟩ = [awX 1 ⟨#[70]⟩ false 0 1, awX 1 ⟨#[97]⟩ true 2 3, awX 5 ⟨#[35, 35]⟩ false 3 5] := by rfl
def aw9M : Xm := ⟨⟨#[70]⟩, true, false, [⟨#[97]⟩, ⟨#[98]⟩], [awX 1 ⟨#[97]⟩ false 7 8, awX 1 ⟨#[98]⟩ true 9 10], fB, 0, 1⟩
theorem aw9_p1 : parseL (lexT ⟨#[70, 40, 97, 44, 98, 41, 32, 97, 32, 98]⟩) = .inl aw9M := by
  rw [aw9_one]
  simp [parseL, headL, rowL, isX_eq, awX, resB, parB, memB, misL, illX, bareL, pasteX_eq, hashX_eq, aw9M]
theorem aw9_p2 : parseL (lexT ⟨#[70, 40, 97, 44, 97, 41, 32, 97]⟩) = .inr ⟨5, fB, 0, 1⟩ := by
  rw [aw9_two]
  simp [parseL, headL, rowL, isX_eq, awX, resB, parB, memB, illOf]
theorem aw9_p3 : parseL (lexT ⟨#[70, 32, 97, 35, 35]⟩) = .inr ⟨5, fB, 3, 5⟩ := by
  rw [aw9_three]
  simp [parseL, headL, isX_eq, awX, resB, misL, illX, bareL, pasteX_eq, hashX_eq, illOf]

end Go.Proofs.Ytobplffailbkbaa
