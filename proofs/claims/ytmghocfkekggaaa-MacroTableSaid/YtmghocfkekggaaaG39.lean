/-
  Texts of the proof, put together: DkToks, DkAwake, McToks, McAwk.
-/
import Derived.Test.YtmghocfkekggaaaG32
import Derived.Test.YtmghocfkekggaaaG38
import Derived.Test.YtmghocfkekggaaaG31

/-
  Tokens of a text, as the law lexes it, and what the document fixes.
-/
namespace Go.Proofs.Ytmghocfkekggaaa
open Go.RowKit

/-- The first line's tokens. -/
def firstT (A : Acc) : List Tk := match A.lines with
  | [] => []
  | ln :: _ => ln.toks
def fB : ByteArray := ⟨#[102]⟩
def lexT (s : ByteArray) : List Xt := (firstT (linesA (charsL s.data.toList) s.size)).map (xtOf fB)

def LinesFirst (W : World) (A : Acc) (e : Ending) (w' : World) : Prop :=
  ∃ la n lc da m dc, e = .returned (.tuple #[.slice la n lc, .slice da m dc]) ∧ n = A.lines.length ∧ n ≤ lc ∧ lc ≤ maxLen ∧ Below W.heap.size W w' ∧ (0 < n → ∃ g ta tn tc, la = some ⟨g, 0, none⟩ ∧ w'.cell? ⟨g, 0, none⟩ = some (.slice ta tn tc) ∧ tn = (firstT A).length ∧ ToksX ((firstT A).map (xtOf fB)) (.slice ta tn tc) w')

theorem lines_first {W : World} {T : TypeId} {A : Acc} {e : Ending} {w' : World} (h : LinesPost W fB T A e w') : LinesFirst W A e w' := by
  obtain ⟨la, n, lc, da, m, dc, rfl, hn, hm, hl, hd⟩ := h
  obtain ⟨a, cap, hv, h1, h2, h3⟩ := hl.at
  obtain ⟨P, -, hu, -⟩ := hl
  simp only [Value.slice.injEq] at hv
  obtain ⟨rfl, hn', rfl⟩ := hv
  refine ⟨la, n, lc, da, m, dc, rfl, hn, by omega, h2, hu.2, fun h0 => ?_⟩
  obtain ⟨ln, hln⟩ : ∃ ln, A.lines[0]? = some ln := ⟨_, List.getElem?_eq_getElem (by omega)⟩
  obtain ⟨g, tv, hg, -, c0, -, -, -, ht⟩ := h3 0 ln hln
  have hf : firstT A = ln.toks := by
    unfold firstT
    cases hA : A.lines with
    | nil => rw [hA] at hln; simp at hln
    | cons x r => rw [hA] at hln; simp at hln; rw [hln]
  have hx := ToksAt.x ht
  obtain ⟨ta, tc, rfl, -⟩ := ht
  refine ⟨g, ta, _, tc, hg, ?_, by rw [hf], ?_⟩
  · simpa using c0
  · rw [hf]
    exact hx

end Go.Proofs.Ytmghocfkekggaaa

/-
  What the document fixes.
-/
namespace Go.Proofs.Ytmghocfkekggaaa
open Go.RowKit

def awX (k : Nat) (x : ByteArray) (sp : Bool) (f t : Nat) : Xt := ⟨(k : Int), x, sp, fB, (f : Int), (t : Int), false, []⟩
theorem awd_one : lexT ⟨#[35, 32, 100, 101, 102, 105, 110, 101, 32, 65]⟩ = [awX 5 ⟨#[35]⟩ false 0 1, awX 1 ⟨#[100, 101, 102, 105, 110, 101]⟩ true 2 8, awX 1 ⟨#[65]⟩ true 9 10] := by rfl
theorem awd_two : lexT ⟨#[37, 58]⟩ = [awX 5 ⟨#[37, 58]⟩ false 0 2] := by rfl
theorem awd_three : lexT ⟨#[35, 120]⟩ = [awX 5 ⟨#[35]⟩ false 0 1, awX 1 ⟨#[120]⟩ false 1 2] := by rfl
theorem hash_is {t : Xt} {b : Bool} (h : (decide (t.k = 5) && (t.x.data.toList == [35] || t.x.data.toList == [37, 58])) = b) : hashX t = b := by
  unfold hashX
  rw [ByteArray.toList_eq]
  exact h
theorem awd_k1 : kindL [awX 5 ⟨#[35]⟩ false 0 1, awX 1 ⟨#[100, 101, 102, 105, 110, 101]⟩ true 2 8, awX 1 ⟨#[65]⟩ true 9 10] = 9 := by
  rw [kind_two (hash_is (by decide)), if_pos (by decide)]
  decide
theorem awd_k2 : kindL [awX 5 ⟨#[37, 58]⟩ false 0 2] = 1 := kind_one (hash_is (by decide))
theorem awd_k3 : kindL [awX 5 ⟨#[35]⟩ false 0 1, awX 1 ⟨#[120]⟩ false 1 2] = 14 := by
  rw [kind_two (hash_is (by decide)), if_pos (by decide)]
  decide

end Go.Proofs.Ytmghocfkekggaaa

/-
  Tokens of a text, as the laws of macro lex it; definitions that were written out.
-/
namespace Go.Proofs.Ytmghocfkekggaaa
open Go.RowKit Go.Maps

set_option maxRecDepth 100000 in
set_option maxHeartbeats 1600000 in
theorem lexed9_any (s : ByteArray) (W : World) (hs : s.size ≤ 100000) : Calls Try.prog 20 #[.string s] W (ToksNew W (lexT s)) := by
  have HL : Hid (Calls Try.prog 40 #[.string ⟨#[102]⟩, .string s] W (LinesFirst W (linesA (charsL s.data.toList) s.size))) := Lib.hid ((rlines_any fB s W hs).mono fun _ _ h => lines_first h)
  obtain ⟨A, hA⟩ : ∃ A, linesA (charsL s.data.toList) s.size = A := ⟨_, rfl⟩
  unfold lexT
  rw [hA] at HL ⊢
  clear hA hs
  by_cases h0 : A.lines = []
  · have hf : Hid (firstT A = []) := Lib.hid (by unfold firstT; rw [h0])
    have hl : Hid (A.lines.length = 0) := Lib.hid (by rw [h0]; rfl)
    clear h0
    go_enter Try.func20, Try.ntmps20
    go_wp2_with (go_at_call 40; (with_reducible refine HL.out.mono ?_); rintro e w1 ⟨la, n, lc, da, m, dc, rfl, hn, -, -, hb1, -⟩; have HB1 := Lib.hid hb1; clear hb1; (have hn0 : n = 0 := hn.trans hl.out); subst hn0; clear hn)
    go_ret
    exact ⟨none, 0, 0, rfl, by rw [hf.out]; rfl, by rw [hf.out]; exact toksX_nil _, HB1.out⟩
  · have hl : Hid (0 < A.lines.length) := Lib.hid (List.length_pos_iff.2 h0)
    clear h0
    go_enter Try.func20, Try.ntmps20
    go_wp2_with (go_at_call 40; (with_reducible refine HL.out.mono ?_); rintro e w1 ⟨la, n, lc, da, m, dc, rfl, hn, hlc, hlm, hb1, hf⟩; have HB1 := Lib.hid hb1; clear hb1; (have hn0 : 0 < n := hn ▸ hl.out); (obtain ⟨g, ta, tn, tc, rfl, c0, htn, hx⟩ := hf hn0); have HX := Lib.hid hx; have HTN := Lib.hid htn; (have hne : ((n : Int) == 0) = false := by simp; omega); unfold maxLen at hlm; clear hn hx htn hf)
    go_ret
    exact ⟨ta, tn, tc, rfl, by rw [HTN.out, List.length_map], HX.out, HB1.out⟩

theorem isX_eq (t : Xt) (s : ByteArray) : isX t s = (decide (t.k = 5) && decide (t.x = s)) := by
  unfold isX
  rw [str_is]
theorem hashX_eq (t : Xt) : hashX t = (decide (t.k = 5) && (decide (t.x = ⟨#[35]⟩) || decide (t.x = ⟨#[37, 58]⟩))) := by
  have hb : hashX t = (isX t ⟨#[35]⟩ || isX t ⟨#[37, 58]⟩) := by
    unfold hashX isX
    rw [ByteArray.toList_eq ⟨#[35]⟩, ByteArray.toList_eq ⟨#[37, 58]⟩]
    cases decide (t.k = 5) <;> rfl
  rw [hb, isX_eq, isX_eq]
  cases decide (t.k = 5) <;> rfl
theorem pasteX_eq (t : Xt) : pasteX t = (decide (t.k = 5) && (decide (t.x = ⟨#[35, 35]⟩) || decide (t.x = ⟨#[37, 58, 37, 58]⟩))) := by
  unfold pasteX
  rw [isX_eq, isX_eq]
  cases decide (t.k = 5) <;> rfl

theorem aw9_one : lexT ⟨#[70, 40, 97, 44, 98, 41, 32, 97, 32, 98]⟩ = [awX 1 ⟨#[70]⟩ false 0 1, awX 5 ⟨#[40]⟩ false 1 2, awX 1 ⟨#[97]⟩ false 2 3, awX 5 ⟨#[44]⟩ false 3 4, awX 1 ⟨#[98]⟩ false 4 5, awX 5 ⟨#[41]⟩ false 5 6, awX 1 ⟨#[97]⟩ true 7 8, awX 1 ⟨#[98]⟩ true 9 10] := by rfl
theorem aw9_two : lexT ⟨#[70, 40, 97, 44, 97, 41, 32, 97]⟩ = [awX 1 ⟨#[70]⟩ false 0 1, awX 5 ⟨#[40]⟩ false 1 2, awX 1 ⟨#[97]⟩ false 2 3, awX 5 ⟨#[44]⟩ false 3 4, awX 1 ⟨#[97]⟩ false 4 5, awX 5 ⟨#[41]⟩ false 5 6, awX 1 ⟨#[97]⟩ true 7 8] := by rfl
theorem aw9_three : lexT ⟨#[70, 32, 97, 35, 35]⟩ = [awX 1 ⟨#[70]⟩ false 0 1, awX 1 ⟨#[97]⟩ true 2 3, awX 5 ⟨#[35, 35]⟩ false 3 5] := by rfl
def aw9M : Xm := ⟨⟨#[70]⟩, true, false, [⟨#[97]⟩, ⟨#[98]⟩], [awX 1 ⟨#[97]⟩ false 7 8, awX 1 ⟨#[98]⟩ true 9 10], fB, 0, 1⟩
theorem aw9_p1 : parseL (lexT ⟨#[70, 40, 97, 44, 98, 41, 32, 97, 32, 98]⟩) = .inl aw9M := by
  rw [aw9_one]
  simp [parseL, headL, rowL, isX_eq, awX, resB, parB, memB, misL, illX, bareL, pasteX_eq, hashX_eq, aw9M]
theorem aw9_p2 : parseL (lexT ⟨#[70, 40, 97, 44, 97, 41, 32, 97]⟩) = .inr ⟨5, fB, 0, 1⟩ := by
  rw [aw9_two]
  simp [parseL, headL, rowL, isX_eq, awX, resB, parB, memB, illOf]
theorem aw9_p3 : parseL (lexT ⟨#[70, 32, 97, 35, 35]⟩) = .inr ⟨5, fB, 3, 5⟩ := by
  rw [aw9_three]
  simp [parseL, headL, isX_eq, awX, resB, misL, illX, bareL, pasteX_eq, hashX_eq, illOf]

end Go.Proofs.Ytmghocfkekggaaa

/-
  What the document fixes of macros.
-/
namespace Go.Proofs.Ytmghocfkekggaaa
open Go.RowKit Go.Maps

/-- A table that the call made, in a world behind V. -/
def TS (V : World) (p N : Nat) (K : ByteArray → Option Xm) (X : World) : Prop :=
  ∃ mo sh, X.heap[p]? = some (tabObj mo sh) ∧ MapIs X mo N K ∧ Turned (fun g => g = p) V X ∧ ∀ b, mo = some b → V.heap.size ≤ b
theorem TS.over {V : World} {p N : Nat} {K : ByteArray → Option Xm} {X Y : World} (h : TS V p N K X) (b : Below X.heap.size X Y) : TS V p N K Y := by
  obtain ⟨mo, sh, h1, h2, h3, h4⟩ := h
  exact ⟨mo, sh, (b.block p (row_lt h1)).trans h1, h2.over b, h3.below b, h4⟩
theorem TS.turned {V : World} {p N : Nat} {K : ByteArray → Option Xm} {X : World} (h : TS V p N K X) : Turned (fun g => g = p) V X := by
  obtain ⟨mo, sh, h1, h2, h3, h4⟩ := h
  exact h3
theorem TS.define {V : World} {p N : Nat} {K : ByteArray → Option Xm} {X : World} (h : TS V p N K X) {m : Xm} {pv bv : Value} (hm : MacAt m pv bv X) (hN : N ≤ 1000) (hn : m.n.size ≤ 1000) (hl : m.ps.length ≤ 500000) (hb : m.bd.length ≤ 500000) (hs : ∀ t ∈ m.bd, t.ss.length ≤ 500000) :
    Calls Try.prog 12 #[.pointer (some ⟨p, 0, none⟩), macV m pv bv] X (fun e X' => e = .returned (.bool (defB K m)) ∧ TS V p (N + 1) (upd K m) X') := by
  obtain ⟨mo, sh, h1, h2, h3, h4⟩ := h
  refine (def_any hm h1 h2 hN hn hl hb hs).mono fun e X' ⟨he, b, g1, g2, g3, g4⟩ => ⟨he, some b, false, g1, g2, ?_, ?_⟩
  · refine ⟨g4.os.trans h3.os, g4.tape.trans h3.tape, g4.output.trans h3.output, Nat.le_trans h3.size g4.size, fun g hg hq => ?_, h3.nos⟩
    refine (g4.block g (Nat.lt_of_lt_of_le hg h3.size) ?_).trans (h3.block g hg hq)
    rintro (e | ⟨e, -⟩)
    · exact hq e
    · have := h4 g e; omega
  · intro c hc
    cases hc
    rcases g3 with g | ⟨g, -⟩
    · exact Nat.le_trans h3.size g
    · exact h4 b g

theorem mnew_any (w : World) : Calls Try.prog 9 #[] w fun e w' => e = .returned (.pointer (some ⟨w.heap.size, 0, none⟩)) ∧ w' = w.alloc (tabObj none false) := by
  go_enter Try.func9, Try.ntmps9
  go_wp2
  go_ret
  exact ⟨rfl, rfl⟩
theorem mcopy_nil (w : World) : Calls Try.prog 11 #[.pointer none] w fun e w' => e = .returned (.pointer none) ∧ w = w' := by
  go_enter Try.func11, Try.ntmps11
  go_wp2
  go_ret
  exact ⟨rfl, rfl⟩
theorem ts_new (w : World) : TS (w.alloc (tabObj none false)) w.heap.size 0 (fun _ => none) (w.alloc (tabObj none false)) :=
  ⟨none, false, heap_alloc_new w _, fun _ => rfl, Turned.refl (fun g e _ => e ▸ tab_nostr (heap_alloc_new w _)), fun b e => by cases e⟩

def aw9N : Xm := { aw9M with bd := [] }
theorem aw9_d1 : defB (fun _ => none) aw9M = true := rfl
theorem aw9_d2 : defB (upd (fun _ => none) aw9M) aw9M = true := by
  simp [defB, upd, sameM, alikeL, alikeX, aw9M, awX]
theorem aw9_d3 : defB (upd (upd (fun _ => none) aw9M) aw9M) aw9N = false := by
  simp [defB, upd, sameM, alikeL, aw9M, aw9N]
theorem aw9_i : idxI ⟨#[98]⟩ aw9M.ps 0 = 1 := by
  simp [idxI, aw9M]

def GoodPost (W : World) (m : Xm) (e : Ending) (w' : World) : Prop := ∃ a n c b k d, e = .returned (.tuple #[.agg #[.string m.n, .bool m.fn, .bool m.va, .slice a n c, .slice b k d, .string m.g, .int .i64 m.f, .int .i64 m.t], .slice none 0 0]) ∧ n = m.ps.length ∧ k = m.bd.length ∧ MacAt m (.slice a n c) (.slice b k d) w' ∧ Below W.heap.size W w'
theorem good_post {W : World} {m : Xm} {e : Ending} {w' : World} (h : ParseAt W (.inl m) e w') : GoodPost W m e w' := by
  obtain ⟨pv, bv, he, hm, hb⟩ := h
  obtain ⟨a, n, c, rfl⟩ := hm.1.form
  obtain ⟨b, k, d, rfl⟩ := hm.2.form
  exact ⟨a, n, c, b, k, d, he, hm.1.len.1, hm.2.len.1, hm, hb⟩

theorem aw9_v (p b : Value) : macV aw9M p b = .agg #[.string ⟨#[70]⟩, .bool true, .bool false, p, b, .string fB, .int .i64 0, .int .i64 1] := rfl
theorem aw9_param {pa ba : Option Addr} {pc bc : Nat} {X : World} (hX : StrsV aw9M.ps (.slice pa 2 pc) X) : Calls Try.prog 25 #[.agg #[.string ⟨#[70]⟩, .bool true, .bool false, .slice pa 2 pc, .slice ba 2 bc, .string fB, .int .i64 0, .int .i64 1], .string ⟨#[98]⟩] X (IntNew 1 X) := by
  have := mParam_any (m := aw9M) hX ⟨ba, 2, bc, rfl⟩ ⟨#[98]⟩
  rw [aw9_i] at this
  have e := aw9_v (.slice pa 2 pc) (.slice ba 2 bc)
  unfold macV at e
  rw [e] at this
  exact this
theorem aw9_defnil {pa ba : Option Addr} {pc bc : Nat} {X : World} (hX : MacAt aw9M (.slice pa 2 pc) (.slice ba 2 bc) X) : Calls Try.prog 12 #[.pointer none, .agg #[.string ⟨#[70]⟩, .bool true, .bool false, .slice pa 2 pc, .slice ba 2 bc, .string fB, .int .i64 0, .int .i64 1]] X (BoolNew false X) := by
  have := def_nil hX
  rw [aw9_v] at this
  exact this
theorem aw9_cells {pa ba : Option Addr} {pc bc : Nat} {X : World} {b1 : Nat} (h : X.heap[b1]? = some (mObj aw9M (.slice pa 2 pc) (.slice ba 2 bc))) : X.cell? ⟨b1, 0, none⟩ = some (.string ⟨#[70]⟩) ∧ X.cell? ⟨b1, 1, none⟩ = some (.bool true) ∧ X.cell? ⟨b1, 2, none⟩ = some (.bool false) ∧ X.cell? ⟨b1, 3, none⟩ = some (.slice pa 2 pc) ∧ X.cell? ⟨b1, 4, none⟩ = some (.slice ba 2 bc) ∧ X.cell? ⟨b1, 5, none⟩ = some (.string fB) ∧ X.cell? ⟨b1, 6, none⟩ = some (.int .i64 0) ∧ X.cell? ⟨b1, 7, none⟩ = some (.int .i64 1) := (mObj_cells h).1

end Go.Proofs.Ytmghocfkekggaaa
