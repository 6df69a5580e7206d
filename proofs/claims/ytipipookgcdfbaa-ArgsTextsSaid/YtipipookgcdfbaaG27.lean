/-
  Texts of the proof, put together: DkToks, DkAwake, McToks, AgL.
-/
import Derived.Test.YtipipookgcdfbaaG21
import Derived.Test.YtipipookgcdfbaaG26
import Derived.Test.YtipipookgcdfbaaG20
import Derived.Test.YtipipookgcdfbaaG24

/-
  Tokens of a text, as the law lexes it, and what the document fixes.
-/
namespace Go.Proofs.Ytipipookgcdfbaa
open Go.RowKit

/-- The first line's tokens. -/
def firstT (A : Acc) : List Tk := match A.lines with
  | [] => []
  | ln :: _ => ln.toks
def fB : ByteArray := ⟨#[102]⟩
def lexT (s : ByteArray) : List Xt := (firstT (linesA (charsL s.data.toList) s.size)).map (xtOf fB)

def LinesFirst (W : World) (A : Acc) (e : Ending) (w' : World) : Prop :=
  ∃ la n lc da m dc, e = .returned (.tuple #[.slice la n lc, .slice da m dc]) ∧ n = A.lines.length ∧ n ≤ lc ∧ lc ≤ maxLen ∧ Below W.heap.size W w' ∧ (0 < n → ∃ g ta tn tc, la = some ⟨g, 0, none⟩ ∧ w'.cell? ⟨g, 0, none⟩ = some (.slice ta tn tc) ∧ tn = (firstT A).length ∧ ToksX ((firstT A).map (xtOf fB)) (.slice ta tn tc) w')

theorem lines_first {W : World} {T : TypeId} {A : Acc} {e : Ending} {w' : World} (h : LinesPost W fB T A e w') : LinesFirst W A e w' := by
  obtain ⟨la, n, lc, da, m, dc, rfl, hn, hm, hl, hd⟩ := h
  obtain ⟨a, cap, hv, h1, h2, h3⟩ := hl.at
  obtain ⟨P, -, hu, -⟩ := hl
  simp only [Value.slice.injEq] at hv
  obtain ⟨rfl, hn', rfl⟩ := hv
  refine ⟨la, n, lc, da, m, dc, rfl, hn, by omega, h2, hu.2, fun h0 => ?_⟩
  obtain ⟨ln, hln⟩ : ∃ ln, A.lines[0]? = some ln := ⟨_, List.getElem?_eq_getElem (by omega)⟩
  obtain ⟨g, tv, hg, -, c0, -, -, -, ht⟩ := h3 0 ln hln
  have hf : firstT A = ln.toks := by
    unfold firstT
    cases hA : A.lines with
    | nil => rw [hA] at hln; simp at hln
    | cons x r => rw [hA] at hln; simp at hln; rw [hln]
  have hx := ToksAt.x ht
  obtain ⟨ta, tc, rfl, -⟩ := ht
  refine ⟨g, ta, _, tc, hg, ?_, by rw [hf], ?_⟩
  · simpa using c0
  · rw [hf]
    exact hx

set_option maxRecDepth 100000 in
set_option maxHeartbeats 1600000 in
theorem lexed_any (s : ByteArray) (W : World) (hs : s.size ≤ 100000) : Calls Try.prog 27 #[.string s] W (ToksNew W (lexT s)) := by
  have HL : Hid (Calls Try.prog 44 #[.string ⟨#[102]⟩, .string s] W (LinesFirst W (linesA (charsL s.data.toList) s.size))) := Lib.hid ((rlines_any fB s W hs).mono fun _ _ h => lines_first h)
  obtain ⟨A, hA⟩ : ∃ A, linesA (charsL s.data.toList) s.size = A := ⟨_, rfl⟩
  unfold lexT
  rw [hA] at HL ⊢
  clear hA hs
  by_cases h0 : A.lines = []
  · have hf : Hid (firstT A = []) := Lib.hid (by unfold firstT; rw [h0])
    have hl : Hid (A.lines.length = 0) := Lib.hid (by rw [h0]; rfl)
    clear h0
    go_enter Try.func27, Try.ntmps27
    go_wp2_with (go_at_call 44; (with_reducible refine HL.out.mono ?_); rintro e w1 ⟨la, n, lc, da, m, dc, rfl, hn, -, -, hb1, -⟩; have HB1 := Lib.hid hb1; clear hb1; (have hn0 : n = 0 := hn.trans hl.out); subst hn0; clear hn)
    go_ret
    exact ⟨none, 0, 0, rfl, by rw [hf.out]; rfl, by rw [hf.out]; exact toksX_nil _, HB1.out⟩
  · have hl : Hid (0 < A.lines.length) := Lib.hid (List.length_pos_iff.2 h0)
    clear h0
    go_enter Try.func27, Try.ntmps27
    go_wp2_with (go_at_call 44; (with_reducible refine HL.out.mono ?_); rintro e w1 ⟨la, n, lc, da, m, dc, rfl, hn, hlc, hlm, hb1, hf⟩; have HB1 := Lib.hid hb1; clear hb1; (have hn0 : 0 < n := hn ▸ hl.out); (obtain ⟨g, ta, tn, tc, rfl, c0, htn, hx⟩ := hf hn0); have HX := Lib.hid hx; have HTN := Lib.hid htn; (have hne : ((n : Int) == 0) = false := by simp; omega); unfold maxLen at hlm; clear hn hx htn hf)
    go_ret
    exact ⟨ta, tn, tc, rfl, by rw [HTN.out, List.length_map], HX.out, HB1.out⟩

end Go.Proofs.Ytipipookgcdfbaa

/-
  What the document fixes.
-/
namespace Go.Proofs.Ytipipookgcdfbaa
open Go.RowKit

def awX (k : Nat) (x : ByteArray) (sp : Bool) (f t : Nat) : Xt := ⟨(k : Int), x, sp, fB, (f : Int), (t : Int), false, []⟩
theorem awd_one : lexT ⟨#[35, 32, 100, 101, 102, 105, 110, 101, 32, 65]⟩ = [awX 5 ⟨#[35]⟩ false 0 1, awX 1 ⟨#[100, 101, 102, 105, 110, 101]⟩ true 2 8, awX 1 ⟨#[65]⟩ true 9 10] := by rfl
theorem awd_two : lexT ⟨#[37, 58]⟩ = [awX 5 ⟨#[37, 58]⟩ false 0 2] := by rfl
theorem awd_three : lexT ⟨#[35, 120]⟩ = [awX 5 ⟨#[35]⟩ false 0 1, awX 1 ⟨#[120]⟩ false 1 2] := by rfl
theorem hash_is {t : Xt} {b : Bool} (h : (decide (t.k = 5) && (t.x.data.toList == [35] || t.x.data.toList == [37, 58])) = b) : hashX t = b := by
  unfold hashX
  rw [ByteArray.toList_eq]
  exact h
theorem awd_k1 : kindL [awX 5 ⟨#[35]⟩ false 0 1, awX 1 ⟨#[100, 101, 102, 105, 110, 101]⟩ true 2 8, awX 1 ⟨#[65]⟩ true 9 10] = 9 := by
  rw [kind_two (hash_is (by decide)), if_pos (by decide)]
  decide
theorem awd_k2 : kindL [awX 5 ⟨#[37, 58]⟩ false 0 2] = 1 := kind_one (hash_is (by decide))
theorem awd_k3 : kindL [awX 5 ⟨#[35]⟩ false 0 1, awX 1 ⟨#[120]⟩ false 1 2] = 14 := by
  rw [kind_two (hash_is (by decide)), if_pos (by decide)]
  decide

end Go.Proofs.Ytipipookgcdfbaa

/-
  Tokens of a text, as the laws of macro lex it; definitions that were written out.
-/
namespace Go.Proofs.Ytipipookgcdfbaa
open Go.RowKit Go.Maps

set_option maxRecDepth 100000 in
set_option maxHeartbeats 1600000 in
theorem lexed9_any (s : ByteArray) (W : World) (hs : s.size ≤ 100000) : Calls Try.prog 27 #[.string s] W (ToksNew W (lexT s)) := by
  have HL : Hid (Calls Try.prog 44 #[.string ⟨#[102]⟩, .string s] W (LinesFirst W (linesA (charsL s.data.toList) s.size))) := Lib.hid ((rlines_any fB s W hs).mono fun _ _ h => lines_first h)
  obtain ⟨A, hA⟩ : ∃ A, linesA (charsL s.data.toList) s.size = A := ⟨_, rfl⟩
  unfold lexT
  rw [hA] at HL ⊢
  clear hA hs
  by_cases h0 : A.lines = []
  · have hf : Hid (firstT A = []) := Lib.hid (by unfold firstT; rw [h0])
    have hl : Hid (A.lines.length = 0) := Lib.hid (by rw [h0]; rfl)
    clear h0
    go_enter Try.func27, Try.ntmps27
    go_wp2_with (go_at_call 44; (with_reducible refine HL.out.mono ?_); rintro e w1 ⟨la, n, lc, da, m, dc, rfl, hn, -, -, hb1, -⟩; have HB1 := Lib.hid hb1; clear hb1; (have hn0 : n = 0 := hn.trans hl.out); subst hn0; clear hn)
    go_ret
    exact ⟨none, 0, 0, rfl, by rw [hf.out]; rfl, by rw [hf.out]; exact toksX_nil _, HB1.out⟩
  · have hl : Hid (0 < A.lines.length) := Lib.hid (List.length_pos_iff.2 h0)
    clear h0
    go_enter Try.func27, Try.ntmps27
    go_wp2_with (go_at_call 44; (with_reducible refine HL.out.mono ?_); rintro e w1 ⟨la, n, lc, da, m, dc, rfl, hn, hlc, hlm, hb1, hf⟩; have HB1 := Lib.hid hb1; clear hb1; (have hn0 : 0 < n := hn ▸ hl.out); (obtain ⟨g, ta, tn, tc, rfl, c0, htn, hx⟩ := hf hn0); have HX := Lib.hid hx; have HTN := Lib.hid htn; (have hne : ((n : Int) == 0) = false := by simp; omega); unfold maxLen at hlm; clear hn hx htn hf)
    go_ret
    exact ⟨ta, tn, tc, rfl, by rw [HTN.out, List.length_map], HX.out, HB1.out⟩

theorem isX_eq (t : Xt) (s : ByteArray) : isX t s = (decide (t.k = 5) && decide (t.x = s)) := by
  unfold isX
  rw [str_is]
theorem hashX_eq (t : Xt) : hashX t = (decide (t.k = 5) && (decide (t.x = ⟨#[35]⟩) || decide (t.x = ⟨#[37, 58]⟩))) := by
  have hb : hashX t = (isX t ⟨#[35]⟩ || isX t ⟨#[37, 58]⟩) := by
    unfold hashX isX
    rw [ByteArray.toList_eq ⟨#[35]⟩, ByteArray.toList_eq ⟨#[37, 58]⟩]
    cases decide (t.k = 5) <;> rfl
  rw [hb, isX_eq, isX_eq]
  cases decide (t.k = 5) <;> rfl
theorem pasteX_eq (t : Xt) : pasteX t = (decide (t.k = 5) && (decide (t.x = ⟨#[35, 35]⟩) || decide (t.x = ⟨#[37, 58, 37, 58]⟩))) := by
  unfold pasteX
  rw [isX_eq, isX_eq]
  cases decide (t.k = 5) <;> rfl

theorem aw9_one : lexT ⟨#[70, 40, 97, 44, 98, 41, 32, 97, 32, 98]⟩ = [awX 1 ⟨#[70]⟩ false 0 1, awX 5 ⟨#[40]⟩ false 1 2, awX 1 ⟨#[97]⟩ false 2 3, awX 5 ⟨#[44]⟩ false 3 4, awX 1 ⟨#[98]⟩ false 4 5, awX 5 ⟨#[41]⟩ false 5 6, awX 1 ⟨#[97]⟩ true 7 8, awX 1 ⟨#[98]⟩ true 9 10] := by rfl
theorem aw9_two : lexT ⟨#[70, 40, 97, 44, 97, 41, 32, 97]⟩ = [awX 1 ⟨#[70]⟩ false 0 1, awX 5 ⟨#[40]⟩ false 1 2, awX 1 ⟨#[97]⟩ false 2 3, awX 5 ⟨#[44]⟩ false 3 4, awX 1 ⟨#[97]⟩ false 4 5, awX 5 ⟨#[41]⟩ false 5 6, awX 1 ⟨#[97]⟩ true 7 8] := by rfl
theorem aw9_three : lexT ⟨#[70, 32, 97, 35, 35]⟩ = [awX 1 ⟨#[70]⟩ false 0 1, awX 1 ⟨#[97]⟩ true 2 3, awX 5 ⟨#[35, 35]⟩ false 3 5] := by rfl
def aw9M : Xm := ⟨⟨#[70]⟩, true, false, [⟨#[97]⟩, ⟨#[98]⟩], [awX 1 ⟨#[97]⟩ false 7 8, awX 1 ⟨#[98]⟩ true 9 10], fB, 0, 1⟩
theorem aw9_p1 : parseL (lexT ⟨#[70, 40, 97, 44, 98, 41, 32, 97, 32, 98]⟩) = .inl aw9M := by
  rw [aw9_one]
  simp [parseL, headL, rowL, isX_eq, awX, resB, parB, memB, misL, illX, bareL, pasteX_eq, hashX_eq, aw9M]
theorem aw9_p2 : parseL (lexT ⟨#[70, 40, 97, 44, 97, 41, 32, 97]⟩) = .inr ⟨5, fB, 0, 1⟩ := by
  rw [aw9_two]
  simp [parseL, headL, rowL, isX_eq, awX, resB, parB, memB, illOf]
theorem aw9_p3 : parseL (lexT ⟨#[70, 32, 97, 35, 35]⟩) = .inr ⟨5, fB, 3, 5⟩ := by
  rw [aw9_three]
  simp [parseL, headL, isX_eq, awX, resB, misL, illX, bareL, pasteX_eq, hashX_eq, illOf]

end Go.Proofs.Ytipipookgcdfbaa

/-
  Arguments, over lists.
-/
namespace Go.Proofs.Ytipipookgcdfbaa
open Go.RowKit

/-- What is collected, from a place on: how deep it is, this argument so far, those ahead, the commas, how many tokens. -/
def colL : Nat → List Xt → List Xt → List (List Xt) → List Xt → Nat → Option (List (List Xt) × List Xt × Nat)
  | _, [], _, _, _, _ => none
  | d, t :: r, now, ls, cs, n =>
    if decide (d = 0) && isX t cB then some (ls ++ [now], cs, n + 1)
    else if decide (d = 0) && isX t kB then colL 0 r [] (ls ++ [now]) (cs ++ [t]) (n + 1)
    else colL (if isX t oB then d + 1 else if isX t cB then d - 1 else d) r (now ++ [t]) ls cs (n + 1)
def collectL : List Xt → Option (List (List Xt) × List Xt × Nat)
  | [] => none
  | t :: r => if isX t oB then colL 0 r [] [] [] 1 else none

/-- Arguments with their commas, as they stand. -/
def weaveL : List (List Xt) → List Xt → List Xt
  | [], _ => []
  | a :: ls, [] => a ++ weaveL ls []
  | a :: ls, c :: cs => a ++ c :: weaveL ls cs
theorem weave_snoc : ∀ (ls : List (List Xt)) (cs : List Xt) (a : List Xt), ls.length = cs.length → weaveL (ls ++ [a]) cs = weaveL ls cs ++ a
  | [], [], a, _ => by simp [weaveL]
  | [], _ :: _, _, h => by cases h
  | _ :: _, [], _, h => by cases h
  | b :: ls, c :: cs, a, h => by
    show b ++ c :: weaveL (ls ++ [a]) cs = (b ++ c :: weaveL ls cs) ++ a
    rw [weave_snoc ls cs a (by simpa using h)]
    simp
theorem weave_more : ∀ (ls : List (List Xt)) (cs : List Xt) (a : List Xt) (c : Xt), ls.length = cs.length → weaveL (ls ++ [a]) (cs ++ [c]) = weaveL ls cs ++ a ++ [c]
  | [], [], a, c, _ => by simp [weaveL]
  | [], _ :: _, _, _, h => by cases h
  | _ :: _, [], _, _, h => by cases h
  | b :: ls, d :: cs, a, c, h => by
    show b ++ d :: weaveL (ls ++ [a]) (cs ++ [c]) = (b ++ d :: weaveL ls cs) ++ a ++ [c]
    rw [weave_more ls cs a c (by simpa using h)]
    simp

/-- What is collected stands there. -/
theorem colL_is : ∀ (d : Nat) (T now : List Xt) (ls : List (List Xt)) (cs : List Xt) (n : Nat) (A : List (List Xt)) (C : List Xt) (k : Nat), ls.length = cs.length → colL d T now ls cs n = some (A, C, k) →
    A.length = C.length + 1 ∧ ∃ m c r, T = m ++ c :: r ∧ isX c cB = true ∧ weaveL A C = weaveL ls cs ++ now ++ m ∧ k = n + m.length + 1
  | _, [], _, _, _, _, _, _, _, _, h => by cases h
  | d, t :: r, now, ls, cs, n, A, C, k, hl, h => by
    unfold colL at h
    split at h
    · rename_i h1
      simp only [Option.some.injEq, Prod.mk.injEq] at h
      obtain ⟨rfl, rfl, rfl⟩ := h
      rw [Bool.and_eq_true] at h1
      refine ⟨by simp [hl], [], t, r, rfl, h1.2, ?_, rfl⟩
      rw [weave_snoc ls cs now hl]
      simp
    · split at h
      · obtain ⟨g1, m, c, q, g2, g3, g4, g5⟩ := colL_is 0 r [] (ls ++ [now]) (cs ++ [t]) (n + 1) A C k (by simp [hl]) h
        refine ⟨g1, t :: m, c, q, by rw [g2]; rfl, g3, ?_, by rw [g5]; simp; omega⟩
        rw [g4, weave_more ls cs now t hl]
        simp
      · obtain ⟨g1, m, c, q, g2, g3, g4, g5⟩ := colL_is _ r (now ++ [t]) ls cs (n + 1) A C k hl h
        refine ⟨g1, t :: m, c, q, by rw [g2]; rfl, g3, ?_, by rw [g5]; simp; omega⟩
        rw [g4]
        simp
theorem collectL_is {T : List Xt} {A : List (List Xt)} {C : List Xt} {k : Nat} (h : collectL T = some (A, C, k)) : A.length = C.length + 1 ∧ 2 ≤ k ∧ ∃ o c r, T = o :: (weaveL A C ++ c :: r) ∧ k = (weaveL A C).length + 2 := by
  match T, h with
  | [], h => cases h
  | t :: r, h =>
    have h : (if isX t oB then colL 0 r [] [] [] 1 else none) = some (A, C, k) := h
    split at h
    · obtain ⟨g1, m, c, q, g2, g3, g4, g5⟩ := colL_is 0 r [] [] [] 1 A C k rfl h
      have hw : weaveL A C = m := by rw [g4]; simp [weaveL]
      refine ⟨g1, by omega, t, c, q, by rw [hw, g2], by rw [hw, g5]; omega⟩
    · cases h

/-- The arguments as a macro of n parameters takes them. -/
def fitL (n : Nat) (va : Bool) (A : List (List Xt)) (C : List Xt) : Option (List (List Xt)) :=
  if n = 0 then (match A with | [[]] => some [] | _ => none)
  else if va then (if A.length < n - 1 then none else some (A.take (n - 1) ++ [weaveL (A.drop (n - 1)) (C.drop (n - 1))]))
  else if A.length = n then some A else none

/-- A text in quotes. -/
def quoL : List UInt8 → List UInt8
  | [] => []
  | c :: r => if c = 34 ∨ c = 92 then 92 :: c :: quoL r else c :: quoL r
def quotedL (l : List UInt8) : List UInt8 := 34 :: (quoL l ++ [34])
def strL1 (t : Xt) : List UInt8 := if t.k = 4 ∨ t.k = 3 then quoL t.x.data.toList else t.x.data.toList
def strL2 : List Xt → List UInt8
  | [] => []
  | t :: r => (if t.sp then 32 :: strL1 t else strL1 t) ++ strL2 r
def stringL : List Xt → List UInt8
  | [] => [34, 34]
  | t :: r => 34 :: (strL1 t ++ strL2 r ++ [34])

/-- What stands between quotes, read. -/
def unqL : List UInt8 → Option (List UInt8)
  | [] => some []
  | [c] => if c = 34 ∨ c = 10 ∨ c = 92 then none else some [c]
  | c :: d :: r =>
    if c = 34 ∨ c = 10 then none
    else if c ≠ 92 then (unqL (d :: r)).map (c :: ·)
    else if d = 34 ∨ d = 92 then (unqL r).map (d :: ·)
    else if d = 10 then none else (unqL r).map fun q => 92 :: d :: q
theorem unqL_one {c : UInt8} (h : c ≠ 34 ∧ c ≠ 10 ∧ c ≠ 92) (r : List UInt8) : unqL (c :: r) = (unqL r).map (c :: ·) := by
  cases r with
  | nil =>
    show (if c = 34 ∨ c = 10 ∨ c = 92 then none else some [c]) = _
    rw [if_neg (fun e => e.elim h.1 fun e => e.elim h.2.1 h.2.2)]
    rfl
  | cons d r =>
    show (if c = 34 ∨ c = 10 then none else if c ≠ 92 then _ else _) = _
    rw [if_neg (fun e => e.elim h.1 h.2.1), if_pos h.2.2]
theorem unq_quo : ∀ l : List UInt8, (∀ c ∈ l, c ≠ 10) → unqL (quoL l) = some l
  | [], _ => rfl
  | c :: r, h => by
    have ih := unq_quo r fun d hd => h d (List.mem_cons_of_mem _ hd)
    show unqL (if c = 34 ∨ c = 92 then 92 :: c :: quoL r else c :: quoL r) = _
    by_cases hc : c = 34 ∨ c = 92
    · rw [if_pos hc]
      show (if (92 : UInt8) = 34 ∨ (92 : UInt8) = 10 then none else if (92 : UInt8) ≠ 92 then _ else if c = 34 ∨ c = 92 then (unqL (quoL r)).map (c :: ·) else _) = _
      rw [if_neg (by decide), if_neg (by decide), if_pos hc, ih]
      rfl
    · rw [if_neg hc, unqL_one ⟨fun e => hc (.inl e), h c List.mem_cons_self, fun e => hc (.inr e)⟩, ih]
      rfl
theorem quo_qN : ∀ (l r : List UInt8), (∀ c ∈ l, c ≠ 10) → qN 34 false (quoL l ++ 34 :: r) = some ((quoL l).length + 1)
  | [], r, _ => rfl
  | c :: l, r, h => by
    have ih := quo_qN l r fun d hd => h d (List.mem_cons_of_mem _ hd)
    have h10 := h c List.mem_cons_self
    show qN 34 false ((if c = 34 ∨ c = 92 then 92 :: c :: quoL l else c :: quoL l) ++ 34 :: r) = some ((if c = 34 ∨ c = 92 then 92 :: c :: quoL l else c :: quoL l).length + 1)
    by_cases hc : c = 34 ∨ c = 92
    · rw [if_pos hc]
      show (if (92 : UInt8) = 10 then none else if false = true then _ else if (92 : UInt8) = 92 then ((if c = 10 then none else if true = true then (qN 34 false (quoL l ++ 34 :: r)).map (· + 1) else _).map (· + 1)) else _) = _
      rw [if_neg (by decide), if_neg (by simp), if_pos rfl, if_neg h10, if_pos rfl, ih]
      rfl
    · rw [if_neg hc]
      show (if c = 10 then none else if false = true then _ else if c = 92 then _ else if c = 34 then some 1 else (qN 34 false (quoL l ++ 34 :: r)).map (· + 1)) = _
      rw [if_neg h10, if_neg (by simp), if_neg (fun e => hc (.inr e)), if_neg (fun e => hc (.inl e)), ih]
      rfl
/-- A text in quotes is one token. -/
theorem quoted_tok (l : List UInt8) (h : ∀ c ∈ l, c ≠ 10) : tok (quotedL l) = (4, (quotedL l).length) := by
  have hl : lettN (quotedL l) = 0 := lettN_zero (fun e => by have := e.1; revert this; show ¬ ((34 : UInt8) = 117); decide) (fun e => by
    have := e.1
    revert this
    show ¬ ((34 : UInt8) = 76 ∨ (34 : UInt8) = 117 ∨ (34 : UInt8) = 85)
    decide)
  have hc : conN (quotedL l) = some (4, (quotedL l).length) := by
    unfold conN
    rw [hl]
    show (if (34 : UInt8) = 34 then (qN 34 false (quoL l ++ [34])).map fun n => (4, 0 + 1 + n) else _) = _
    rw [if_pos rfl, quo_qN l [] h]
    simp [quotedL]
    omega
  unfold tok
  rw [hc]
theorem quoL_no10 : ∀ (l : List UInt8), (∀ c ∈ l, c ≠ 10) → ∀ c ∈ quoL l, c ≠ 10
  | [], _, c, h => by cases h
  | a :: l, h, c, hc => by
    have ih := quoL_no10 l fun d hd => h d (List.mem_cons_of_mem _ hd)
    have hc : c ∈ (if a = 34 ∨ a = 92 then 92 :: a :: quoL l else a :: quoL l) := hc
    split at hc
    · rcases List.mem_cons.1 hc with rfl | hc
      · decide
      · rcases List.mem_cons.1 hc with rfl | hc
        · exact h _ List.mem_cons_self
        · exact ih c hc
    · rcases List.mem_cons.1 hc with rfl | hc
      · exact h _ List.mem_cons_self
      · exact ih c hc

end Go.Proofs.Ytipipookgcdfbaa
