/-
  Texts of the proof, put together: DkToks, DkAwake.
-/
import Derived.Test.YtlnlpahmfpjjdaaDoorG21
import Derived.Test.YtlnlpahmfpjjdaaDoorG31

/-
  Tokens of a text, as the law lexes it, and what the document fixes.
-/
namespace Go.Proofs.YtlnlpahmfpjjdaaDoor
open Go.RowKit

/-- The first line's tokens. -/
def firstT (A : Acc) : List Tk := match A.lines with
  | [] => []
  | ln :: _ => ln.toks
def fB : ByteArray := ⟨#[102]⟩
def lexT (s : ByteArray) : List Xt := (firstT (linesA (charsL s.data.toList) s.size)).map (xtOf fB)

def LinesFirst (W : World) (A : Acc) (e : Ending) (w' : World) : Prop :=
  ∃ la n lc da m dc, e = .returned (.tuple #[.slice la n lc, .slice da m dc]) ∧ n = A.lines.length ∧ n ≤ lc ∧ lc ≤ maxLen ∧ Below W.heap.size W w' ∧ (0 < n → ∃ g ta tn tc, la = some ⟨g, 0, none⟩ ∧ w'.cell? ⟨g, 0, none⟩ = some (.slice ta tn tc) ∧ tn = (firstT A).length ∧ ToksX ((firstT A).map (xtOf fB)) (.slice ta tn tc) w')

theorem lines_first {W : World} {T : TypeId} {A : Acc} {e : Ending} {w' : World} (h : LinesPost W fB T A e w') : LinesFirst W A e w' := by
  obtain ⟨la, n, lc, da, m, dc, rfl, hn, hm, hl, hd⟩ := h
  obtain ⟨a, cap, hv, h1, h2, h3⟩ := hl.at
  obtain ⟨P, -, hu, -⟩ := hl
  simp only [Value.slice.injEq] at hv
  obtain ⟨rfl, hn', rfl⟩ := hv
  refine ⟨la, n, lc, da, m, dc, rfl, hn, by omega, h2, hu.2, fun h0 => ?_⟩
  obtain ⟨ln, hln⟩ : ∃ ln, A.lines[0]? = some ln := ⟨_, List.getElem?_eq_getElem (by omega)⟩
  obtain ⟨g, tv, hg, -, c0, -, -, -, ht⟩ := h3 0 ln hln
  have hf : firstT A = ln.toks := by
    unfold firstT
    cases hA : A.lines with
    | nil => rw [hA] at hln; simp at hln
    | cons x r => rw [hA] at hln; simp at hln; rw [hln]
  have hx := ToksAt.x ht
  obtain ⟨ta, tc, rfl, -⟩ := ht
  refine ⟨g, ta, _, tc, hg, ?_, by rw [hf], ?_⟩
  · simpa using c0
  · rw [hf]
    exact hx

set_option maxRecDepth 100000 in
set_option maxHeartbeats 1600000 in
theorem lexed_any (s : ByteArray) (W : World) (hs : s.size ≤ 100000) : Calls Tryd.prog 20 #[.string s] W (ToksNew W (lexT s)) := by
  have HL : Hid (Calls Tryd.prog 22 #[.string ⟨#[102]⟩, .string s] W (LinesFirst W (linesA (charsL s.data.toList) s.size))) := Lib.hid ((rlines_any fB s W hs).mono fun _ _ h => lines_first h)
  obtain ⟨A, hA⟩ : ∃ A, linesA (charsL s.data.toList) s.size = A := ⟨_, rfl⟩
  unfold lexT
  rw [hA] at HL ⊢
  clear hA hs
  by_cases h0 : A.lines = []
  · have hf : Hid (firstT A = []) := Lib.hid (by unfold firstT; rw [h0])
    have hl : Hid (A.lines.length = 0) := Lib.hid (by rw [h0]; rfl)
    clear h0
    go_enter Tryd.func20, Tryd.ntmps20
    go_wp2_with (go_at_call 22; (with_reducible refine HL.out.mono ?_); rintro e w1 ⟨la, n, lc, da, m, dc, rfl, hn, -, -, hb1, -⟩; have HB1 := Lib.hid hb1; clear hb1; (have hn0 : n = 0 := hn.trans hl.out); subst hn0; clear hn)
    go_ret
    exact ⟨none, 0, 0, rfl, by rw [hf.out]; rfl, by rw [hf.out]; exact toksX_nil _, HB1.out⟩
  · have hl : Hid (0 < A.lines.length) := Lib.hid (List.length_pos_iff.2 h0)
    clear h0
    go_enter Tryd.func20, Tryd.ntmps20
    go_wp2_with (go_at_call 22; (with_reducible refine HL.out.mono ?_); rintro e w1 ⟨la, n, lc, da, m, dc, rfl, hn, hlc, hlm, hb1, hf⟩; have HB1 := Lib.hid hb1; clear hb1; (have hn0 : 0 < n := hn ▸ hl.out); (obtain ⟨g, ta, tn, tc, rfl, c0, htn, hx⟩ := hf hn0); have HX := Lib.hid hx; have HTN := Lib.hid htn; (have hne : ((n : Int) == 0) = false := by simp; omega); unfold maxLen at hlm; clear hn hx htn hf)
    go_ret
    exact ⟨ta, tn, tc, rfl, by rw [HTN.out, List.length_map], HX.out, HB1.out⟩

end Go.Proofs.YtlnlpahmfpjjdaaDoor

/-
  What the document fixes.
-/
namespace Go.Proofs.YtlnlpahmfpjjdaaDoor
open Go.RowKit

def awX (k : Nat) (x : ByteArray) (sp : Bool) (f t : Nat) : Xt := ⟨(k : Int), x, sp, fB, (f : Int), (t : Int), false, []⟩
theorem awd_one : lexT ⟨#[35, 32, 100, 101, 102, 105, 110, 101, 32, 65]⟩ = [awX 5 ⟨#[35]⟩ false 0 1, awX 1 ⟨#[100, 101, 102, 105, 110, 101]⟩ true 2 8, awX 1 ⟨#[65]⟩ true 9 10] := by rfl
theorem awd_two : lexT ⟨#[37, 58]⟩ = [awX 5 ⟨#[37, 58]⟩ false 0 2] := by rfl
theorem awd_three : lexT ⟨#[35, 120]⟩ = [awX 5 ⟨#[35]⟩ false 0 1, awX 1 ⟨#[120]⟩ false 1 2] := by rfl
theorem hash_is {t : Xt} {b : Bool} (h : (decide (t.k = 5) && (t.x.data.toList == [35] || t.x.data.toList == [37, 58])) = b) : hashX t = b := by
  unfold hashX
  rw [ByteArray.toList_eq]
  exact h
theorem awd_k1 : kindL [awX 5 ⟨#[35]⟩ false 0 1, awX 1 ⟨#[100, 101, 102, 105, 110, 101]⟩ true 2 8, awX 1 ⟨#[65]⟩ true 9 10] = 9 := by
  rw [kind_two (hash_is (by decide)), if_pos (by decide)]
  decide
theorem awd_k2 : kindL [awX 5 ⟨#[37, 58]⟩ false 0 2] = 1 := kind_one (hash_is (by decide))
theorem awd_k3 : kindL [awX 5 ⟨#[35]⟩ false 0 1, awX 1 ⟨#[120]⟩ false 1 2] = 14 := by
  rw [kind_two (hash_is (by decide)), if_pos (by decide)]
  decide

set_option maxRecDepth 100000 in
set_option maxHeartbeats 6400000 in
theorem awake7_any {W : World} (hW : WordsAt 0 W) (h0 : 0 < W.heap.size) : Calls Tryd.prog 11 #[] W (TruePost W) := by
  have T1 : Hid (∀ X : World, Calls Tryd.prog 20 #[.string ⟨#[35, 32, 100, 101, 102, 105, 110, 101, 32, 65]⟩] X (ToksNew X [awX 5 ⟨#[35]⟩ false 0 1, awX 1 ⟨#[100, 101, 102, 105, 110, 101]⟩ true 2 8, awX 1 ⟨#[65]⟩ true 9 10])) := Lib.hid (fun X => awd_one ▸ lexed_any _ X (by decide))
  have T2 : Hid (∀ X : World, Calls Tryd.prog 20 #[.string ⟨#[37, 58]⟩] X (ToksNew X [awX 5 ⟨#[37, 58]⟩ false 0 2])) := Lib.hid (fun X => awd_two ▸ lexed_any _ X (by decide))
  have T3 : Hid (∀ X : World, Calls Tryd.prog 20 #[.string ⟨#[35, 120]⟩] X (ToksNew X [awX 5 ⟨#[35]⟩ false 0 1, awX 1 ⟨#[120]⟩ false 1 2])) := Lib.hid (fun X => awd_three ▸ lexed_any _ X (by decide))
  have K1 : Hid (∀ (X : World) (v : Value), ToksX [awX 5 ⟨#[35]⟩ false 0 1, awX 1 ⟨#[100, 101, 102, 105, 110, 101]⟩ true 2 8, awX 1 ⟨#[65]⟩ true 9 10] v X → Below W.heap.size W X → Calls Tryd.prog 12 #[v] X (IntNew 9 X)) := Lib.hid (fun X v h b => by
    have := kind_any h (hW.next b h0) (Nat.lt_of_lt_of_le h0 b.size)
    rw [awd_k1] at this
    exact this)
  have K0 : Hid (∀ X : World, Below W.heap.size W X → Calls Tryd.prog 12 #[.slice none 0 0] X (IntNew 0 X)) := Lib.hid (fun X b => kind_any (toksX_nil X) (hW.next b h0) (Nat.lt_of_lt_of_le h0 b.size))
  have K2 : Hid (∀ (X : World) (v : Value), ToksX [awX 5 ⟨#[37, 58]⟩ false 0 2] v X → Below W.heap.size W X → Calls Tryd.prog 12 #[v] X (IntNew 1 X)) := Lib.hid (fun X v h b => by
    have := kind_any h (hW.next b h0) (Nat.lt_of_lt_of_le h0 b.size)
    rw [awd_k2] at this
    exact this)
  have K3 : Hid (∀ (X : World) (v : Value), ToksX [awX 5 ⟨#[35]⟩ false 0 1, awX 1 ⟨#[120]⟩ false 1 2] v X → Below W.heap.size W X → Calls Tryd.prog 12 #[v] X (IntNew 14 X)) := Lib.hid (fun X v h b => by
    have := kind_any h (hW.next b h0) (Nat.lt_of_lt_of_le h0 b.size)
    rw [awd_k3] at this
    exact this)
  have R1 : Hid (∀ (X : World) (v : Value), ToksX [awX 5 ⟨#[35]⟩ false 0 1, awX 1 ⟨#[100, 101, 102, 105, 110, 101]⟩ true 2 8, awX 1 ⟨#[65]⟩ true 9 10] v X → Below W.heap.size W X → Calls Tryd.prog 15 #[v] X (ToksNew X [awX 1 ⟨#[65]⟩ true 9 10])) := Lib.hid (fun X v h b => by
    have := rest_any h (hW.next b h0) (Nat.lt_of_lt_of_le h0 b.size) (by decide) (by decide)
    rw [rest_high (by rw [awd_k1]; decide)] at this
    exact this)
  have W5 : Hid (∀ X : World, Below W.heap.size W X → Calls Tryd.prog 17 #[.int .i64 5] X (StrNew ⟨#[101, 108, 105, 102]⟩ X)) := Lib.hid (fun X b => word_any 5 (hW.next b h0))
  have W9 : Hid (∀ X : World, Below W.heap.size W X → Calls Tryd.prog 17 #[.int .i64 99] X (StrNew ⟨#[]⟩ X)) := Lib.hid (fun X b => word_any 99 (hW.next b h0))
  have E5 : ((⟨#[101, 108, 105, 102]⟩ : ByteArray).toList == (⟨#[101, 108, 105, 102]⟩ : ByteArray).toList) = true := by simp
  clear hW
  go_enter Tryd.func11, Tryd.ntmps11
  go_wp2_with (first
    | (go_at_call 20; first
        | ((with_reducible refine (T1.out _).mono ?_); rintro e w1 ⟨a1, n1, c1, rfl, hn, hx, hb⟩; have HX1 := Lib.hid hx; have HB1 := Lib.hid hb; clear hx hb hn)
        | ((with_reducible refine (T2.out _).mono ?_); rintro e w5 ⟨a5, n5, c5, rfl, hn, hx, hb⟩; have HX5 := Lib.hid hx; have HB5 := Lib.hid (below_up HB4.out hb); clear hx hb hn)
        | ((with_reducible refine (T3.out _).mono ?_); rintro e w7 ⟨a7, n7, c7, rfl, hn, hx, hb⟩; have HX7 := Lib.hid hx; have HB7 := Lib.hid (below_up HB6.out hb); clear hx hb hn))
    | (go_at_call 15; (with_reducible refine (R1.out _ _ HX1.out HB1.out).mono ?_); rintro e w2 ⟨a2, n2, c2, rfl, hn, hx, hb⟩; have HX2 := Lib.hid hx; have HB2 := Lib.hid (below_up HB1.out hb); have HX1' := Lib.hid (HX1.out.over hb); (obtain rfl : n2 = 1 := hn); clear hx hb)
    | (go_at_call 12; first
        | ((with_reducible refine (K0.out _ HB3.out).mono ?_); rintro e w4 ⟨rfl, hb⟩; have HB4 := Lib.hid (below_up HB3.out hb); clear hb)
        | ((with_reducible refine (K1.out _ _ HX1'.out HB2.out).mono ?_); rintro e w3 ⟨rfl, hb⟩; have HB3 := Lib.hid (below_up HB2.out hb); (obtain ⟨g, o, sa, sn, sc, rfl, hg, -, ⟨-, q1, -⟩, -⟩ := (HX2.out.over hb).get (k := 0) rfl); (have k1 : w3.cell? ⟨g, o + 0 * 8 + 1, none⟩ = some (.string ⟨#[65]⟩) := q1); clear q1; rw [Nat.zero_mul, Nat.add_zero] at k1; clear hb)
        | ((with_reducible refine (K2.out _ _ HX5.out HB5.out).mono ?_); rintro e w6 ⟨rfl, hb⟩; have HB6 := Lib.hid (below_up HB5.out hb); clear hb)
        | ((with_reducible refine (K3.out _ _ HX7.out HB7.out).mono ?_); rintro e w8 ⟨rfl, hb⟩; have HB8 := Lib.hid (below_up HB7.out hb); clear hb))
    | (go_at_call 17; first
        | ((with_reducible refine (W5.out _ HB8.out).mono ?_); rintro e w9 ⟨rfl, hb⟩; have HB9 := Lib.hid (below_up HB8.out hb); clear hb)
        | ((with_reducible refine (W9.out _ HB9.out).mono ?_); rintro e w10 ⟨rfl, hb⟩; have HB10 := Lib.hid (below_up HB9.out hb); clear hb)))
  go_ret
  exact ⟨rfl, HB10.out⟩

end Go.Proofs.YtlnlpahmfpjjdaaDoor
