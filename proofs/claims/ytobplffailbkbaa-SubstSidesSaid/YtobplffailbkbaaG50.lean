/-
  Texts of the proof, put together: SuTk.
-/
import Derived.Test.YtobplffailbkbaaG46

/-
  Tokens of a text, as subst's laws take them: a row that is nowhere has no room.
-/
namespace Go.Proofs.Ytobplffailbkbaa
open Go.RowKit Go.Maps

theorem lrow_first {W : World} {F : ByteArray} {T : TypeId} {lines : List Ln} {w : World} {la : Option Addr} {n lc : Nat} (h : LRow W F T (.slice la n lc) lines w) {g : Nat} {ta : Option Addr} {tn tc : Nat} (hg : la = some ⟨g, 0, none⟩) (hc : w.cell? ⟨g, 0, none⟩ = some (.slice ta tn tc)) (hn : 0 < lines.length) : ta = none → tc = 0 := by
  obtain ⟨P, hP, h1, h2⟩ := h
  obtain ⟨a, cap, hv, c1, c2, h3⟩ := row_form h1.1
  simp only [Value.slice.injEq] at hv
  obtain ⟨rfl, -, -⟩ := hv
  have hl : P.length = lines.length := by rw [← hP, List.length_map]
  obtain ⟨p, hp⟩ : ∃ p, P[0]? = some p := ⟨_, List.getElem?_eq_getElem (by omega)⟩
  obtain ⟨g', hga, -, e0⟩ := h3 (0 * 4 + 0) _ ((flat_get (f := lcell) (n := 4) (fun _ => rfl) P 0 p hp 0 (by omega)).trans rfl)
  rw [hg] at hga
  simp only [Option.some.injEq, Addr.mk.injEq, and_true] at hga
  subst hga
  rw [show (0 * 4 + 0 : Nat) = 0 from rfl, hc, Option.some.injEq] at e0
  have hr := (h2 p (List.mem_of_getElem? hp)).1
  rw [← e0] at hr
  intro hta
  subst hta
  obtain ⟨-, ⟨hv, -⟩ | ⟨k, cap, cur, hv, -⟩⟩ := hr
  · simp only [Value.slice.injEq] at hv
    exact hv.2.2
  · simp only [Value.slice.injEq] at hv
    cases hv.1
def LinesFst (W : World) (A : Acc) (e : Ending) (w' : World) : Prop :=
  ∃ la n lc da m dc, e = .returned (.tuple #[.slice la n lc, .slice da m dc]) ∧ n = A.lines.length ∧ n ≤ lc ∧ lc ≤ maxLen ∧ Below W.heap.size W w' ∧ (0 < n → ∃ g ta tn tc, la = some ⟨g, 0, none⟩ ∧ w'.cell? ⟨g, 0, none⟩ = some (.slice ta tn tc) ∧ tn = (firstT A).length ∧ ToksX ((firstT A).map (xtOf fB)) (.slice ta tn tc) w' ∧ (ta = none → tc = 0))
theorem lines_fst {W : World} {T : TypeId} {A : Acc} {e : Ending} {w' : World} (h : LinesPost W fB T A e w') : LinesFst W A e w' := by
  obtain ⟨la, n, lc, da, m, dc, he, hn, h1, h2, hb, hf⟩ := lines_first h
  refine ⟨la, n, lc, da, m, dc, he, hn, h1, h2, hb, fun h0 => ?_⟩
  obtain ⟨g, ta, tn, tc, hg, hc, ht, hx⟩ := hf h0
  obtain ⟨la', n', lc', da', m', dc', he', hn', -, hl, -⟩ := h
  rw [he] at he'
  simp only [Ending.returned.injEq, Value.tuple.injEq, Array.mk.injEq, List.cons.injEq, Value.slice.injEq] at he'
  obtain ⟨⟨rfl, rfl, rfl⟩, -⟩ := he'
  exact ⟨g, ta, tn, tc, hg, hc, ht, hx, lrow_first hl hg hc (by omega)⟩
/-- The tokens of a text, as they are made. -/
def ToksN (W : World) (T : List Xt) (e : Ending) (w' : World) : Prop := ∃ a n c, e = .returned (.slice a n c) ∧ n = T.length ∧ ToksX T (.slice a n c) w' ∧ (a = none → c = 0) ∧ Below W.heap.size W w'

set_option maxRecDepth 100000 in
set_option maxHeartbeats 1600000 in
theorem toks11_any (s : ByteArray) (W : World) (hs : s.size ≤ 100000) : Calls Try.prog 12 #[.string s] W (ToksN W (lexT s)) := by
  have HL : Hid (Calls Try.prog 24 #[.string ⟨#[102]⟩, .string s] W (LinesFst W (linesA (charsL s.data.toList) s.size))) := Lib.hid ((rlines_any fB s W hs).mono fun _ _ h => lines_fst h)
  obtain ⟨A, hA⟩ : ∃ A, linesA (charsL s.data.toList) s.size = A := ⟨_, rfl⟩
  unfold lexT
  rw [hA] at HL ⊢
  clear hA hs
  by_cases h0 : A.lines = []
  · have hf : Hid (firstT A = []) := Lib.hid (by unfold firstT; rw [h0])
    have hl : Hid (A.lines.length = 0) := Lib.hid (by rw [h0]; rfl)
    clear h0
    go_enter Try.func12, Try.ntmps12
    go_wp2_with (go_at_call 24; (with_reducible refine HL.out.mono ?_); rintro e w1 ⟨la, n, lc, da, m, dc, rfl, hn, -, -, hb1, -⟩; have HB1 := Lib.hid hb1; clear hb1; (have hn0 : n = 0 := hn.trans hl.out); subst hn0; clear hn)
    go_ret
    exact ⟨none, 0, 0, rfl, by rw [hf.out]; rfl, by rw [hf.out]; exact toksX_nil _, (fun _ => rfl), HB1.out⟩
  · have hl : Hid (0 < A.lines.length) := Lib.hid (List.length_pos_iff.2 h0)
    clear h0
    go_enter Try.func12, Try.ntmps12
    go_wp2_with (go_at_call 24; (with_reducible refine HL.out.mono ?_); rintro e w1 ⟨la, n, lc, da, m, dc, rfl, hn, hlc, hlm, hb1, hf⟩; have HB1 := Lib.hid hb1; clear hb1; (have hn0 : 0 < n := hn ▸ hl.out); (obtain ⟨g, ta, tn, tc, rfl, c0, htn, hx, hz⟩ := hf hn0); have HX := Lib.hid hx; have HTN := Lib.hid htn; have HZ := Lib.hid hz; (have hne : ((n : Int) == 0) = false := by simp; omega); unfold maxLen at hlm; clear hn hx htn hf hz)
    go_ret
    exact ⟨ta, tn, tc, rfl, by rw [HTN.out, List.length_map], HX.out, HZ.out, HB1.out⟩

end Go.Proofs.Ytobplffailbkbaa
