/-
  Reading lines that were answered.
-/
import Derived.Test.YtpnboieppkjfnaaLxOne
namespace Go.Proofs.Ytpnboieppkjfnaa
open Go.RowKit

/-- A token lies there. -/
def TokAt (F : ByteArray) (t : Tk) (g j : Nat) (w : World) : Prop :=
  w.cell? ⟨g, j, none⟩ = some (.int .i64 (t.k : Int)) ∧ w.cell? ⟨g, j + 1, none⟩ = some (.string ⟨t.x.toArray⟩) ∧ w.cell? ⟨g, j + 2, none⟩ = some (.bool t.sp) ∧ w.cell? ⟨g, j + 3, none⟩ = some (.string F) ∧
  w.cell? ⟨g, j + 4, none⟩ = some (.int .i64 (t.f : Int)) ∧ w.cell? ⟨g, j + 5, none⟩ = some (.int .i64 (t.t : Int)) ∧ w.cell? ⟨g, j + 6, none⟩ = some (.bool false) ∧ w.cell? ⟨g, j + 7, none⟩ = some (.slice none 0 0)

/-- A row of tokens, as it is read. -/
def ToksAt (F : ByteArray) (T : List Tk) (v : Value) (w : World) : Prop :=
  ∃ a cap, v = .slice a T.length cap ∧ T.length ≤ cap ∧ cap ≤ maxLen ∧ ∀ k t, T[k]? = some t → ∃ g, a = some ⟨g, 0, none⟩ ∧ g < w.heap.size ∧ TokAt F t g (k * 8) w

theorem toks_at {B : Nat} {F : ByteArray} {T : List Tk} {v : Value} {w : World} (h : w.ownsRow B 41 8 v T.length (tcells F T)) : ToksAt F T v w := by
  obtain ⟨a, cap, hv, h1, h2, h3⟩ := row_form h
  refine ⟨a, cap, hv, h1, h2, fun k t ht => ?_⟩
  have hg := fun j (hj : j < 8) => flat_get (f := tcell F) (n := 8) (fun _ => rfl) T k t ht j hj
  obtain ⟨g, hga, hlt, -⟩ := h3 (k * 8 + 0) _ ((hg 0 (by omega)).trans rfl)
  have hc : ∀ j u, j < 8 → (tcell F t)[j]? = some u → w.cell? ⟨g, k * 8 + j, none⟩ = some u := by
    intro j u hj hu
    obtain ⟨g', hga', -, e⟩ := h3 (k * 8 + j) u ((hg j hj).trans hu)
    rw [hga] at hga'
    simp only [Option.some.injEq, Addr.mk.injEq, and_true] at hga'
    rw [hga']
    exact e
  exact ⟨g, hga, hlt, hc 0 _ (by omega) rfl, hc 1 _ (by omega) rfl, hc 2 _ (by omega) rfl, hc 3 _ (by omega) rfl, hc 4 _ (by omega) rfl, hc 5 _ (by omega) rfl, hc 6 _ (by omega) rfl, hc 7 _ (by omega) rfl⟩

/-- Lines, as they are read. -/
def LinesAt (F : ByteArray) (lines : List Ln) (v : Value) (w : World) : Prop :=
  ∃ a cap, v = .slice a lines.length cap ∧ lines.length ≤ cap ∧ cap ≤ maxLen ∧ ∀ i ln, lines[i]? = some ln → ∃ g tv, a = some ⟨g, 0, none⟩ ∧ g < w.heap.size ∧
    w.cell? ⟨g, i * 4, none⟩ = some tv ∧ w.cell? ⟨g, i * 4 + 1, none⟩ = some (.int .i64 (ln.f : Int)) ∧ w.cell? ⟨g, i * 4 + 2, none⟩ = some (.int .i64 (ln.t : Int)) ∧ w.cell? ⟨g, i * 4 + 3, none⟩ = some (.bool ln.o) ∧ ToksAt F ln.toks tv w

theorem LRow.at {W : World} {F : ByteArray} {T : TypeId} {v : Value} {lines : List Ln} {w : World} (h : LRow W F T v lines w) : LinesAt F lines v w := by
  obtain ⟨P, hP, h1, h2⟩ := h
  obtain ⟨a, cap, hv, c1, c2, h3⟩ := row_form h1.1
  have hl : P.length = lines.length := by rw [← hP, List.length_map]
  refine ⟨a, cap, by rw [← hl]; exact hv, by omega, c2, fun i ln hi => ?_⟩
  rw [← hP, List.getElem?_map, Option.map_eq_some_iff] at hi
  obtain ⟨p, hp, rfl⟩ := hi
  have hg := fun j (hj : j < 4) => flat_get (f := lcell) (n := 4) (fun _ => rfl) P i p hp j hj
  obtain ⟨g, hga, hlt, e0⟩ := h3 (i * 4 + 0) _ ((hg 0 (by omega)).trans rfl)
  have hc : ∀ j u, j < 4 → (lcell p)[j]? = some u → w.cell? ⟨g, i * 4 + j, none⟩ = some u := by
    intro j u hj hu
    obtain ⟨g', hga', -, e⟩ := h3 (i * 4 + j) u ((hg j hj).trans hu)
    rw [hga] at hga'
    simp only [Option.some.injEq, Addr.mk.injEq, and_true] at hga'
    rw [hga']
    exact e
  exact ⟨g, p.1, hga, hlt, hc 0 _ (by omega) rfl, hc 1 _ (by omega) rfl, hc 2 _ (by omega) rfl, hc 3 _ (by omega) rfl, toks_at (h2 p (List.mem_of_getElem? hp)).1⟩

/-- Diagnostics, as they are read. -/
def DiagsAt (F : ByteArray) (D : List Dg) (v : Value) (w : World) : Prop :=
  ∃ a cap, v = .slice a D.length cap ∧ D.length ≤ cap ∧ cap ≤ maxLen ∧ ∀ i d, D[i]? = some d → ∃ g, a = some ⟨g, 0, none⟩ ∧ g < w.heap.size ∧
    w.cell? ⟨g, i * 4, none⟩ = some (.int .i64 (d.c : Int)) ∧ w.cell? ⟨g, i * 4 + 1, none⟩ = some (.string F) ∧ w.cell? ⟨g, i * 4 + 2, none⟩ = some (.int .i64 (d.f : Int)) ∧ w.cell? ⟨g, i * 4 + 3, none⟩ = some (.int .i64 (d.t : Int))
theorem DRow.at {W : World} {F : ByteArray} {v : Value} {D : List Dg} {w : World} (h : DRow W F v D w) : DiagsAt F D v w := by
  obtain ⟨a, cap, hv, c1, c2, h3⟩ := row_form h.1
  refine ⟨a, cap, hv, c1, c2, fun i d hi => ?_⟩
  have hg := fun j (hj : j < 4) => flat_get (f := dcell F) (n := 4) (fun _ => rfl) D i d hi j hj
  obtain ⟨g, hga, hlt, e0⟩ := h3 (i * 4 + 0) _ ((hg 0 (by omega)).trans rfl)
  have hc : ∀ j u, j < 4 → (dcell F d)[j]? = some u → w.cell? ⟨g, i * 4 + j, none⟩ = some u := by
    intro j u hj hu
    obtain ⟨g', hga', -, e⟩ := h3 (i * 4 + j) u ((hg j hj).trans hu)
    rw [hga] at hga'
    simp only [Option.some.injEq, Addr.mk.injEq, and_true] at hga'
    rw [hga']
    exact e
  exact ⟨g, hga, hlt, hc 0 _ (by omega) rfl, hc 1 _ (by omega) rfl, hc 2 _ (by omega) rfl, hc 3 _ (by omega) rfl⟩

def awR1 : Acc := ⟨6, false, [], [⟨[⟨1, [97], false, 0, 1⟩, ⟨5, [43, 43], false, 1, 3⟩, ⟨5, [43], false, 3, 4⟩, ⟨1, [98], false, 4, 5⟩], 0, 6, false⟩], []⟩
theorem aw_one : linesA (charsL (⟨#[97, 43, 43, 43, 98, 10]⟩ : ByteArray).data.toList) 6 = awR1 := by rfl
def awR2 : Acc := ⟨4, false, [], [⟨[], 0, 4, true⟩], [⟨1, 0, 2⟩]⟩
theorem aw_two : linesA (charsL (⟨#[47, 42, 32, 120]⟩ : ByteArray).data.toList) 4 = awR2 := by rfl
theorem aw_lsh : oneL (⟨#[60, 60, 61]⟩ : ByteArray).data.toList = some 5 := by rfl
theorem aw_ab : oneL (⟨#[97, 32, 98]⟩ : ByteArray).data.toList = none := by rfl

end Go.Proofs.Ytpnboieppkjfnaa
