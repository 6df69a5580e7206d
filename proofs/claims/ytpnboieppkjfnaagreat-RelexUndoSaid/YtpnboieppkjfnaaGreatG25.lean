/-
  Texts of the proof, put together: LxOne, LxAt, LxAwake.
-/
import Derived.Test.YtpnboieppkjfnaaGreatG24

/-
  One of the project, walked.
-/
namespace Go.Proofs.YtpnboieppkjfnaaGreat
open Go.RowKit

/-- The kind of the token that all of a text is. -/
def oneL (l : List UInt8) : Option Nat :=
  if begN (l ++ [10]) = 1 then (if (tok (l ++ [10])).2 = l.length then (if badN (tok (l ++ [10])).1 (l.getD 0 0) then none else some (tok (l ++ [10])).1) else none) else none

def oneV (k : Nat) (x : ByteArray) : Value := .agg #[.int .i64 (k : Int), .string x, .bool false, .string ⟨#[]⟩, .int .i64 0, .int .i64 0, .bool false, .slice none 0 0]
def onePost (s : ByteArray) (W : World) (e : Ending) (w' : World) : Prop :=
  (match oneL s.data.toList with
    | some k => e = .returned (.tuple #[oneV k s, .bool true])
    | none => e = .returned (.tuple #[oneV 0 ⟨#[]⟩, .bool false])) ∧ Below W.heap.size W w'

theorem one_none {s : ByteArray} {W w' : World} (h : oneL s.data.toList = none) (hb : Below W.heap.size W w') : onePost s W (.returned (.tuple #[.agg #[.int .i64 0, .string ⟨#[]⟩, .bool false, .string ⟨#[]⟩, .int .i64 0, .int .i64 0, .bool false, .slice none 0 0], .bool false])) w' := by
  unfold onePost
  rw [h]
  exact ⟨rfl, hb⟩
theorem one_some {s : ByteArray} {k : Nat} {W w' : World} (h : oneL s.data.toList = some k) (hb : Below W.heap.size W w') : onePost s W (.returned (.tuple #[.agg #[.int .i64 (k : Int), .string s, .bool false, .string ⟨#[]⟩, .int .i64 0, .int .i64 0, .bool false, .slice none 0 0], .bool true])) w' := by
  unfold onePost
  rw [h]
  exact ⟨rfl, hb⟩

theorem nl_snoc (l : List UInt8) : Nl (l ++ [10]) := ⟨by simp, by simp [List.getD]⟩

theorem append_data (a b : ByteArray) : (a ++ b).data.toList = a.data.toList ++ b.data.toList := by
  obtain ⟨x⟩ := a
  obtain ⟨y⟩ := b
  simp

theorem heap_two (W : World) (a b : Obj) : ((W.alloc a).alloc b).heap[W.heap.size + 1]? = some b := by
  have h := heap_alloc_new (W.alloc a) b
  rw [show (W.alloc a).heap.size = W.heap.size + 1 from by simp] at h
  exact h
theorem heap_one (W : World) (a b : Obj) : ((W.alloc a).alloc b).heap[W.heap.size]? = some a := by
  rw [Below.heap_alloc _ _ _ (by simp)]
  exact heap_alloc_new _ _

/-- One's own two blocks, behind token. -/
structure OneMid0 (W : World) (ch : ByteArray) (w : World) : Prop where
  low : Below W.heap.size W w
  tok : w.heap[W.heap.size]? = some (.cells #[.int .i64 0, .string ⟨#[]⟩, .bool false, .string ⟨#[]⟩, .int .i64 0, .int .i64 0, .bool false, .slice none 0 0] 110 (0, 0))
  walk : ∃ c : WC, c.ch = ch ∧ WAt (W.heap.size + 1) c w
def OneMid (W : World) (ch : ByteArray) (k n : Nat) (e : Ending) (w : World) : Prop := e = .returned (.tuple #[.int .i64 (k : Int), .int .i64 (n : Int)]) ∧ OneMid0 W ch w

theorem one_mid {W : World} {ch : ByteArray} {b : Obj} {c c' : WC} {w : World} (h : Step (W.heap.size + 1) c c' ((W.alloc (.cells #[.int .i64 0, .string ⟨#[]⟩, .bool false, .string ⟨#[]⟩, .int .i64 0, .int .i64 0, .bool false, .slice none 0 0] 110)).alloc b) w) (hc : c'.ch = ch) : OneMid0 W ch w := by
  have b2 := below_two W (.cells #[.int .i64 0, .string ⟨#[]⟩, .bool false, .string ⟨#[]⟩, .int .i64 0, .int .i64 0, .bool false, .slice none 0 0] 110) b
  refine ⟨⟨h.os.trans b2.os, h.tape.trans b2.tape, h.output.trans b2.output, by rw [h.size]; exact b2.size, fun k hk => (h.block k (by omega)).trans (b2.block k hk)⟩, ?_, c', hc, h.is⟩
  rw [h.block _ (by omega)]
  exact heap_one W _ b
theorem OneMid0.zeros {W : World} {ch : ByteArray} {w : World} (h : OneMid0 W ch w) : w.cell? ⟨W.heap.size, 0, none⟩ = some (.int .i64 0) ∧ w.cell? ⟨W.heap.size, 1, none⟩ = some (.string ⟨#[]⟩) ∧ w.cell? ⟨W.heap.size, 2, none⟩ = some (.bool false) ∧ w.cell? ⟨W.heap.size, 3, none⟩ = some (.string ⟨#[]⟩) ∧
    w.cell? ⟨W.heap.size, 4, none⟩ = some (.int .i64 0) ∧ w.cell? ⟨W.heap.size, 5, none⟩ = some (.int .i64 0) ∧ w.cell? ⟨W.heap.size, 6, none⟩ = some (.bool false) ∧ w.cell? ⟨W.heap.size, 7, none⟩ = some (.slice none 0 0) := by
  refine ⟨?_, ?_, ?_, ?_, ?_, ?_, ?_, ?_⟩ <;> (rw [Lib.cell_of_heap h.tok]; rfl)
theorem OneMid0.free {W : World} {ch : ByteArray} {w : World} (h : OneMid0 W ch w) : ∀ k, w.frozen? ⟨W.heap.size, k, none⟩ = false := fun k => frozen_of_row w _ k _ _ h.tok
theorem OneMid0.chars {W : World} {ch : ByteArray} {w : World} (h : OneMid0 W ch w) : w.cell? ⟨W.heap.size + 1, 3, none⟩ = some (.string ch) := by
  obtain ⟨c, hc, hw⟩ := h.walk
  rw [← hc]
  exact hw.k3

theorem append_size (a b : ByteArray) : (a ++ b).size = a.size + b.size := by
  rw [← len_byte, append_data, List.length_append, len_byte, len_byte]
theorem extract_front (a b : ByteArray) : (a ++ b).extract 0 a.size = a := by
  rw [ext_text, append_data, List.drop_zero, Nat.sub_zero, ← len_byte, List.take_left]

theorem tok10 {l : List UInt8} (hb : begN (l ++ [10]) = 1) : 0 < l.length ∧ (l ++ [10]).getD 0 0 ≠ 10 ∧ (l ++ [10]).getD 0 0 = l.getD 0 0 ∧ (tok (l ++ [10])).2 ≤ l.length := by
  have h10 : (l ++ [10]).getD 0 0 ≠ 10 := fun e => by
    rw [begN_two' e] at hb
    cases hb
  have h0 : 0 < l.length := by
    cases l with
    | nil => exact absurd rfl h10
    | cons a r => simp
  refine ⟨h0, h10, by simp only [List.getD]; rw [List.getElem?_append_left h0], ?_⟩
  have h := tok_in (l := l ++ [10]) (by simp) h10
  rcases Nat.lt_or_ge l.length (tok (l ++ [10])).2 with h1 | h1
  · exact absurd (by simp [List.getD]) (h.2.2 l.length h1)
  · exact h1

theorem put1 {W w : World} {cs : Array Value} {T : TypeId} (hb : Below W.heap.size W w) (ht : w.heap[W.heap.size]? = some (.cells cs T (0, 0))) (k : Nat) (v : Value) :
    Below W.heap.size W (w.setCell ⟨W.heap.size, k, none⟩ v) ∧ (w.setCell ⟨W.heap.size, k, none⟩ v).heap[W.heap.size]? = some (.cells (cs.setIfInBounds k v) T (0, 0)) :=
  ⟨hb.setCell (Nat.le_refl _) _, heap_setCell_same w W.heap.size k _ _ v ht⟩

theorem one_done {W w : World} {ch : ByteArray} (h : OneMid0 W ch w) (v0 v1 v2 v3 v4 v5 v6 v7 : Value) : ∃ X, (((((((w.setCell ⟨W.heap.size, 0, none⟩ v0).setCell ⟨W.heap.size, 1, none⟩ v1).setCell ⟨W.heap.size, 2, none⟩ v2).setCell ⟨W.heap.size, 3, none⟩ v3).setCell ⟨W.heap.size, 4, none⟩ v4).setCell ⟨W.heap.size, 5, none⟩ v5).setCell ⟨W.heap.size, 6, none⟩ v6).setCell ⟨W.heap.size, 7, none⟩ v7 = X ∧
    (X.cell? ⟨W.heap.size, 0, none⟩ = some v0 ∧ X.cell? ⟨W.heap.size, 1, none⟩ = some v1 ∧ X.cell? ⟨W.heap.size, 2, none⟩ = some v2 ∧ X.cell? ⟨W.heap.size, 3, none⟩ = some v3 ∧ X.cell? ⟨W.heap.size, 4, none⟩ = some v4 ∧ X.cell? ⟨W.heap.size, 5, none⟩ = some v5 ∧ X.cell? ⟨W.heap.size, 6, none⟩ = some v6 ∧ X.cell? ⟨W.heap.size, 7, none⟩ = some v7) ∧ Below W.heap.size W X := by
  obtain ⟨b0, t0⟩ := put1 h.low h.tok 0 v0
  obtain ⟨x0, e0⟩ : ∃ x, w.setCell ⟨W.heap.size, 0, none⟩ v0 = x := ⟨_, rfl⟩
  rw [e0] at b0 t0 ⊢
  have t0 : x0.heap[W.heap.size]? = some (.cells #[v0, .string ⟨#[]⟩, .bool false, .string ⟨#[]⟩, .int .i64 0, .int .i64 0, .bool false, .slice none 0 0] 110 (0, 0)) := t0
  obtain ⟨b1, t1⟩ := put1 b0 t0 1 v1
  obtain ⟨x1, e1⟩ : ∃ x, x0.setCell ⟨W.heap.size, 1, none⟩ v1 = x := ⟨_, rfl⟩
  rw [e1] at b1 t1 ⊢
  have t1 : x1.heap[W.heap.size]? = some (.cells #[v0, v1, .bool false, .string ⟨#[]⟩, .int .i64 0, .int .i64 0, .bool false, .slice none 0 0] 110 (0, 0)) := t1
  obtain ⟨b2, t2⟩ := put1 b1 t1 2 v2
  obtain ⟨x2, e2⟩ : ∃ x, x1.setCell ⟨W.heap.size, 2, none⟩ v2 = x := ⟨_, rfl⟩
  rw [e2] at b2 t2 ⊢
  have t2 : x2.heap[W.heap.size]? = some (.cells #[v0, v1, v2, .string ⟨#[]⟩, .int .i64 0, .int .i64 0, .bool false, .slice none 0 0] 110 (0, 0)) := t2
  obtain ⟨b3, t3⟩ := put1 b2 t2 3 v3
  obtain ⟨x3, e3⟩ : ∃ x, x2.setCell ⟨W.heap.size, 3, none⟩ v3 = x := ⟨_, rfl⟩
  rw [e3] at b3 t3 ⊢
  have t3 : x3.heap[W.heap.size]? = some (.cells #[v0, v1, v2, v3, .int .i64 0, .int .i64 0, .bool false, .slice none 0 0] 110 (0, 0)) := t3
  obtain ⟨b4, t4⟩ := put1 b3 t3 4 v4
  obtain ⟨x4, e4⟩ : ∃ x, x3.setCell ⟨W.heap.size, 4, none⟩ v4 = x := ⟨_, rfl⟩
  rw [e4] at b4 t4 ⊢
  have t4 : x4.heap[W.heap.size]? = some (.cells #[v0, v1, v2, v3, v4, .int .i64 0, .bool false, .slice none 0 0] 110 (0, 0)) := t4
  obtain ⟨b5, t5⟩ := put1 b4 t4 5 v5
  obtain ⟨x5, e5⟩ : ∃ x, x4.setCell ⟨W.heap.size, 5, none⟩ v5 = x := ⟨_, rfl⟩
  rw [e5] at b5 t5 ⊢
  have t5 : x5.heap[W.heap.size]? = some (.cells #[v0, v1, v2, v3, v4, v5, .bool false, .slice none 0 0] 110 (0, 0)) := t5
  obtain ⟨b6, t6⟩ := put1 b5 t5 6 v6
  obtain ⟨x6, e6⟩ : ∃ x, x5.setCell ⟨W.heap.size, 6, none⟩ v6 = x := ⟨_, rfl⟩
  rw [e6] at b6 t6 ⊢
  have t6 : x6.heap[W.heap.size]? = some (.cells #[v0, v1, v2, v3, v4, v5, v6, .slice none 0 0] 110 (0, 0)) := t6
  obtain ⟨b7, t7⟩ := put1 b6 t6 7 v7
  obtain ⟨x7, e7⟩ : ∃ x, x6.setCell ⟨W.heap.size, 7, none⟩ v7 = x := ⟨_, rfl⟩
  rw [e7] at b7 t7 ⊢
  have t7 : x7.heap[W.heap.size]? = some (.cells #[v0, v1, v2, v3, v4, v5, v6, v7] 110 (0, 0)) := t7
  refine ⟨x7, rfl, ?_, b7⟩
  refine ⟨?_, ?_, ?_, ?_, ?_, ?_, ?_, ?_⟩ <;> (rw [Lib.cell_of_heap t7]; rfl)

end Go.Proofs.YtpnboieppkjfnaaGreat

/-
  Reading lines that were answered.
-/
namespace Go.Proofs.YtpnboieppkjfnaaGreat
open Go.RowKit

/-- A token lies there. -/
def TokAt (F : ByteArray) (t : Tk) (g j : Nat) (w : World) : Prop :=
  w.cell? ⟨g, j, none⟩ = some (.int .i64 (t.k : Int)) ∧ w.cell? ⟨g, j + 1, none⟩ = some (.string ⟨t.x.toArray⟩) ∧ w.cell? ⟨g, j + 2, none⟩ = some (.bool t.sp) ∧ w.cell? ⟨g, j + 3, none⟩ = some (.string F) ∧
  w.cell? ⟨g, j + 4, none⟩ = some (.int .i64 (t.f : Int)) ∧ w.cell? ⟨g, j + 5, none⟩ = some (.int .i64 (t.t : Int)) ∧ w.cell? ⟨g, j + 6, none⟩ = some (.bool false) ∧ w.cell? ⟨g, j + 7, none⟩ = some (.slice none 0 0)

/-- A row of tokens, as it is read. -/
def ToksAt (F : ByteArray) (T : List Tk) (v : Value) (w : World) : Prop :=
  ∃ a cap, v = .slice a T.length cap ∧ T.length ≤ cap ∧ cap ≤ maxLen ∧ ∀ k t, T[k]? = some t → ∃ g, a = some ⟨g, 0, none⟩ ∧ g < w.heap.size ∧ TokAt F t g (k * 8) w

theorem toks_at {B : Nat} {F : ByteArray} {T : List Tk} {v : Value} {w : World} (h : w.ownsRow B 110 8 v T.length (tcells F T)) : ToksAt F T v w := by
  obtain ⟨a, cap, hv, h1, h2, h3⟩ := row_form h
  refine ⟨a, cap, hv, h1, h2, fun k t ht => ?_⟩
  have hg := fun j (hj : j < 8) => flat_get (f := tcell F) (n := 8) (fun _ => rfl) T k t ht j hj
  obtain ⟨g, hga, hlt, -⟩ := h3 (k * 8 + 0) _ ((hg 0 (by omega)).trans rfl)
  have hc : ∀ j u, j < 8 → (tcell F t)[j]? = some u → w.cell? ⟨g, k * 8 + j, none⟩ = some u := by
    intro j u hj hu
    obtain ⟨g', hga', -, e⟩ := h3 (k * 8 + j) u ((hg j hj).trans hu)
    rw [hga] at hga'
    simp only [Option.some.injEq, Addr.mk.injEq, and_true] at hga'
    rw [hga']
    exact e
  exact ⟨g, hga, hlt, hc 0 _ (by omega) rfl, hc 1 _ (by omega) rfl, hc 2 _ (by omega) rfl, hc 3 _ (by omega) rfl, hc 4 _ (by omega) rfl, hc 5 _ (by omega) rfl, hc 6 _ (by omega) rfl, hc 7 _ (by omega) rfl⟩

/-- Lines, as they are read. -/
def LinesAt (F : ByteArray) (lines : List Ln) (v : Value) (w : World) : Prop :=
  ∃ a cap, v = .slice a lines.length cap ∧ lines.length ≤ cap ∧ cap ≤ maxLen ∧ ∀ i ln, lines[i]? = some ln → ∃ g tv, a = some ⟨g, 0, none⟩ ∧ g < w.heap.size ∧
    w.cell? ⟨g, i * 4, none⟩ = some tv ∧ w.cell? ⟨g, i * 4 + 1, none⟩ = some (.int .i64 (ln.f : Int)) ∧ w.cell? ⟨g, i * 4 + 2, none⟩ = some (.int .i64 (ln.t : Int)) ∧ w.cell? ⟨g, i * 4 + 3, none⟩ = some (.bool ln.o) ∧ ToksAt F ln.toks tv w

theorem LRow.at {W : World} {F : ByteArray} {T : TypeId} {v : Value} {lines : List Ln} {w : World} (h : LRow W F T v lines w) : LinesAt F lines v w := by
  obtain ⟨P, hP, h1, h2⟩ := h
  obtain ⟨a, cap, hv, c1, c2, h3⟩ := row_form h1.1
  have hl : P.length = lines.length := by rw [← hP, List.length_map]
  refine ⟨a, cap, by rw [← hl]; exact hv, by omega, c2, fun i ln hi => ?_⟩
  rw [← hP, List.getElem?_map, Option.map_eq_some_iff] at hi
  obtain ⟨p, hp, rfl⟩ := hi
  have hg := fun j (hj : j < 4) => flat_get (f := lcell) (n := 4) (fun _ => rfl) P i p hp j hj
  obtain ⟨g, hga, hlt, e0⟩ := h3 (i * 4 + 0) _ ((hg 0 (by omega)).trans rfl)
  have hc : ∀ j u, j < 4 → (lcell p)[j]? = some u → w.cell? ⟨g, i * 4 + j, none⟩ = some u := by
    intro j u hj hu
    obtain ⟨g', hga', -, e⟩ := h3 (i * 4 + j) u ((hg j hj).trans hu)
    rw [hga] at hga'
    simp only [Option.some.injEq, Addr.mk.injEq, and_true] at hga'
    rw [hga']
    exact e
  exact ⟨g, p.1, hga, hlt, hc 0 _ (by omega) rfl, hc 1 _ (by omega) rfl, hc 2 _ (by omega) rfl, hc 3 _ (by omega) rfl, toks_at (h2 p (List.mem_of_getElem? hp)).1⟩

/-- Diagnostics, as they are read. -/
def DiagsAt (F : ByteArray) (D : List Dg) (v : Value) (w : World) : Prop :=
  ∃ a cap, v = .slice a D.length cap ∧ D.length ≤ cap ∧ cap ≤ maxLen ∧ ∀ i d, D[i]? = some d → ∃ g, a = some ⟨g, 0, none⟩ ∧ g < w.heap.size ∧
    w.cell? ⟨g, i * 4, none⟩ = some (.int .i64 (d.c : Int)) ∧ w.cell? ⟨g, i * 4 + 1, none⟩ = some (.string F) ∧ w.cell? ⟨g, i * 4 + 2, none⟩ = some (.int .i64 (d.f : Int)) ∧ w.cell? ⟨g, i * 4 + 3, none⟩ = some (.int .i64 (d.t : Int))
theorem DRow.at {W : World} {F : ByteArray} {v : Value} {D : List Dg} {w : World} (h : DRow W F v D w) : DiagsAt F D v w := by
  obtain ⟨a, cap, hv, c1, c2, h3⟩ := row_form h.1
  refine ⟨a, cap, hv, c1, c2, fun i d hi => ?_⟩
  have hg := fun j (hj : j < 4) => flat_get (f := dcell F) (n := 4) (fun _ => rfl) D i d hi j hj
  obtain ⟨g, hga, hlt, e0⟩ := h3 (i * 4 + 0) _ ((hg 0 (by omega)).trans rfl)
  have hc : ∀ j u, j < 4 → (dcell F d)[j]? = some u → w.cell? ⟨g, i * 4 + j, none⟩ = some u := by
    intro j u hj hu
    obtain ⟨g', hga', -, e⟩ := h3 (i * 4 + j) u ((hg j hj).trans hu)
    rw [hga] at hga'
    simp only [Option.some.injEq, Addr.mk.injEq, and_true] at hga'
    rw [hga']
    exact e
  exact ⟨g, hga, hlt, hc 0 _ (by omega) rfl, hc 1 _ (by omega) rfl, hc 2 _ (by omega) rfl, hc 3 _ (by omega) rfl⟩

def awR1 : Acc := ⟨6, false, [], [⟨[⟨1, [97], false, 0, 1⟩, ⟨5, [43, 43], false, 1, 3⟩, ⟨5, [43], false, 3, 4⟩, ⟨1, [98], false, 4, 5⟩], 0, 6, false⟩], []⟩
theorem aw_one : linesA (charsL (⟨#[97, 43, 43, 43, 98, 10]⟩ : ByteArray).data.toList) 6 = awR1 := by rfl
def awR2 : Acc := ⟨4, false, [], [⟨[], 0, 4, true⟩], [⟨1, 0, 2⟩]⟩
theorem aw_two : linesA (charsL (⟨#[47, 42, 32, 120]⟩ : ByteArray).data.toList) 4 = awR2 := by rfl
theorem aw_lsh : oneL (⟨#[60, 60, 61]⟩ : ByteArray).data.toList = some 5 := by rfl
theorem aw_ab : oneL (⟨#[97, 32, 98]⟩ : ByteArray).data.toList = none := by rfl

end Go.Proofs.YtpnboieppkjfnaaGreat

/-
  awake of the law: what the document fixes.
-/
namespace Go.Proofs.YtpnboieppkjfnaaGreat
open Go.RowKit

def Aw1 (W : World) (e : Ending) (w : World) : Prop :=
  ∃ gl lc da dc gt tc, e = .returned (.tuple #[.slice (some ⟨gl, 0, none⟩) 1 lc, .slice da 0 dc]) ∧ Below W.heap.size W w ∧ gl < w.heap.size ∧ gt < w.heap.size ∧ 1 ≤ lc ∧ 4 ≤ tc ∧
    w.cell? ⟨gl, 0, none⟩ = some (.slice (some ⟨gt, 0, none⟩) 4 tc) ∧ w.cell? ⟨gt, 9, none⟩ = some (.string ⟨#[43, 43]⟩) ∧ w.cell? ⟨gt, 27, none⟩ = some (.string ⟨#[102]⟩) ∧ w.cell? ⟨gt, 28, none⟩ = some (.int .i64 4) ∧ w.cell? ⟨gt, 29, none⟩ = some (.int .i64 5)
theorem aw_lines1 (W : World) : Calls Tryz.prog 88 #[.string ⟨#[102]⟩, .string ⟨#[97, 43, 43, 43, 98, 10]⟩] W (Aw1 W) := by
  have h := lines_any ⟨#[102]⟩ ⟨#[97, 43, 43, 43, 98, 10]⟩ W (by decide) (by decide)
  rw [show (⟨#[97, 43, 43, 43, 98, 10]⟩ : ByteArray).size = 6 from rfl, aw_one] at h
  refine h.mono ?_
  rintro e w ⟨la, n, lc, da, m, dc, rfl, hn, hm, hl, hd⟩
  obtain rfl : n = 1 := hn
  obtain rfl : m = 0 := hm
  obtain ⟨a, cap, hv, c1, c2, hc⟩ := hl.at
  simp only [Value.slice.injEq] at hv
  obtain ⟨rfl, -, rfl⟩ := hv
  obtain ⟨gl, tv, rfl, hgl, k0, k1, k2, k3, ht⟩ := hc 0 _ rfl
  obtain ⟨ta, tc, rfl, t1, t2, htc⟩ := ht
  obtain ⟨gt, rfl, hgt, -, e1, -⟩ := htc 1 _ rfl
  obtain ⟨gt', hgt', -, -, -, -, e3, e4, e5, -⟩ := htc 3 _ rfl
  simp only [Option.some.injEq, Addr.mk.injEq, and_true] at hgt'
  subst hgt'
  exact ⟨gl, lc, da, dc, gt, tc, rfl, hl.low, hgl, hgt, c1, t1, k0, e1, e3, e4, e5⟩

def Aw2 (W : World) (e : Ending) (w : World) : Prop :=
  ∃ la lc gd dc, e = .returned (.tuple #[.slice la 1 lc, .slice (some ⟨gd, 0, none⟩) 1 dc]) ∧ Below W.heap.size W w ∧ gd < w.heap.size ∧ 1 ≤ dc ∧ w.cell? ⟨gd, 0, none⟩ = some (.int .i64 1)
theorem aw_lines2 (W : World) : Calls Tryz.prog 88 #[.string ⟨#[102]⟩, .string ⟨#[47, 42, 32, 120]⟩] W (Aw2 W) := by
  have h := lines_any ⟨#[102]⟩ ⟨#[47, 42, 32, 120]⟩ W (by decide) (by decide)
  rw [show (⟨#[47, 42, 32, 120]⟩ : ByteArray).size = 4 from rfl, aw_two] at h
  refine h.mono ?_
  rintro e w ⟨la, n, lc, da, m, dc, rfl, hn, hm, hl, hd⟩
  obtain rfl : n = 1 := hn
  obtain rfl : m = 1 := hm
  obtain ⟨a, cap, hv, c1, c2, hc⟩ := hd.at
  simp only [Value.slice.injEq] at hv
  obtain ⟨rfl, -, rfl⟩ := hv
  obtain ⟨gd, rfl, hgd, k0, -⟩ := hc 0 _ rfl
  exact ⟨la, lc, gd, dc, rfl, hl.low, hgd, c1, k0⟩

def AwakePost (W : World) (e : Ending) (w' : World) : Prop := e = .returned (.bool true) ∧ Below W.heap.size W w'

theorem bcell {W w1 : World} (hb : Below W.heap.size W w1) {b o : Nat} {v : Value} (h : W.cell? ⟨b, o, none⟩ = some v) (hlt : b < W.heap.size) : w1.cell? ⟨b, o, none⟩ = some v := (hb.cell (p := ⟨b, o, none⟩) hlt).trans h

theorem bcell_al {W w1 : World} {o : Obj} (hb : Below (W.alloc o).heap.size (W.alloc o) w1) {b k : Nat} {v : Value} (h : W.cell? ⟨b, k, none⟩ = some v) (hlt : b < W.heap.size) : w1.cell? ⟨b, k, none⟩ = some v := by
  rw [hb.cell (p := ⟨b, k, none⟩) (by simp; omega)]
  exact (World.cell?_alloc_lt W o ⟨b, k, none⟩ hlt).trans h
theorem bcell_new {W w1 : World} {cs : Array Value} {T : TypeId} (hb : Below (W.alloc (.cells cs T)).heap.size (W.alloc (.cells cs T)) w1) {k : Nat} {v : Value} (h : cs[k]? = some v) : w1.cell? ⟨W.heap.size, k, none⟩ = some v := by
  rw [hb.cell (p := ⟨W.heap.size, k, none⟩) (by simp), Lib.cell_of_heap (heap_alloc_new W (.cells cs T))]
  exact h

end Go.Proofs.YtpnboieppkjfnaaGreat
