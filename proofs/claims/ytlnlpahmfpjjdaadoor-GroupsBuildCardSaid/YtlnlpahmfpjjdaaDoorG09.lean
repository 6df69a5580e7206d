/-
  Texts of the proof, put together: LxMid, LxLines, LxOne, LxAt, LxAwake.
-/
import Derived.Test.YtlnlpahmfpjjdaaDoorG08
import Derived.Deep.LoopGhost

/-
  From step to step the run over the characters stays what it is.
-/
namespace Go.Proofs.YtlnlpahmfpjjdaaDoor
open Go.RowKit

def Lim (a : Acc) (j : Nat) : Prop := a.toks.length ≤ j ∧ a.lines.length ≤ j ∧ a.diags.length ≤ j

theorem Lim.up {a : Acc} {j k : Nat} (h : Lim a j) (hk : j ≤ k) : Lim a k := ⟨Nat.le_trans h.1 hk, Nat.le_trans h.2.1 hk, Nat.le_trans h.2.2 hk⟩

theorem Lim.step {L : List Rn} {sz i : Nat} {a : Acc} (h : Lim a i) (it : It) : Lim (stepA L sz i a it) (i + 1) := by
  obtain ⟨h1, h2, h3⟩ := h
  cases it with
  | nl => exact ⟨by simp [stepA, endA], by simp [stepA, endA]; omega, by simp [stepA, endA]; omega⟩
  | gap n => exact ⟨by simp [stepA]; omega, by simp [stepA]; omega, by simp [stepA]; omega⟩
  | opn => exact ⟨by simp [stepA, endA, tellA], by simp [stepA, endA, tellA]; omega, by simp [stepA, endA, tellA]; omega⟩
  | tk k n =>
    simp only [stepA, takeA, pushA]
    split
    · exact ⟨by simp [tellA]; omega, by simp [tellA]; omega, by simp [tellA]; omega⟩
    · exact ⟨by simp; omega, by simp; omega, by simp; omega⟩

/-- The walk in a state, on its way to R. -/
def Mid (L : List Rn) (sz : Nat) (R : Acc) (i st bg : Nat) (a : Acc) : Prop :=
  i ≤ L.length ∧ ((st = 0 ∧ fromA L sz i a = R ∧ Lim a i) ∨
    (bg < L.length ∧ st = begN ((bytesOf L).drop bg) ∧ fromA L sz bg a = R ∧ Lim a bg ∧
      (((st = 1 ∨ st = 2 ∨ st = 3) ∧ i = bg) ∨ (st = 4 ∧ bg ≤ i ∧ ∀ j, bg ≤ j → j < i → (bytesOf L).getD j 0 ≠ 10) ∨
        (st = 5 ∧ bg ≤ i ∧ (bg + 2 ≤ i → comN ((bytesOf L).drop (bg + 2)) = (comN ((bytesOf L).drop i)).map (· + (i - (bg + 2))))))))

def mu (L : List Rn) (i st : Nat) : Nat := 4 * (L.length - i) + (if st = 0 then 2 else if st = 4 ∧ (bytesOf L).getD i 0 = 10 then 3 else 1)

theorem mu_le (L : List Rn) (i st : Nat) : mu L i st ≤ 4 * (L.length - i) + 3 := by
  unfold mu
  split
  · omega
  · split <;> omega
theorem mu_ge (L : List Rn) (i st : Nat) : 4 * (L.length - i) + 1 ≤ mu L i st := by
  unfold mu
  split
  · omega
  · split <;> omega
theorem mu_next {L : List Rn} {i j s t : Nat} (h : i < j) (hi : i < L.length) : mu L j t < mu L i s := by
  have h1 := mu_le L j t
  have h2 := mu_ge L i s
  omega

theorem remN_at {l : List UInt8} {b : Nat} : ∀ (k : Nat), b + k < l.length → (∀ j, b ≤ j → j < b + k → l.getD j 0 ≠ 10) → l.getD (b + k) 0 = 10 → remN (l.drop b) = k
  | k, hk, hj, h10 => by
    induction k generalizing b with
    | zero =>
      rw [drop_cons (by omega)]
      unfold remN
      rw [if_pos (by simpa using h10)]
    | succ k ih =>
      rw [drop_cons (by omega)]
      unfold remN
      rw [if_neg (hj b (Nat.le_refl _) (by omega)), ih (b := b + 1) (by omega) (fun j h1 h2 => hj j (by omega) (by omega)) (by rw [show b + 1 + k = b + (k + 1) from by omega]; exact h10)]

theorem comN_step {l : List UInt8} {i : Nat} (hi : i < l.length) : comN (l.drop i) = if l.getD i 0 = 42 ∧ l.getD (i + 1) 0 = 47 then some 2 else (comN (l.drop (i + 1))).map (· + 1) := by
  rw [drop_cons hi]
  show (if _ ∧ (l.drop (i + 1)).getD 0 0 = 47 then _ else _) = _
  rw [getD_drop, Nat.add_zero]

theorem tok_kind (l : List UInt8) : (tok l).1 ≤ 100 := by
  unfold tok
  split
  · rename_i x h
    have := (conN_in h).2.2.1
    omega
  · repeat' split
    all_goals simp

end Go.Proofs.YtlnlpahmfpjjdaaDoor

/-
  Lines of the project, walked.
-/
namespace Go.Proofs.YtlnlpahmfpjjdaaDoor
open Go.RowKit

/-- Lines in memory, of a type T that is the project's or the document's. -/
def LRow (W : World) (F : ByteArray) (T : TypeId) (v : Value) (lines : List Ln) (w : World) : Prop :=
  ∃ P : List (Value × Ln), P.map Prod.snd = lines ∧ Up W T 4 v P.length (lcells P) w ∧ ∀ p ∈ P, Up W 36 8 p.1 p.2.toks.length (tcells F p.2.toks) w
def DRow (W : World) (F : ByteArray) (v : Value) (D : List Dg) (w : World) : Prop := Up W 63 4 v D.length (dcells F D) w
def LinesPost (W : World) (F : ByteArray) (T : TypeId) (R : Acc) (e : Ending) (w' : World) : Prop :=
  ∃ la n lc da m dc, e = .returned (.tuple #[.slice la n lc, .slice da m dc]) ∧ n = R.lines.length ∧ m = R.diags.length ∧ LRow W F T (.slice la n lc) R.lines w' ∧ DRow W F (.slice da m dc) R.diags w'

theorem LRow.over {W : World} {F : ByteArray} {T : TypeId} {v : Value} {l : List Ln} {w w' : World} (h : LRow W F T v l w) (b : Below w.heap.size w w') : LRow W F T v l w' := by
  obtain ⟨P, h1, h2, h3⟩ := h
  exact ⟨P, h1, Up.over h2 b, fun p hp => Up.over (h3 p hp) b⟩
theorem DRow.over {W : World} {F : ByteArray} {v : Value} {l : List Dg} {w w' : World} (h : DRow W F v l w) (b : Below w.heap.size w w') : DRow W F v l w' := Up.over h b
theorem LRow.low {W : World} {F : ByteArray} {T : TypeId} {v : Value} {l : List Ln} {w : World} (h : LRow W F T v l w) : Below W.heap.size W w := by
  obtain ⟨P, h1, h2, h3⟩ := h
  exact h2.2

theorem mid_zero (L : List Rn) (sz : Nat) : Mid L sz (linesA L sz) 0 0 0 acc0 := by
  refine ⟨Nat.zero_le _, .inl ⟨rfl, rfl, ?_⟩⟩
  exact ⟨Nat.le_refl _, Nat.le_refl _, Nat.le_refl _⟩

/-- All characters have been walked over. -/
theorem mid_end {L : List Rn} {sz : Nat} {R : Acc} {i st bg : Nat} {a : Acc} (h : Mid L sz R i st bg a) (hi : ¬ i < L.length) (hN : L = [] ∨ Nl (bytesOf L)) : i = L.length ∧ ((st = 0 ∧ a = R) ∨ (st = 5 ∧ bg + 1 < L.length ∧ Lim a bg ∧ R = endA (tellA L a 1 bg (bg + 2)) sz true)) := by
  have hlen := bytesOf_len L
  obtain ⟨h0, ⟨h1, h2, -⟩ | ⟨hbL, hst, hR, hlim, hcase⟩⟩ := h
  · refine ⟨by omega, .inl ⟨h1, ?_⟩⟩
    rw [fromA_end (by omega)] at h2
    exact h2
  · have hil : i = L.length := by omega
    refine ⟨hil, ?_⟩
    have hNl : Nl (bytesOf L) := by
      rcases hN with rfl | h
      · simp at hbL
      · exact h
    rcases hcase with ⟨-, h4⟩ | ⟨-, h5, h6⟩ | ⟨h4, h5, h6⟩
    · omega
    · have := h6 (L.length - 1) (by omega) (by omega)
      have h7 := hNl.2
      rw [hlen] at h7
      exact absurd h7 this
    · refine .inr ⟨h4, ?_, hlim, ?_⟩
      · have h7 := (begN_fiveC (hst.symm.trans h4)).2
        rw [getD_drop] at h7
        have := getD_lt (l := bytesOf L) (i := bg + 1) (by rw [h7]; decide)
        omega
      · have hb1 : bg + 1 < L.length := by
          have h7 := (begN_fiveC (hst.symm.trans h4)).2
          rw [getD_drop] at h7
          have := getD_lt (l := bytesOf L) (i := bg + 1) (by rw [h7]; decide)
          omega
        have hc := h6 (by omega)
        rw [hil, show (bytesOf L).drop L.length = [] from List.drop_eq_nil_of_le (by omega)] at hc
        have hit : item ((bytesOf L).drop bg) = .opn := item_opn (hst.symm.trans h4) (by rw [List.drop_drop]; exact hc)
        have hfr := fromA_step (L := L) (sz := sz) (a := a) hbL
        rw [hit, hR] at hfr
        simp only [lenA] at hfr
        rw [fromA_end (by omega)] at hfr
        exact hfr

theorem charsL_nl (l : List UInt8) : charsL l = [] ∨ Nl (bytesOf (charsL l)) := by
  unfold charsL
  split
  · exact .inl rfl
  · refine .inr ?_
    unfold withNl
    split
    · rename_i h
      unfold endsNl at h
      cases hg : (chs l 0).getLast? with
      | none => rw [hg] at h; cases h
      | some r =>
        rw [hg] at h
        rw [List.getLast?_eq_getElem?] at hg
        have hlt := (List.getElem?_eq_some_iff.1 hg).1
        refine ⟨by rw [bytesOf_len]; omega, ?_⟩
        rw [bytesOf_len]
        simp only [bytesOf, List.getD, List.getElem?_map, hg]
        simpa using h
    · refine ⟨by simp [bytesOf], ?_⟩
      simp [bytesOf, List.getD]

theorem quiet_two {w : World} {n : Nat} {g : Nat} {u : Value} {k : Nat} (h : w.cell? ⟨g, k, none⟩ = some u) : (w.drewN n).cell? ⟨g, k, none⟩ = some u := h

end Go.Proofs.YtlnlpahmfpjjdaaDoor

/-
  One of the project, walked.
-/
namespace Go.Proofs.YtlnlpahmfpjjdaaDoor
open Go.RowKit

/-- The kind of the token that all of a text is. -/
def oneL (l : List UInt8) : Option Nat :=
  if begN (l ++ [10]) = 1 then (if (tok (l ++ [10])).2 = l.length then (if badN (tok (l ++ [10])).1 (l.getD 0 0) then none else some (tok (l ++ [10])).1) else none) else none

def oneV (k : Nat) (x : ByteArray) : Value := .agg #[.int .i64 (k : Int), .string x, .bool false, .string ⟨#[]⟩, .int .i64 0, .int .i64 0, .bool false, .slice none 0 0]
def onePost (s : ByteArray) (W : World) (e : Ending) (w' : World) : Prop :=
  (match oneL s.data.toList with
    | some k => e = .returned (.tuple #[oneV k s, .bool true])
    | none => e = .returned (.tuple #[oneV 0 ⟨#[]⟩, .bool false])) ∧ Below W.heap.size W w'

theorem one_none {s : ByteArray} {W w' : World} (h : oneL s.data.toList = none) (hb : Below W.heap.size W w') : onePost s W (.returned (.tuple #[.agg #[.int .i64 0, .string ⟨#[]⟩, .bool false, .string ⟨#[]⟩, .int .i64 0, .int .i64 0, .bool false, .slice none 0 0], .bool false])) w' := by
  unfold onePost
  rw [h]
  exact ⟨rfl, hb⟩
theorem one_some {s : ByteArray} {k : Nat} {W w' : World} (h : oneL s.data.toList = some k) (hb : Below W.heap.size W w') : onePost s W (.returned (.tuple #[.agg #[.int .i64 (k : Int), .string s, .bool false, .string ⟨#[]⟩, .int .i64 0, .int .i64 0, .bool false, .slice none 0 0], .bool true])) w' := by
  unfold onePost
  rw [h]
  exact ⟨rfl, hb⟩

theorem nl_snoc (l : List UInt8) : Nl (l ++ [10]) := ⟨by simp, by simp [List.getD]⟩

theorem append_data (a b : ByteArray) : (a ++ b).data.toList = a.data.toList ++ b.data.toList := by
  obtain ⟨x⟩ := a
  obtain ⟨y⟩ := b
  simp

theorem heap_two (W : World) (a b : Obj) : ((W.alloc a).alloc b).heap[W.heap.size + 1]? = some b := by
  have h := heap_alloc_new (W.alloc a) b
  rw [show (W.alloc a).heap.size = W.heap.size + 1 from by simp] at h
  exact h
theorem heap_one (W : World) (a b : Obj) : ((W.alloc a).alloc b).heap[W.heap.size]? = some a := by
  rw [Below.heap_alloc _ _ _ (by simp)]
  exact heap_alloc_new _ _

theorem append_size (a b : ByteArray) : (a ++ b).size = a.size + b.size := by
  rw [← len_byte, append_data, List.length_append, len_byte, len_byte]
theorem extract_front (a b : ByteArray) : (a ++ b).extract 0 a.size = a := by
  rw [ext_text, append_data, List.drop_zero, Nat.sub_zero, ← len_byte, List.take_left]

theorem tok10 {l : List UInt8} (hb : begN (l ++ [10]) = 1) : 0 < l.length ∧ (l ++ [10]).getD 0 0 ≠ 10 ∧ (l ++ [10]).getD 0 0 = l.getD 0 0 ∧ (tok (l ++ [10])).2 ≤ l.length := by
  have h10 : (l ++ [10]).getD 0 0 ≠ 10 := fun e => by
    rw [begN_two' e] at hb
    cases hb
  have h0 : 0 < l.length := by
    cases l with
    | nil => exact absurd rfl h10
    | cons a r => simp
  refine ⟨h0, h10, by simp only [List.getD]; rw [List.getElem?_append_left h0], ?_⟩
  have h := tok_in (l := l ++ [10]) (by simp) h10
  rcases Nat.lt_or_ge l.length (tok (l ++ [10])).2 with h1 | h1
  · exact absurd (by simp [List.getD]) (h.2.2 l.length h1)
  · exact h1

theorem put1 {W w : World} {cs : Array Value} {T : TypeId} (hb : Below W.heap.size W w) (ht : w.heap[W.heap.size]? = some (.cells cs T (0, 0))) (k : Nat) (v : Value) :
    Below W.heap.size W (w.setCell ⟨W.heap.size, k, none⟩ v) ∧ (w.setCell ⟨W.heap.size, k, none⟩ v).heap[W.heap.size]? = some (.cells (cs.setIfInBounds k v) T (0, 0)) :=
  ⟨hb.setCell (Nat.le_refl _) _, heap_setCell_same w W.heap.size k _ _ v ht⟩

end Go.Proofs.YtlnlpahmfpjjdaaDoor

/-
  Reading lines that were answered.
-/
namespace Go.Proofs.YtlnlpahmfpjjdaaDoor
open Go.RowKit

/-- A token lies there. -/
def TokAt (F : ByteArray) (t : Tk) (g j : Nat) (w : World) : Prop :=
  w.cell? ⟨g, j, none⟩ = some (.int .i64 (t.k : Int)) ∧ w.cell? ⟨g, j + 1, none⟩ = some (.string ⟨t.x.toArray⟩) ∧ w.cell? ⟨g, j + 2, none⟩ = some (.bool t.sp) ∧ w.cell? ⟨g, j + 3, none⟩ = some (.string F) ∧
  w.cell? ⟨g, j + 4, none⟩ = some (.int .i64 (t.f : Int)) ∧ w.cell? ⟨g, j + 5, none⟩ = some (.int .i64 (t.t : Int)) ∧ w.cell? ⟨g, j + 6, none⟩ = some (.bool false) ∧ w.cell? ⟨g, j + 7, none⟩ = some (.slice none 0 0)

/-- A row of tokens, as it is read. -/
def ToksAt (F : ByteArray) (T : List Tk) (v : Value) (w : World) : Prop :=
  ∃ a cap, v = .slice a T.length cap ∧ T.length ≤ cap ∧ cap ≤ maxLen ∧ ∀ k t, T[k]? = some t → ∃ g, a = some ⟨g, 0, none⟩ ∧ g < w.heap.size ∧ TokAt F t g (k * 8) w

theorem toks_at {B : Nat} {F : ByteArray} {T : List Tk} {v : Value} {w : World} (h : w.ownsRow B 36 8 v T.length (tcells F T)) : ToksAt F T v w := by
  obtain ⟨a, cap, hv, h1, h2, h3⟩ := row_form h
  refine ⟨a, cap, hv, h1, h2, fun k t ht => ?_⟩
  have hg := fun j (hj : j < 8) => flat_get (f := tcell F) (n := 8) (fun _ => rfl) T k t ht j hj
  obtain ⟨g, hga, hlt, -⟩ := h3 (k * 8 + 0) _ ((hg 0 (by omega)).trans rfl)
  have hc : ∀ j u, j < 8 → (tcell F t)[j]? = some u → w.cell? ⟨g, k * 8 + j, none⟩ = some u := by
    intro j u hj hu
    obtain ⟨g', hga', -, e⟩ := h3 (k * 8 + j) u ((hg j hj).trans hu)
    rw [hga] at hga'
    simp only [Option.some.injEq, Addr.mk.injEq, and_true] at hga'
    rw [hga']
    exact e
  exact ⟨g, hga, hlt, hc 0 _ (by omega) rfl, hc 1 _ (by omega) rfl, hc 2 _ (by omega) rfl, hc 3 _ (by omega) rfl, hc 4 _ (by omega) rfl, hc 5 _ (by omega) rfl, hc 6 _ (by omega) rfl, hc 7 _ (by omega) rfl⟩

/-- Lines, as they are read. -/
def LinesAt (F : ByteArray) (lines : List Ln) (v : Value) (w : World) : Prop :=
  ∃ a cap, v = .slice a lines.length cap ∧ lines.length ≤ cap ∧ cap ≤ maxLen ∧ ∀ i ln, lines[i]? = some ln → ∃ g tv, a = some ⟨g, 0, none⟩ ∧ g < w.heap.size ∧
    w.cell? ⟨g, i * 4, none⟩ = some tv ∧ w.cell? ⟨g, i * 4 + 1, none⟩ = some (.int .i64 (ln.f : Int)) ∧ w.cell? ⟨g, i * 4 + 2, none⟩ = some (.int .i64 (ln.t : Int)) ∧ w.cell? ⟨g, i * 4 + 3, none⟩ = some (.bool ln.o) ∧ ToksAt F ln.toks tv w

theorem LRow.at {W : World} {F : ByteArray} {T : TypeId} {v : Value} {lines : List Ln} {w : World} (h : LRow W F T v lines w) : LinesAt F lines v w := by
  obtain ⟨P, hP, h1, h2⟩ := h
  obtain ⟨a, cap, hv, c1, c2, h3⟩ := row_form h1.1
  have hl : P.length = lines.length := by rw [← hP, List.length_map]
  refine ⟨a, cap, by rw [← hl]; exact hv, by omega, c2, fun i ln hi => ?_⟩
  rw [← hP, List.getElem?_map, Option.map_eq_some_iff] at hi
  obtain ⟨p, hp, rfl⟩ := hi
  have hg := fun j (hj : j < 4) => flat_get (f := lcell) (n := 4) (fun _ => rfl) P i p hp j hj
  obtain ⟨g, hga, hlt, e0⟩ := h3 (i * 4 + 0) _ ((hg 0 (by omega)).trans rfl)
  have hc : ∀ j u, j < 4 → (lcell p)[j]? = some u → w.cell? ⟨g, i * 4 + j, none⟩ = some u := by
    intro j u hj hu
    obtain ⟨g', hga', -, e⟩ := h3 (i * 4 + j) u ((hg j hj).trans hu)
    rw [hga] at hga'
    simp only [Option.some.injEq, Addr.mk.injEq, and_true] at hga'
    rw [hga']
    exact e
  exact ⟨g, p.1, hga, hlt, hc 0 _ (by omega) rfl, hc 1 _ (by omega) rfl, hc 2 _ (by omega) rfl, hc 3 _ (by omega) rfl, toks_at (h2 p (List.mem_of_getElem? hp)).1⟩

/-- Diagnostics, as they are read. -/
def DiagsAt (F : ByteArray) (D : List Dg) (v : Value) (w : World) : Prop :=
  ∃ a cap, v = .slice a D.length cap ∧ D.length ≤ cap ∧ cap ≤ maxLen ∧ ∀ i d, D[i]? = some d → ∃ g, a = some ⟨g, 0, none⟩ ∧ g < w.heap.size ∧
    w.cell? ⟨g, i * 4, none⟩ = some (.int .i64 (d.c : Int)) ∧ w.cell? ⟨g, i * 4 + 1, none⟩ = some (.string F) ∧ w.cell? ⟨g, i * 4 + 2, none⟩ = some (.int .i64 (d.f : Int)) ∧ w.cell? ⟨g, i * 4 + 3, none⟩ = some (.int .i64 (d.t : Int))
theorem DRow.at {W : World} {F : ByteArray} {v : Value} {D : List Dg} {w : World} (h : DRow W F v D w) : DiagsAt F D v w := by
  obtain ⟨a, cap, hv, c1, c2, h3⟩ := row_form h.1
  refine ⟨a, cap, hv, c1, c2, fun i d hi => ?_⟩
  have hg := fun j (hj : j < 4) => flat_get (f := dcell F) (n := 4) (fun _ => rfl) D i d hi j hj
  obtain ⟨g, hga, hlt, e0⟩ := h3 (i * 4 + 0) _ ((hg 0 (by omega)).trans rfl)
  have hc : ∀ j u, j < 4 → (dcell F d)[j]? = some u → w.cell? ⟨g, i * 4 + j, none⟩ = some u := by
    intro j u hj hu
    obtain ⟨g', hga', -, e⟩ := h3 (i * 4 + j) u ((hg j hj).trans hu)
    rw [hga] at hga'
    simp only [Option.some.injEq, Addr.mk.injEq, and_true] at hga'
    rw [hga']
    exact e
  exact ⟨g, hga, hlt, hc 0 _ (by omega) rfl, hc 1 _ (by omega) rfl, hc 2 _ (by omega) rfl, hc 3 _ (by omega) rfl⟩

def awR1 : Acc := ⟨6, false, [], [⟨[⟨1, [97], false, 0, 1⟩, ⟨5, [43, 43], false, 1, 3⟩, ⟨5, [43], false, 3, 4⟩, ⟨1, [98], false, 4, 5⟩], 0, 6, false⟩], []⟩
theorem aw_one : linesA (charsL (⟨#[97, 43, 43, 43, 98, 10]⟩ : ByteArray).data.toList) 6 = awR1 := by rfl
def awR2 : Acc := ⟨4, false, [], [⟨[], 0, 4, true⟩], [⟨1, 0, 2⟩]⟩
theorem aw_two : linesA (charsL (⟨#[47, 42, 32, 120]⟩ : ByteArray).data.toList) 4 = awR2 := by rfl
theorem aw_lsh : oneL (⟨#[60, 60, 61]⟩ : ByteArray).data.toList = some 5 := by rfl
theorem aw_ab : oneL (⟨#[97, 32, 98]⟩ : ByteArray).data.toList = none := by rfl

end Go.Proofs.YtlnlpahmfpjjdaaDoor

/-
  awake of the law: what the document fixes.
-/
namespace Go.Proofs.YtlnlpahmfpjjdaaDoor
open Go.RowKit

def AwakePost (W : World) (e : Ending) (w' : World) : Prop := e = .returned (.bool true) ∧ Below W.heap.size W w'

theorem bcell {W w1 : World} (hb : Below W.heap.size W w1) {b o : Nat} {v : Value} (h : W.cell? ⟨b, o, none⟩ = some v) (hlt : b < W.heap.size) : w1.cell? ⟨b, o, none⟩ = some v := (hb.cell (p := ⟨b, o, none⟩) hlt).trans h

theorem bcell_al {W w1 : World} {o : Obj} (hb : Below (W.alloc o).heap.size (W.alloc o) w1) {b k : Nat} {v : Value} (h : W.cell? ⟨b, k, none⟩ = some v) (hlt : b < W.heap.size) : w1.cell? ⟨b, k, none⟩ = some v := by
  rw [hb.cell (p := ⟨b, k, none⟩) (by simp; omega)]
  exact (World.cell?_alloc_lt W o ⟨b, k, none⟩ hlt).trans h
theorem bcell_new {W w1 : World} {cs : Array Value} {T : TypeId} (hb : Below (W.alloc (.cells cs T)).heap.size (W.alloc (.cells cs T)) w1) {k : Nat} {v : Value} (h : cs[k]? = some v) : w1.cell? ⟨W.heap.size, k, none⟩ = some v := by
  rw [hb.cell (p := ⟨W.heap.size, k, none⟩) (by simp), Lib.cell_of_heap (heap_alloc_new W (.cells cs T))]
  exact h

end Go.Proofs.YtlnlpahmfpjjdaaDoor
