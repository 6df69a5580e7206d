/-
  Texts of the proof, put together: LxOver, LxMid, LxLines, LxOne.
-/
import Derived.Test.YtobplffailbkbaaG08
import Derived.Deep.LoopGhost

/-
  over of the project, walked: the beginning of a walk.
-/
namespace Go.Proofs.Ytobplffailbkbaa
open Go.RowKit

def ovals (l : List UInt8) (k : Nat) : List Value := (List.range l.length).map fun j => Value.int .u8 (if j < k then ((l.getD j 0).toNat : Int) else 0)
theorem ovals_len (l : List UInt8) (k : Nat) : (ovals l k).length = l.length := by simp [ovals]
theorem ovals_get {l : List UInt8} {k j : Nat} (hj : j < l.length) : (ovals l k)[j]? = some (.int .u8 (if j < k then ((l.getD j 0).toNat : Int) else 0)) := by
  simp [ovals, hj]
theorem ovals_set {l : List UInt8} {k : Nat} (hk : k < l.length) : (ovals l k).set k (.int .u8 ((l.getD k 0).toNat : Int)) = ovals l (k + 1) := by
  apply List.ext_getElem?
  intro j
  by_cases hj : j < l.length
  · rw [List.getElem?_set, ovals_len, ovals_get hj, ovals_get hj]
    by_cases e : k = j
    · subst e
      rw [if_pos rfl, if_pos hk, if_pos (Nat.lt_succ_self k)]
    · rw [if_neg e]
      by_cases h2 : j < k
      · rw [if_pos h2, if_pos (by omega)]
      · rw [if_neg h2, if_neg (by omega)]
  · rw [List.getElem?_eq_none (by rw [List.length_set, ovals_len]; omega), List.getElem?_eq_none (by rw [ovals_len]; omega)]
theorem ovals_all (l : List UInt8) : ovals l l.length = bcells l := by
  apply List.ext_getElem?
  intro j
  by_cases hj : j < l.length
  · rw [ovals_get hj, if_pos hj]
    simp [bcells, hj, List.getD]
  · rw [List.getElem?_eq_none (by rw [ovals_len]; omega), List.getElem?_eq_none (by rw [bcells_len]; omega)]
theorem ovals_zero (l : List UInt8) : ovals l 0 = (madeCells (Value.int .u8 0).cells (l.length * 1)).toList := by
  show _ = (madeCells #[Value.int .u8 0] (l.length * 1)).toList
  rw [toList_madeCells_one, Nat.mul_one]
  apply List.ext_getElem?
  intro j
  by_cases hj : j < l.length
  · rw [ovals_get hj, if_neg (Nat.not_lt_zero j)]
    simp [hj]
  · rw [List.getElem?_eq_none (by rw [ovals_len]; omega), List.getElem?_eq_none (by simp; omega)]

/-- The bytes of a walk on their way. -/
structure OvSt (W : World) (rv : Value) (L : List Rn) (gb k : Nat) (w : World) : Prop where
  runes : CRow W rv L w
  bytes : Up W 5 1 (.slice (some ⟨gb, 0, none⟩) L.length L.length) L.length (ovals (bytesOf L) k) w

theorem OvSt.heap {W : World} {rv : Value} {L : List Rn} {gb k : Nat} {w : World} (h : OvSt W rv L gb k w) : ∃ cur, w.heap[gb]? = some (.cells cur 5 (0, 0)) ∧ W.heap.size ≤ gb := by
  obtain ⟨-, h2 | ⟨g, cap, cur, hv, hb, hh, -⟩⟩ := h.bytes.1
  · cases h2.1
  · simp only [Value.slice.injEq, Option.some.injEq, Addr.mk.injEq, and_true] at hv
    obtain ⟨rfl, -⟩ := hv
    exact ⟨cur, hh, hb⟩

theorem OvSt.next {W : World} {rv : Value} {L : List Rn} {gb k : Nat} {w w' : World} (h : OvSt W rv L gb k w) (b : Below w.heap.size w w') : OvSt W rv L gb k w' := ⟨Up.over h.runes b, Up.over h.bytes b⟩

theorem OvSt.facts {W : World} {rv : Value} {L : List Rn} {gb k : Nat} {w : World} (h : OvSt W rv L gb k w) (hk : k < L.length) : gb < w.heap.size ∧ w.frozen? ⟨gb, k, none⟩ = false ∧ w.cell? ⟨gb, k, none⟩ = some (.int .u8 0) := by
  obtain ⟨cur, hh, -⟩ := h.heap
  refine ⟨row_lt hh, frozen_of_row w gb k cur _ hh, ?_⟩
  obtain ⟨a, cap, hv, -, -, hc⟩ := row_form h.bytes.1
  obtain ⟨g, hg, -, e⟩ := hc k _ (ovals_get (l := bytesOf L) (k := k) (by rw [bytesOf_len]; exact hk))
  simp only [Value.slice.injEq] at hv
  rw [← hv.1] at hg
  simp only [Option.some.injEq, Addr.mk.injEq, and_true] at hg
  subst hg
  rw [if_neg (Nat.lt_irrefl k)] at e
  exact e

theorem OvSt.put {W : World} {rv : Value} {L : List Rn} {gb k : Nat} {w : World} (h : OvSt W rv L gb k w) (hk : k < L.length) {r : Rn} (hr : L[k]? = some r) {x : Int} (hx : x = (r.c.toNat : Int)) : OvSt W rv L gb (k + 1) (w.setCell ⟨gb, k, none⟩ (.int .u8 x)) := by
  subst hx
  obtain ⟨cur, hh, hge⟩ := h.heap
  obtain ⟨h1, h2⟩ := World.ownsRow.stored h.bytes.1 k (.int .u8 (r.c.toNat : Int))
  have hs := ovals_set (l := bytesOf L) (k := k) (by rw [bytesOf_len]; exact hk)
  have hg : (bytesOf L).getD k 0 = r.c := by simp [bytesOf, List.getD, hr]
  rw [hg] at hs
  rw [hs] at h1
  refine ⟨⟨World.ownsRow.kept h.runes.1 h2 (own_off h.runes.1 hh (by decide)), h.runes.2.setCell (by exact hge) _⟩, ⟨h1, h.bytes.2.setCell (by exact hge) _⟩⟩

theorem OvSt.conv {W : World} {rv : Value} {L : List Rn} {gb : Nat} {w : World} (h : OvSt W rv L gb L.length w) : (convert 35 9 (.slice (some ⟨gb, 0, none⟩) L.length L.length)).run Try.prog w = .ok (.string ⟨(bytesOf L).toArray⟩) w := by
  have hb : BRow W (.slice (some ⟨gb, 0, none⟩) (bytesOf L).length L.length) (bytesOf L) w := by
    have h1 := h.bytes
    rw [← bytesOf_len L, ovals_all] at h1
    unfold BRow
    rw [bytesOf_len] at h1 ⊢
    exact h1
  have e := brow_text hb
  rw [bytesOf_len] at e
  exact e

theorem charsL_few (l : List UInt8) : ∃ n, n = (charsL l).length ∧ n ≤ l.length + 1 := by
  refine ⟨_, rfl, ?_⟩
  have h := chs_len l _ 0 (Nat.le_refl _)
  unfold charsL withNl
  split
  · simp
  · split
    · omega
    · simp
      omega

theorem below_of {w w' : World} (h : w.grownBy w' none) : Below w.heap.size w w' := ⟨h.os, h.tape, h.output, h.size, fun k hk => h.block k hk (by simp)⟩

def overPost (W : World) (F : ByteArray) (s : ByteArray) (L : List Rn) (e : Ending) (w' : World) : Prop :=
  ∃ g, e = .returned (.pointer (some ⟨g, 0, none⟩)) ∧ Was ⟨W, g, L, F, ⟨(bytesOf L).toArray⟩, s.size⟩ 0 0 0 acc0 w'

/-- The walk's block is laid. -/
theorem over_fin {W : World} {F s : ByteArray} {ra : Option Addr} {rcap : Nat} {L : List Rn} {gb k n : Nat} {w : World} (h : OvSt W (.slice ra n rcap) L gb k w) (hn : n = L.length) :
    overPost W F s L (.returned (.pointer (some ⟨w.heap.size, 0, none⟩))) (w.alloc (.cells #[.string F, .int .i64 (s.size : Int), .slice ra n rcap, .string ⟨(bytesOf L).toArray⟩, .int .i64 0, .int .i64 0, .int .i64 0, .int .i64 0, .bool false, .slice none 0 0, .slice none 0 0, .slice none 0 0, .int .i64 0, .int .i64 0] 111)) := by
  subst hn
  refine ⟨_, rfl, ⟨F, s.size, .slice ra L.length rcap, ⟨(bytesOf L).toArray⟩, 0, 0, 0, 0, false, .slice none 0 0, .slice none 0 0, .slice none 0 0, 0, 0⟩, W.heap.size, [], rfl, rfl, rfl, rfl, rfl, rfl, ?_⟩
  have hr := Up.over h.runes ((Below.refl _ _).alloc (Nat.le_refl _) (.cells #[.string F, .int .i64 (s.size : Int), .slice ra L.length rcap, .string ⟨(bytesOf L).toArray⟩, .int .i64 0, .int .i64 0, .int .i64 0, .int .i64 0, .bool false, .slice none 0 0, .slice none 0 0, .slice none 0 0, .int .i64 0, .int .i64 0] 111))
  refine ⟨heap_alloc_new _ _, h.runes.2.size, hr.2, hr.1, rfl, World.ownsRow_nil _ _ _ _, Nat.le_refl _, hr.2.size, World.ownsRow_nil _ _ _ _, rfl, fun p hp => (by cases hp), World.ownsRow_nil _ _ _ _, rfl, rfl, Un.zero _ _ _, Un.zero _ _ _⟩

end Go.Proofs.Ytobplffailbkbaa

/-
  From step to step the run over the characters stays what it is.
-/
namespace Go.Proofs.Ytobplffailbkbaa
open Go.RowKit

def Lim (a : Acc) (j : Nat) : Prop := a.toks.length ≤ j ∧ a.lines.length ≤ j ∧ a.diags.length ≤ j

theorem Lim.up {a : Acc} {j k : Nat} (h : Lim a j) (hk : j ≤ k) : Lim a k := ⟨Nat.le_trans h.1 hk, Nat.le_trans h.2.1 hk, Nat.le_trans h.2.2 hk⟩

theorem Lim.step {L : List Rn} {sz i : Nat} {a : Acc} (h : Lim a i) (it : It) : Lim (stepA L sz i a it) (i + 1) := by
  obtain ⟨h1, h2, h3⟩ := h
  cases it with
  | nl => exact ⟨by simp [stepA, endA], by simp [stepA, endA]; omega, by simp [stepA, endA]; omega⟩
  | gap n => exact ⟨by simp [stepA]; omega, by simp [stepA]; omega, by simp [stepA]; omega⟩
  | opn => exact ⟨by simp [stepA, endA, tellA], by simp [stepA, endA, tellA]; omega, by simp [stepA, endA, tellA]; omega⟩
  | tk k n =>
    simp only [stepA, takeA, pushA]
    split
    · exact ⟨by simp [tellA]; omega, by simp [tellA]; omega, by simp [tellA]; omega⟩
    · exact ⟨by simp; omega, by simp; omega, by simp; omega⟩

/-- The walk in a state, on its way to R. -/
def Mid (L : List Rn) (sz : Nat) (R : Acc) (i st bg : Nat) (a : Acc) : Prop :=
  i ≤ L.length ∧ ((st = 0 ∧ fromA L sz i a = R ∧ Lim a i) ∨
    (bg < L.length ∧ st = begN ((bytesOf L).drop bg) ∧ fromA L sz bg a = R ∧ Lim a bg ∧
      (((st = 1 ∨ st = 2 ∨ st = 3) ∧ i = bg) ∨ (st = 4 ∧ bg ≤ i ∧ ∀ j, bg ≤ j → j < i → (bytesOf L).getD j 0 ≠ 10) ∨
        (st = 5 ∧ bg ≤ i ∧ (bg + 2 ≤ i → comN ((bytesOf L).drop (bg + 2)) = (comN ((bytesOf L).drop i)).map (· + (i - (bg + 2))))))))

def mu (L : List Rn) (i st : Nat) : Nat := 4 * (L.length - i) + (if st = 0 then 2 else if st = 4 ∧ (bytesOf L).getD i 0 = 10 then 3 else 1)

theorem mu_le (L : List Rn) (i st : Nat) : mu L i st ≤ 4 * (L.length - i) + 3 := by
  unfold mu
  split
  · omega
  · split <;> omega
theorem mu_ge (L : List Rn) (i st : Nat) : 4 * (L.length - i) + 1 ≤ mu L i st := by
  unfold mu
  split
  · omega
  · split <;> omega
theorem mu_next {L : List Rn} {i j s t : Nat} (h : i < j) (hi : i < L.length) : mu L j t < mu L i s := by
  have h1 := mu_le L j t
  have h2 := mu_ge L i s
  omega

theorem remN_at {l : List UInt8} {b : Nat} : ∀ (k : Nat), b + k < l.length → (∀ j, b ≤ j → j < b + k → l.getD j 0 ≠ 10) → l.getD (b + k) 0 = 10 → remN (l.drop b) = k
  | k, hk, hj, h10 => by
    induction k generalizing b with
    | zero =>
      rw [drop_cons (by omega)]
      unfold remN
      rw [if_pos (by simpa using h10)]
    | succ k ih =>
      rw [drop_cons (by omega)]
      unfold remN
      rw [if_neg (hj b (Nat.le_refl _) (by omega)), ih (b := b + 1) (by omega) (fun j h1 h2 => hj j (by omega) (by omega)) (by rw [show b + 1 + k = b + (k + 1) from by omega]; exact h10)]

theorem comN_step {l : List UInt8} {i : Nat} (hi : i < l.length) : comN (l.drop i) = if l.getD i 0 = 42 ∧ l.getD (i + 1) 0 = 47 then some 2 else (comN (l.drop (i + 1))).map (· + 1) := by
  rw [drop_cons hi]
  show (if _ ∧ (l.drop (i + 1)).getD 0 0 = 47 then _ else _) = _
  rw [getD_drop, Nat.add_zero]

theorem tok_kind (l : List UInt8) : (tok l).1 ≤ 100 := by
  unfold tok
  split
  · rename_i x h
    have := (conN_in h).2.2.1
    omega
  · repeat' split
    all_goals simp

def StepPost (E : Env) (R : Acc) (i st : Nat) (e : Ending) (w' : World) : Prop :=
  e = .returned (.tuple #[]) ∧ ∃ i' st' bg' a', Was E i' st' bg' a' w' ∧ Mid E.L E.sz R i' st' bg' a' ∧ mu E.L i' st' < mu E.L i st

end Go.Proofs.Ytobplffailbkbaa

/-
  Lines of the project, walked.
-/
namespace Go.Proofs.Ytobplffailbkbaa
open Go.RowKit

/-- Lines in memory, of a type T that is the project's or the document's. -/
def LRow (W : World) (F : ByteArray) (T : TypeId) (v : Value) (lines : List Ln) (w : World) : Prop :=
  ∃ P : List (Value × Ln), P.map Prod.snd = lines ∧ Up W T 4 v P.length (lcells P) w ∧ ∀ p ∈ P, Up W 26 8 p.1 p.2.toks.length (tcells F p.2.toks) w
def DRow (W : World) (F : ByteArray) (v : Value) (D : List Dg) (w : World) : Prop := Up W 50 4 v D.length (dcells F D) w
def LinesPost (W : World) (F : ByteArray) (T : TypeId) (R : Acc) (e : Ending) (w' : World) : Prop :=
  ∃ la n lc da m dc, e = .returned (.tuple #[.slice la n lc, .slice da m dc]) ∧ n = R.lines.length ∧ m = R.diags.length ∧ LRow W F T (.slice la n lc) R.lines w' ∧ DRow W F (.slice da m dc) R.diags w'

/-- What is returned, at the end. -/
theorem Was.result {E : Env} {i st bg : Nat} {R : Acc} {w : World} (h : Was E i st bg R w) : ∃ la n lc da m dc, n = R.lines.length ∧ m = R.diags.length ∧ w.cell? ⟨E.g, 10, none⟩ = some (.slice la n lc) ∧ w.cell? ⟨E.g, 11, none⟩ = some (.slice da m dc) ∧
    LRow E.W E.F 157 (.slice la n lc) R.lines w ∧ DRow E.W E.F (.slice da m dc) R.diags w := by
  obtain ⟨c, B1, P, ⟨e1, -⟩, hb⟩ := h.cells
  obtain ⟨la, lc, hl, -⟩ := row_form hb.lines
  obtain ⟨da, dc, hd, -⟩ := row_form hb.diags
  have k10 := hb.blk.k10
  have k11 := hb.blk.k11
  rw [hl] at k10
  rw [hd] at k11
  have hln : P.length = R.lines.length := by rw [← hb.pl, List.length_map]
  refine ⟨la, P.length, lc, da, _, dc, hln, rfl, k10, k11, ⟨P, hb.pl, ⟨by rw [← hl]; exact hb.lines, hb.low⟩, fun p hp => ?_⟩, ?_⟩
  · rw [← e1]
    exact ⟨(hb.done p hp).1, hb.low⟩
  · rw [← e1, ← hd]
    exact ⟨hb.diags, hb.low⟩

theorem LRow.over {W : World} {F : ByteArray} {T : TypeId} {v : Value} {l : List Ln} {w w' : World} (h : LRow W F T v l w) (b : Below w.heap.size w w') : LRow W F T v l w' := by
  obtain ⟨P, h1, h2, h3⟩ := h
  exact ⟨P, h1, Up.over h2 b, fun p hp => Up.over (h3 p hp) b⟩
theorem DRow.over {W : World} {F : ByteArray} {v : Value} {l : List Dg} {w w' : World} (h : DRow W F v l w) (b : Below w.heap.size w w') : DRow W F v l w' := Up.over h b
theorem LRow.low {W : World} {F : ByteArray} {T : TypeId} {v : Value} {l : List Ln} {w : World} (h : LRow W F T v l w) : Below W.heap.size W w := by
  obtain ⟨P, h1, h2, h3⟩ := h
  exact h2.2

theorem mid_zero (L : List Rn) (sz : Nat) : Mid L sz (linesA L sz) 0 0 0 acc0 := by
  refine ⟨Nat.zero_le _, .inl ⟨rfl, rfl, ?_⟩⟩
  exact ⟨Nat.le_refl _, Nat.le_refl _, Nat.le_refl _⟩

/-- All characters have been walked over. -/
theorem mid_end {L : List Rn} {sz : Nat} {R : Acc} {i st bg : Nat} {a : Acc} (h : Mid L sz R i st bg a) (hi : ¬ i < L.length) (hN : L = [] ∨ Nl (bytesOf L)) : i = L.length ∧ ((st = 0 ∧ a = R) ∨ (st = 5 ∧ bg + 1 < L.length ∧ Lim a bg ∧ R = endA (tellA L a 1 bg (bg + 2)) sz true)) := by
  have hlen := bytesOf_len L
  obtain ⟨h0, ⟨h1, h2, -⟩ | ⟨hbL, hst, hR, hlim, hcase⟩⟩ := h
  · refine ⟨by omega, .inl ⟨h1, ?_⟩⟩
    rw [fromA_end (by omega)] at h2
    exact h2
  · have hil : i = L.length := by omega
    refine ⟨hil, ?_⟩
    have hNl : Nl (bytesOf L) := by
      rcases hN with rfl | h
      · simp at hbL
      · exact h
    rcases hcase with ⟨-, h4⟩ | ⟨-, h5, h6⟩ | ⟨h4, h5, h6⟩
    · omega
    · have := h6 (L.length - 1) (by omega) (by omega)
      have h7 := hNl.2
      rw [hlen] at h7
      exact absurd h7 this
    · refine .inr ⟨h4, ?_, hlim, ?_⟩
      · have h7 := (begN_fiveC (hst.symm.trans h4)).2
        rw [getD_drop] at h7
        have := getD_lt (l := bytesOf L) (i := bg + 1) (by rw [h7]; decide)
        omega
      · have hb1 : bg + 1 < L.length := by
          have h7 := (begN_fiveC (hst.symm.trans h4)).2
          rw [getD_drop] at h7
          have := getD_lt (l := bytesOf L) (i := bg + 1) (by rw [h7]; decide)
          omega
        have hc := h6 (by omega)
        rw [hil, show (bytesOf L).drop L.length = [] from List.drop_eq_nil_of_le (by omega)] at hc
        have hit : item ((bytesOf L).drop bg) = .opn := item_opn (hst.symm.trans h4) (by rw [List.drop_drop]; exact hc)
        have hfr := fromA_step (L := L) (sz := sz) (a := a) hbL
        rw [hit, hR] at hfr
        simp only [lenA] at hfr
        rw [fromA_end (by omega)] at hfr
        exact hfr

theorem charsL_nl (l : List UInt8) : charsL l = [] ∨ Nl (bytesOf (charsL l)) := by
  unfold charsL
  split
  · exact .inl rfl
  · refine .inr ?_
    unfold withNl
    split
    · rename_i h
      unfold endsNl at h
      cases hg : (chs l 0).getLast? with
      | none => rw [hg] at h; cases h
      | some r =>
        rw [hg] at h
        rw [List.getLast?_eq_getElem?] at hg
        have hlt := (List.getElem?_eq_some_iff.1 hg).1
        refine ⟨by rw [bytesOf_len]; omega, ?_⟩
        rw [bytesOf_len]
        simp only [bytesOf, List.getD, List.getElem?_map, hg]
        simpa using h
    · refine ⟨by simp [bytesOf], ?_⟩
      simp [bytesOf, List.getD]

theorem quiet_two {w : World} {n : Nat} {g : Nat} {u : Value} {k : Nat} (h : w.cell? ⟨g, k, none⟩ = some u) : (w.drewN n).cell? ⟨g, k, none⟩ = some u := h

end Go.Proofs.Ytobplffailbkbaa

/-
  One of the project, walked.
-/
namespace Go.Proofs.Ytobplffailbkbaa
open Go.RowKit

/-- The kind of the token that all of a text is. -/
def oneL (l : List UInt8) : Option Nat :=
  if begN (l ++ [10]) = 1 then (if (tok (l ++ [10])).2 = l.length then (if badN (tok (l ++ [10])).1 (l.getD 0 0) then none else some (tok (l ++ [10])).1) else none) else none

def oneV (k : Nat) (x : ByteArray) : Value := .agg #[.int .i64 (k : Int), .string x, .bool false, .string ⟨#[]⟩, .int .i64 0, .int .i64 0, .bool false, .slice none 0 0]
def onePost (s : ByteArray) (W : World) (e : Ending) (w' : World) : Prop :=
  (match oneL s.data.toList with
    | some k => e = .returned (.tuple #[oneV k s, .bool true])
    | none => e = .returned (.tuple #[oneV 0 ⟨#[]⟩, .bool false])) ∧ Below W.heap.size W w'

theorem one_none {s : ByteArray} {W w' : World} (h : oneL s.data.toList = none) (hb : Below W.heap.size W w') : onePost s W (.returned (.tuple #[.agg #[.int .i64 0, .string ⟨#[]⟩, .bool false, .string ⟨#[]⟩, .int .i64 0, .int .i64 0, .bool false, .slice none 0 0], .bool false])) w' := by
  unfold onePost
  rw [h]
  exact ⟨rfl, hb⟩
theorem one_some {s : ByteArray} {k : Nat} {W w' : World} (h : oneL s.data.toList = some k) (hb : Below W.heap.size W w') : onePost s W (.returned (.tuple #[.agg #[.int .i64 (k : Int), .string s, .bool false, .string ⟨#[]⟩, .int .i64 0, .int .i64 0, .bool false, .slice none 0 0], .bool true])) w' := by
  unfold onePost
  rw [h]
  exact ⟨rfl, hb⟩

theorem nl_snoc (l : List UInt8) : Nl (l ++ [10]) := ⟨by simp, by simp [List.getD]⟩

theorem append_data (a b : ByteArray) : (a ++ b).data.toList = a.data.toList ++ b.data.toList := by
  obtain ⟨x⟩ := a
  obtain ⟨y⟩ := b
  simp

theorem heap_two (W : World) (a b : Obj) : ((W.alloc a).alloc b).heap[W.heap.size + 1]? = some b := by
  have h := heap_alloc_new (W.alloc a) b
  rw [show (W.alloc a).heap.size = W.heap.size + 1 from by simp] at h
  exact h
theorem heap_one (W : World) (a b : Obj) : ((W.alloc a).alloc b).heap[W.heap.size]? = some a := by
  rw [Below.heap_alloc _ _ _ (by simp)]
  exact heap_alloc_new _ _

/-- One's own two blocks, behind token. -/
structure OneMid0 (W : World) (ch : ByteArray) (w : World) : Prop where
  low : Below W.heap.size W w
  tok : w.heap[W.heap.size]? = some (.cells #[.int .i64 0, .string ⟨#[]⟩, .bool false, .string ⟨#[]⟩, .int .i64 0, .int .i64 0, .bool false, .slice none 0 0] 26 (0, 0))
  walk : ∃ c : WC, c.ch = ch ∧ WAt (W.heap.size + 1) c w
def OneMid (W : World) (ch : ByteArray) (k n : Nat) (e : Ending) (w : World) : Prop := e = .returned (.tuple #[.int .i64 (k : Int), .int .i64 (n : Int)]) ∧ OneMid0 W ch w

theorem one_mid {W : World} {ch : ByteArray} {b : Obj} {c c' : WC} {w : World} (h : Step (W.heap.size + 1) c c' ((W.alloc (.cells #[.int .i64 0, .string ⟨#[]⟩, .bool false, .string ⟨#[]⟩, .int .i64 0, .int .i64 0, .bool false, .slice none 0 0] 26)).alloc b) w) (hc : c'.ch = ch) : OneMid0 W ch w := by
  have b2 := below_two W (.cells #[.int .i64 0, .string ⟨#[]⟩, .bool false, .string ⟨#[]⟩, .int .i64 0, .int .i64 0, .bool false, .slice none 0 0] 26) b
  refine ⟨⟨h.os.trans b2.os, h.tape.trans b2.tape, h.output.trans b2.output, by rw [h.size]; exact b2.size, fun k hk => (h.block k (by omega)).trans (b2.block k hk)⟩, ?_, c', hc, h.is⟩
  rw [h.block _ (by omega)]
  exact heap_one W _ b
theorem OneMid0.zeros {W : World} {ch : ByteArray} {w : World} (h : OneMid0 W ch w) : w.cell? ⟨W.heap.size, 0, none⟩ = some (.int .i64 0) ∧ w.cell? ⟨W.heap.size, 1, none⟩ = some (.string ⟨#[]⟩) ∧ w.cell? ⟨W.heap.size, 2, none⟩ = some (.bool false) ∧ w.cell? ⟨W.heap.size, 3, none⟩ = some (.string ⟨#[]⟩) ∧
    w.cell? ⟨W.heap.size, 4, none⟩ = some (.int .i64 0) ∧ w.cell? ⟨W.heap.size, 5, none⟩ = some (.int .i64 0) ∧ w.cell? ⟨W.heap.size, 6, none⟩ = some (.bool false) ∧ w.cell? ⟨W.heap.size, 7, none⟩ = some (.slice none 0 0) := by
  refine ⟨?_, ?_, ?_, ?_, ?_, ?_, ?_, ?_⟩ <;> (rw [Lib.cell_of_heap h.tok]; rfl)
theorem OneMid0.free {W : World} {ch : ByteArray} {w : World} (h : OneMid0 W ch w) : ∀ k, w.frozen? ⟨W.heap.size, k, none⟩ = false := fun k => frozen_of_row w _ k _ _ h.tok
theorem OneMid0.chars {W : World} {ch : ByteArray} {w : World} (h : OneMid0 W ch w) : w.cell? ⟨W.heap.size + 1, 3, none⟩ = some (.string ch) := by
  obtain ⟨c, hc, hw⟩ := h.walk
  rw [← hc]
  exact hw.k3

theorem append_size (a b : ByteArray) : (a ++ b).size = a.size + b.size := by
  rw [← len_byte, append_data, List.length_append, len_byte, len_byte]
theorem extract_front (a b : ByteArray) : (a ++ b).extract 0 a.size = a := by
  rw [ext_text, append_data, List.drop_zero, Nat.sub_zero, ← len_byte, List.take_left]

theorem tok10 {l : List UInt8} (hb : begN (l ++ [10]) = 1) : 0 < l.length ∧ (l ++ [10]).getD 0 0 ≠ 10 ∧ (l ++ [10]).getD 0 0 = l.getD 0 0 ∧ (tok (l ++ [10])).2 ≤ l.length := by
  have h10 : (l ++ [10]).getD 0 0 ≠ 10 := fun e => by
    rw [begN_two' e] at hb
    cases hb
  have h0 : 0 < l.length := by
    cases l with
    | nil => exact absurd rfl h10
    | cons a r => simp
  refine ⟨h0, h10, by simp only [List.getD]; rw [List.getElem?_append_left h0], ?_⟩
  have h := tok_in (l := l ++ [10]) (by simp) h10
  rcases Nat.lt_or_ge l.length (tok (l ++ [10])).2 with h1 | h1
  · exact absurd (by simp [List.getD]) (h.2.2 l.length h1)
  · exact h1

theorem put1 {W w : World} {cs : Array Value} {T : TypeId} (hb : Below W.heap.size W w) (ht : w.heap[W.heap.size]? = some (.cells cs T (0, 0))) (k : Nat) (v : Value) :
    Below W.heap.size W (w.setCell ⟨W.heap.size, k, none⟩ v) ∧ (w.setCell ⟨W.heap.size, k, none⟩ v).heap[W.heap.size]? = some (.cells (cs.setIfInBounds k v) T (0, 0)) :=
  ⟨hb.setCell (Nat.le_refl _) _, heap_setCell_same w W.heap.size k _ _ v ht⟩

theorem one_done {W w : World} {ch : ByteArray} (h : OneMid0 W ch w) (v0 v1 v2 v3 v4 v5 v6 v7 : Value) : ∃ X, (((((((w.setCell ⟨W.heap.size, 0, none⟩ v0).setCell ⟨W.heap.size, 1, none⟩ v1).setCell ⟨W.heap.size, 2, none⟩ v2).setCell ⟨W.heap.size, 3, none⟩ v3).setCell ⟨W.heap.size, 4, none⟩ v4).setCell ⟨W.heap.size, 5, none⟩ v5).setCell ⟨W.heap.size, 6, none⟩ v6).setCell ⟨W.heap.size, 7, none⟩ v7 = X ∧
    (X.cell? ⟨W.heap.size, 0, none⟩ = some v0 ∧ X.cell? ⟨W.heap.size, 1, none⟩ = some v1 ∧ X.cell? ⟨W.heap.size, 2, none⟩ = some v2 ∧ X.cell? ⟨W.heap.size, 3, none⟩ = some v3 ∧ X.cell? ⟨W.heap.size, 4, none⟩ = some v4 ∧ X.cell? ⟨W.heap.size, 5, none⟩ = some v5 ∧ X.cell? ⟨W.heap.size, 6, none⟩ = some v6 ∧ X.cell? ⟨W.heap.size, 7, none⟩ = some v7) ∧ Below W.heap.size W X := by
  obtain ⟨b0, t0⟩ := put1 h.low h.tok 0 v0
  obtain ⟨x0, e0⟩ : ∃ x, w.setCell ⟨W.heap.size, 0, none⟩ v0 = x := ⟨_, rfl⟩
  rw [e0] at b0 t0 ⊢
  have t0 : x0.heap[W.heap.size]? = some (.cells #[v0, .string ⟨#[]⟩, .bool false, .string ⟨#[]⟩, .int .i64 0, .int .i64 0, .bool false, .slice none 0 0] 26 (0, 0)) := t0
  obtain ⟨b1, t1⟩ := put1 b0 t0 1 v1
  obtain ⟨x1, e1⟩ : ∃ x, x0.setCell ⟨W.heap.size, 1, none⟩ v1 = x := ⟨_, rfl⟩
  rw [e1] at b1 t1 ⊢
  have t1 : x1.heap[W.heap.size]? = some (.cells #[v0, v1, .bool false, .string ⟨#[]⟩, .int .i64 0, .int .i64 0, .bool false, .slice none 0 0] 26 (0, 0)) := t1
  obtain ⟨b2, t2⟩ := put1 b1 t1 2 v2
  obtain ⟨x2, e2⟩ : ∃ x, x1.setCell ⟨W.heap.size, 2, none⟩ v2 = x := ⟨_, rfl⟩
  rw [e2] at b2 t2 ⊢
  have t2 : x2.heap[W.heap.size]? = some (.cells #[v0, v1, v2, .string ⟨#[]⟩, .int .i64 0, .int .i64 0, .bool false, .slice none 0 0] 26 (0, 0)) := t2
  obtain ⟨b3, t3⟩ := put1 b2 t2 3 v3
  obtain ⟨x3, e3⟩ : ∃ x, x2.setCell ⟨W.heap.size, 3, none⟩ v3 = x := ⟨_, rfl⟩
  rw [e3] at b3 t3 ⊢
  have t3 : x3.heap[W.heap.size]? = some (.cells #[v0, v1, v2, v3, .int .i64 0, .int .i64 0, .bool false, .slice none 0 0] 26 (0, 0)) := t3
  obtain ⟨b4, t4⟩ := put1 b3 t3 4 v4
  obtain ⟨x4, e4⟩ : ∃ x, x3.setCell ⟨W.heap.size, 4, none⟩ v4 = x := ⟨_, rfl⟩
  rw [e4] at b4 t4 ⊢
  have t4 : x4.heap[W.heap.size]? = some (.cells #[v0, v1, v2, v3, v4, .int .i64 0, .bool false, .slice none 0 0] 26 (0, 0)) := t4
  obtain ⟨b5, t5⟩ := put1 b4 t4 5 v5
  obtain ⟨x5, e5⟩ : ∃ x, x4.setCell ⟨W.heap.size, 5, none⟩ v5 = x := ⟨_, rfl⟩
  rw [e5] at b5 t5 ⊢
  have t5 : x5.heap[W.heap.size]? = some (.cells #[v0, v1, v2, v3, v4, v5, .bool false, .slice none 0 0] 26 (0, 0)) := t5
  obtain ⟨b6, t6⟩ := put1 b5 t5 6 v6
  obtain ⟨x6, e6⟩ : ∃ x, x5.setCell ⟨W.heap.size, 6, none⟩ v6 = x := ⟨_, rfl⟩
  rw [e6] at b6 t6 ⊢
  have t6 : x6.heap[W.heap.size]? = some (.cells #[v0, v1, v2, v3, v4, v5, v6, .slice none 0 0] 26 (0, 0)) := t6
  obtain ⟨b7, t7⟩ := put1 b6 t6 7 v7
  obtain ⟨x7, e7⟩ : ∃ x, x6.setCell ⟨W.heap.size, 7, none⟩ v7 = x := ⟨_, rfl⟩
  rw [e7] at b7 t7 ⊢
  have t7 : x7.heap[W.heap.size]? = some (.cells #[v0, v1, v2, v3, v4, v5, v6, v7] 26 (0, 0)) := t7
  refine ⟨x7, rfl, ?_, b7⟩
  refine ⟨?_, ?_, ?_, ?_, ?_, ?_, ?_, ?_⟩ <;> (rw [Lib.cell_of_heap t7]; rfl)

set_option maxRecDepth 100000 in
set_option maxHeartbeats 6400000 in
theorem one_any (s : ByteArray) (W : World) (hs : s.size ≤ 100000) : Calls Try.prog 38 #[.string s] W (onePost s W) := by
  have hcat : ((s.size : Nat) + ByteArray.size ⟨#[10]⟩ > 9223372036854775807) = False := by
    rw [eq_iff_iff, iff_false]
    show ¬ s.size + 1 > 9223372036854775807
    omega
  obtain ⟨ch, hch⟩ : ∃ ch : ByteArray, s ++ ⟨#[10]⟩ = ch := ⟨_, rfl⟩
  have hcd : ch.data.toList = s.data.toList ++ [10] := by rw [← hch, append_data]
  have hcs : ch.size = s.size + 1 := by rw [← len_byte, hcd, List.length_append, len_byte]; rfl
  have hNl : Nl ch.data.toList := by rw [hcd]; exact nl_snoc _
  have HBG := Lib.hid (fun (n : Nat) (hn : begN (s.data.toList ++ [10]) = n) (X : World) => begins_is (s := ch) (n := n) (by omega) (by omega) (by rw [hcd]; exact hn) X)
  have HCH := Lib.hid hch
  by_cases hb : begN (s.data.toList ++ [10]) = 1
  · obtain ⟨h0, h10, hg0, hle⟩ := tok10 hb
    rw [len_byte] at h0 hle
    have HB : Hid (∀ X : World, Calls Try.prog 57 #[.string ch] X (NatPost 1 X)) := Lib.hid (HBG.out 1 hb)
    obtain ⟨k, n, ht⟩ : ∃ k n, tok (s.data.toList ++ [10]) = (k, n) := ⟨_, _, rfl⟩
    rw [ht] at hle
    have hk : k ≤ 100 := by
      have := tok_kind (s.data.toList ++ [10])
      rw [ht] at this
      exact this
    obtain ⟨c, hc⟩ : ∃ c : WC, (⟨⟨#[]⟩, 0, .slice none 0 0, ch, 0, 0, 0, 0, false, .slice none 0 0, .slice none 0 0, .slice none 0 0, 0, 0⟩ : WC) = c := ⟨_, rfl⟩
    have HT : Hid (Calls Try.prog 58 #[.pointer (some ⟨W.heap.size + 1, 0, none⟩)] ((W.alloc (.cells #[.int .i64 0, .string ⟨#[]⟩, .bool false, .string ⟨#[]⟩, .int .i64 0, .int .i64 0, .bool false, .slice none 0 0] 26)).alloc (.cells #[.string ⟨#[]⟩, .int .i64 0, .slice none 0 0, .string ch, .int .i64 0, .int .i64 0, .int .i64 0, .int .i64 0, .bool false, .slice none 0 0, .slice none 0 0, .slice none 0 0, .int .i64 0, .int .i64 0] 111)) (OneMid W ch k n)) := Lib.hid (by
      subst hc
      have hX : WAt (W.heap.size + 1) ⟨⟨#[]⟩, 0, .slice none 0 0, ch, 0, 0, 0, 0, false, .slice none 0 0, .slice none 0 0, .slice none 0 0, 0, 0⟩ ((W.alloc (.cells #[.int .i64 0, .string ⟨#[]⟩, .bool false, .string ⟨#[]⟩, .int .i64 0, .int .i64 0, .bool false, .slice none 0 0] 26)).alloc (.cells #[.string ⟨#[]⟩, .int .i64 0, .slice none 0 0, .string ch, .int .i64 0, .int .i64 0, .int .i64 0, .int .i64 0, .bool false, .slice none 0 0, .slice none 0 0, .slice none 0 0, .int .i64 0, .int .i64 0] 111)) := heap_two W _ _
      have h := token_any (c := ⟨⟨#[]⟩, 0, .slice none 0 0, ch, 0, 0, 0, 0, false, .slice none 0 0, .slice none 0 0, .slice none 0 0, 0, 0⟩) hX (by show ch.size ≤ 1000000; omega) hNl (by show 0 < ch.size; omega) (by rw [hcd]; exact h10) (Un.zero _ _ _) (Un.zero _ _ _)
      simp only [List.drop_zero, hcd, ht, Nat.zero_add] at h
      refine h.mono ?_
      rintro e w' ⟨he, u0, u1, hs, -, -⟩
      exact ⟨he, one_mid hs rfl⟩)
    have h0i : (0 : Int) < (s.size : Int) := by omega
    have hO : oneL s.data.toList = if n = s.size then (if badN k s[0] then none else some k) else none := by
      unfold oneL
      rw [if_pos hb, ht, len_byte, get_byte s 0 h0]
    have HXE : Hid (ch.extract 0 s.size = s) := Lib.hid (by rw [← hch]; exact extract_front _ _)
    have hsc : (s.size : Int) ≤ (ch.size : Int) := by omega
    clear hch hcd hcs hNl hb hc ht h10 hg0
    by_cases hn : n = s.size
    · subst hn
      rw [if_pos rfl] at hO
      have hnb : ((s.size : Int) != (s.size : Int)) = false := by simp
      have HEN := Lib.hid (fun (b : Bool) (hb : badN k s[0] = b) (X : World) => endless_is hk hb X)
      cases hbad : badN k s[0] with
      | true =>
        rw [hbad] at hO
        have HE := Lib.hid (HEN.out true hbad)
        have HO := Lib.hid (show oneL s.data.toList = none from hO)
        clear hO hbad
        go_enter Try.func38, Try.ntmps38
        go_wp2_with (first
          | (go_at_call 57; rw [HCH.out]; (with_reducible refine (HB.out _).mono ?_); rintro e w' ⟨rfl, rfl⟩)
          | (go_at_call 58; (with_reducible refine HT.out.mono ?_); rintro e w3 ⟨rfl, m3⟩; obtain ⟨z0, z1, z2, z3, z4, z5, z6, z7⟩ := m3.zeros; have zf := m3.free; have zc := m3.chars; have M3 := Lib.hid m3; clear m3)
          | (go_at_call 59; (with_reducible refine (HE.out _).mono ?_); rintro e w' ⟨rfl, rfl⟩))
        obtain ⟨X, hX, ⟨y0, y1, y2, y3, y4, y5, y6, y7⟩, hB⟩ := one_done M3.out (.int .i64 0) (.string ⟨#[]⟩) (.bool false) (.string ⟨#[]⟩) (.int .i64 0) (.int .i64 0) (.bool false) (.slice none 0 0)
        rw [hX]
        exact bodyPost_ret (v := .tuple #[.agg #[.int .i64 0, .string ⟨#[]⟩, .bool false, .string ⟨#[]⟩, .int .i64 0, .int .i64 0, .bool false, .slice none 0 0], .bool false]) (by simp [results, Try.results38, go_sem, y0, y1, y2, y3, y4, y5, y6, y7]) rfl (one_none HO.out hB)
      | false =>
        rw [hbad] at hO
        have HE := Lib.hid (HEN.out false hbad)
        have HO := Lib.hid (show oneL s.data.toList = some k from hO)
        clear hO hbad
        go_enter Try.func38, Try.ntmps38
        go_wp2_with (first
          | (go_at_call 57; rw [HCH.out]; (with_reducible refine (HB.out _).mono ?_); rintro e w' ⟨rfl, rfl⟩)
          | (go_at_call 58; (with_reducible refine HT.out.mono ?_); rintro e w3 ⟨rfl, m3⟩; obtain ⟨z0, z1, z2, z3, z4, z5, z6, z7⟩ := m3.zeros; have zf := m3.free; have zc := m3.chars; have M3 := Lib.hid m3; clear m3)
          | (go_at_call 59; (with_reducible refine (HE.out _).mono ?_); rintro e w' ⟨rfl, rfl⟩))
        obtain ⟨X, hX, ⟨y0, y1, y2, y3, y4, y5, y6, y7⟩, hB⟩ := one_done M3.out (.int .i64 (k : Int)) (.string (ch.extract 0 s.size)) (.bool false) (.string ⟨#[]⟩) (.int .i64 0) (.int .i64 0) (.bool false) (.slice none 0 0)
        rw [hX]
        exact bodyPost_ret (v := .tuple #[.agg #[.int .i64 (k : Int), .string (ch.extract 0 s.size), .bool false, .string ⟨#[]⟩, .int .i64 0, .int .i64 0, .bool false, .slice none 0 0], .bool true]) (by simp [results, Try.results38, go_sem, y0, y1, y2, y3, y4, y5, y6, y7]) rfl (by rw [HXE.out]; exact one_some HO.out hB)
    · rw [if_neg hn] at hO
      have HO := Lib.hid hO
      have hnb : ((n : Int) != (s.size : Int)) = true := by simp; omega
      clear hO
      go_enter Try.func38, Try.ntmps38
      go_wp2_with (first
          | (go_at_call 57; rw [HCH.out]; (with_reducible refine (HB.out _).mono ?_); rintro e w' ⟨rfl, rfl⟩)
          | (go_at_call 58; (with_reducible refine HT.out.mono ?_); rintro e w3 ⟨rfl, m3⟩; obtain ⟨z0, z1, z2, z3, z4, z5, z6, z7⟩ := m3.zeros; have zf := m3.free; have zc := m3.chars; have M3 := Lib.hid m3; clear m3))
      obtain ⟨X, hX, ⟨y0, y1, y2, y3, y4, y5, y6, y7⟩, hB⟩ := one_done M3.out (.int .i64 0) (.string ⟨#[]⟩) (.bool false) (.string ⟨#[]⟩) (.int .i64 0) (.int .i64 0) (.bool false) (.slice none 0 0)
      rw [hX]
      exact bodyPost_ret (v := .tuple #[.agg #[.int .i64 0, .string ⟨#[]⟩, .bool false, .string ⟨#[]⟩, .int .i64 0, .int .i64 0, .bool false, .slice none 0 0], .bool false]) (by simp [results, Try.results38, go_sem, y0, y1, y2, y3, y4, y5, y6, y7]) rfl (one_none HO.out hB)
  · have hO : oneL s.data.toList = none := by unfold oneL; rw [if_neg hb]
    have HO := Lib.hid hO
    obtain ⟨n, hn⟩ : ∃ n, begN (s.data.toList ++ [10]) = n := ⟨_, rfl⟩
    have HB := Lib.hid (HBG.out n hn)
    have hn1 : ((n : Int) == 1) = false := by rw [hn] at hb; simp; omega
    have hn2 : ((n : Int) != 1) = true := by rw [bne, hn1]; rfl
    clear hch hcd hcs hNl hb hO hn
    go_enter Try.func38, Try.ntmps38
    go_wp2_with (go_at_call 57; rw [HCH.out]; (with_reducible refine (HB.out _).mono ?_); rintro e w' ⟨rfl, rfl⟩)
    exact bodyPost_ret (v := .tuple #[.agg #[.int .i64 0, .string ⟨#[]⟩, .bool false, .string ⟨#[]⟩, .int .i64 0, .int .i64 0, .bool false, .slice none 0 0], .bool false]) (by simp [results, Try.results38, go_sem]) rfl (one_none HO.out (below_two _ _ _))

end Go.Proofs.Ytobplffailbkbaa
