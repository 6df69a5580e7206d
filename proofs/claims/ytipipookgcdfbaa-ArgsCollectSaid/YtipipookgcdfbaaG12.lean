/-
  Texts of the proof, put together: LxOver, LxMid, LxLines.
-/
import Derived.Test.YtipipookgcdfbaaG11
import Derived.Deep.LoopGhost

/-
  over of the project, walked: the beginning of a walk.
-/
namespace Go.Proofs.Ytipipookgcdfbaa
open Go.RowKit

def ovals (l : List UInt8) (k : Nat) : List Value := (List.range l.length).map fun j => Value.int .u8 (if j < k then ((l.getD j 0).toNat : Int) else 0)
theorem ovals_len (l : List UInt8) (k : Nat) : (ovals l k).length = l.length := by simp [ovals]
theorem ovals_get {l : List UInt8} {k j : Nat} (hj : j < l.length) : (ovals l k)[j]? = some (.int .u8 (if j < k then ((l.getD j 0).toNat : Int) else 0)) := by
  simp [ovals, hj]
theorem ovals_set {l : List UInt8} {k : Nat} (hk : k < l.length) : (ovals l k).set k (.int .u8 ((l.getD k 0).toNat : Int)) = ovals l (k + 1) := by
  apply List.ext_getElem?
  intro j
  by_cases hj : j < l.length
  · rw [List.getElem?_set, ovals_len, ovals_get hj, ovals_get hj]
    by_cases e : k = j
    · subst e
      rw [if_pos rfl, if_pos hk, if_pos (Nat.lt_succ_self k)]
    · rw [if_neg e]
      by_cases h2 : j < k
      · rw [if_pos h2, if_pos (by omega)]
      · rw [if_neg h2, if_neg (by omega)]
  · rw [List.getElem?_eq_none (by rw [List.length_set, ovals_len]; omega), List.getElem?_eq_none (by rw [ovals_len]; omega)]
theorem ovals_all (l : List UInt8) : ovals l l.length = bcells l := by
  apply List.ext_getElem?
  intro j
  by_cases hj : j < l.length
  · rw [ovals_get hj, if_pos hj]
    simp [bcells, hj, List.getD]
  · rw [List.getElem?_eq_none (by rw [ovals_len]; omega), List.getElem?_eq_none (by rw [bcells_len]; omega)]
theorem ovals_zero (l : List UInt8) : ovals l 0 = (madeCells (Value.int .u8 0).cells (l.length * 1)).toList := by
  show _ = (madeCells #[Value.int .u8 0] (l.length * 1)).toList
  rw [toList_madeCells_one, Nat.mul_one]
  apply List.ext_getElem?
  intro j
  by_cases hj : j < l.length
  · rw [ovals_get hj, if_neg (Nat.not_lt_zero j)]
    simp [hj]
  · rw [List.getElem?_eq_none (by rw [ovals_len]; omega), List.getElem?_eq_none (by simp; omega)]

/-- The bytes of a walk on their way. -/
structure OvSt (W : World) (rv : Value) (L : List Rn) (gb k : Nat) (w : World) : Prop where
  runes : CRow W rv L w
  bytes : Up W 5 1 (.slice (some ⟨gb, 0, none⟩) L.length L.length) L.length (ovals (bytesOf L) k) w

theorem OvSt.heap {W : World} {rv : Value} {L : List Rn} {gb k : Nat} {w : World} (h : OvSt W rv L gb k w) : ∃ cur, w.heap[gb]? = some (.cells cur 5 (0, 0)) ∧ W.heap.size ≤ gb := by
  obtain ⟨-, h2 | ⟨g, cap, cur, hv, hb, hh, -⟩⟩ := h.bytes.1
  · cases h2.1
  · simp only [Value.slice.injEq, Option.some.injEq, Addr.mk.injEq, and_true] at hv
    obtain ⟨rfl, -⟩ := hv
    exact ⟨cur, hh, hb⟩

theorem OvSt.next {W : World} {rv : Value} {L : List Rn} {gb k : Nat} {w w' : World} (h : OvSt W rv L gb k w) (b : Below w.heap.size w w') : OvSt W rv L gb k w' := ⟨Up.over h.runes b, Up.over h.bytes b⟩

theorem OvSt.facts {W : World} {rv : Value} {L : List Rn} {gb k : Nat} {w : World} (h : OvSt W rv L gb k w) (hk : k < L.length) : gb < w.heap.size ∧ w.frozen? ⟨gb, k, none⟩ = false ∧ w.cell? ⟨gb, k, none⟩ = some (.int .u8 0) := by
  obtain ⟨cur, hh, -⟩ := h.heap
  refine ⟨row_lt hh, frozen_of_row w gb k cur _ hh, ?_⟩
  obtain ⟨a, cap, hv, -, -, hc⟩ := row_form h.bytes.1
  obtain ⟨g, hg, -, e⟩ := hc k _ (ovals_get (l := bytesOf L) (k := k) (by rw [bytesOf_len]; exact hk))
  simp only [Value.slice.injEq] at hv
  rw [← hv.1] at hg
  simp only [Option.some.injEq, Addr.mk.injEq, and_true] at hg
  subst hg
  rw [if_neg (Nat.lt_irrefl k)] at e
  exact e

theorem OvSt.put {W : World} {rv : Value} {L : List Rn} {gb k : Nat} {w : World} (h : OvSt W rv L gb k w) (hk : k < L.length) {r : Rn} (hr : L[k]? = some r) {x : Int} (hx : x = (r.c.toNat : Int)) : OvSt W rv L gb (k + 1) (w.setCell ⟨gb, k, none⟩ (.int .u8 x)) := by
  subst hx
  obtain ⟨cur, hh, hge⟩ := h.heap
  obtain ⟨h1, h2⟩ := World.ownsRow.stored h.bytes.1 k (.int .u8 (r.c.toNat : Int))
  have hs := ovals_set (l := bytesOf L) (k := k) (by rw [bytesOf_len]; exact hk)
  have hg : (bytesOf L).getD k 0 = r.c := by simp [bytesOf, List.getD, hr]
  rw [hg] at hs
  rw [hs] at h1
  refine ⟨⟨World.ownsRow.kept h.runes.1 h2 (own_off h.runes.1 hh (by decide)), h.runes.2.setCell (by exact hge) _⟩, ⟨h1, h.bytes.2.setCell (by exact hge) _⟩⟩

theorem OvSt.conv {W : World} {rv : Value} {L : List Rn} {gb : Nat} {w : World} (h : OvSt W rv L gb L.length w) : (convert 51 9 (.slice (some ⟨gb, 0, none⟩) L.length L.length)).run Try.prog w = .ok (.string ⟨(bytesOf L).toArray⟩) w := by
  have hb : BRow W (.slice (some ⟨gb, 0, none⟩) (bytesOf L).length L.length) (bytesOf L) w := by
    have h1 := h.bytes
    rw [← bytesOf_len L, ovals_all] at h1
    unfold BRow
    rw [bytesOf_len] at h1 ⊢
    exact h1
  have e := brow_text hb
  rw [bytesOf_len] at e
  exact e

theorem charsL_few (l : List UInt8) : ∃ n, n = (charsL l).length ∧ n ≤ l.length + 1 := by
  refine ⟨_, rfl, ?_⟩
  have h := chs_len l _ 0 (Nat.le_refl _)
  unfold charsL withNl
  split
  · simp
  · split
    · omega
    · simp
      omega

theorem below_of {w w' : World} (h : w.grownBy w' none) : Below w.heap.size w w' := ⟨h.os, h.tape, h.output, h.size, fun k hk => h.block k hk (by simp)⟩

def overPost (W : World) (F : ByteArray) (s : ByteArray) (L : List Rn) (e : Ending) (w' : World) : Prop :=
  ∃ g, e = .returned (.pointer (some ⟨g, 0, none⟩)) ∧ Was ⟨W, g, L, F, ⟨(bytesOf L).toArray⟩, s.size⟩ 0 0 0 acc0 w'

/-- The walk's block is laid. -/
theorem over_fin {W : World} {F s : ByteArray} {ra : Option Addr} {rcap : Nat} {L : List Rn} {gb k n : Nat} {w : World} (h : OvSt W (.slice ra n rcap) L gb k w) (hn : n = L.length) :
    overPost W F s L (.returned (.pointer (some ⟨w.heap.size, 0, none⟩))) (w.alloc (.cells #[.string F, .int .i64 (s.size : Int), .slice ra n rcap, .string ⟨(bytesOf L).toArray⟩, .int .i64 0, .int .i64 0, .int .i64 0, .int .i64 0, .bool false, .slice none 0 0, .slice none 0 0, .slice none 0 0, .int .i64 0, .int .i64 0] 87)) := by
  subst hn
  refine ⟨_, rfl, ⟨F, s.size, .slice ra L.length rcap, ⟨(bytesOf L).toArray⟩, 0, 0, 0, 0, false, .slice none 0 0, .slice none 0 0, .slice none 0 0, 0, 0⟩, W.heap.size, [], rfl, rfl, rfl, rfl, rfl, rfl, ?_⟩
  have hr := Up.over h.runes ((Below.refl _ _).alloc (Nat.le_refl _) (.cells #[.string F, .int .i64 (s.size : Int), .slice ra L.length rcap, .string ⟨(bytesOf L).toArray⟩, .int .i64 0, .int .i64 0, .int .i64 0, .int .i64 0, .bool false, .slice none 0 0, .slice none 0 0, .slice none 0 0, .int .i64 0, .int .i64 0] 87))
  refine ⟨heap_alloc_new _ _, h.runes.2.size, hr.2, hr.1, rfl, World.ownsRow_nil _ _ _ _, Nat.le_refl _, hr.2.size, World.ownsRow_nil _ _ _ _, rfl, fun p hp => (by cases hp), World.ownsRow_nil _ _ _ _, rfl, rfl, Un.zero _ _ _, Un.zero _ _ _⟩

end Go.Proofs.Ytipipookgcdfbaa

/-
  From step to step the run over the characters stays what it is.
-/
namespace Go.Proofs.Ytipipookgcdfbaa
open Go.RowKit

def Lim (a : Acc) (j : Nat) : Prop := a.toks.length ≤ j ∧ a.lines.length ≤ j ∧ a.diags.length ≤ j

theorem Lim.up {a : Acc} {j k : Nat} (h : Lim a j) (hk : j ≤ k) : Lim a k := ⟨Nat.le_trans h.1 hk, Nat.le_trans h.2.1 hk, Nat.le_trans h.2.2 hk⟩

theorem Lim.step {L : List Rn} {sz i : Nat} {a : Acc} (h : Lim a i) (it : It) : Lim (stepA L sz i a it) (i + 1) := by
  obtain ⟨h1, h2, h3⟩ := h
  cases it with
  | nl => exact ⟨by simp [stepA, endA], by simp [stepA, endA]; omega, by simp [stepA, endA]; omega⟩
  | gap n => exact ⟨by simp [stepA]; omega, by simp [stepA]; omega, by simp [stepA]; omega⟩
  | opn => exact ⟨by simp [stepA, endA, tellA], by simp [stepA, endA, tellA]; omega, by simp [stepA, endA, tellA]; omega⟩
  | tk k n =>
    simp only [stepA, takeA, pushA]
    split
    · exact ⟨by simp [tellA]; omega, by simp [tellA]; omega, by simp [tellA]; omega⟩
    · exact ⟨by simp; omega, by simp; omega, by simp; omega⟩

/-- The walk in a state, on its way to R. -/
def Mid (L : List Rn) (sz : Nat) (R : Acc) (i st bg : Nat) (a : Acc) : Prop :=
  i ≤ L.length ∧ ((st = 0 ∧ fromA L sz i a = R ∧ Lim a i) ∨
    (bg < L.length ∧ st = begN ((bytesOf L).drop bg) ∧ fromA L sz bg a = R ∧ Lim a bg ∧
      (((st = 1 ∨ st = 2 ∨ st = 3) ∧ i = bg) ∨ (st = 4 ∧ bg ≤ i ∧ ∀ j, bg ≤ j → j < i → (bytesOf L).getD j 0 ≠ 10) ∨
        (st = 5 ∧ bg ≤ i ∧ (bg + 2 ≤ i → comN ((bytesOf L).drop (bg + 2)) = (comN ((bytesOf L).drop i)).map (· + (i - (bg + 2))))))))

def mu (L : List Rn) (i st : Nat) : Nat := 4 * (L.length - i) + (if st = 0 then 2 else if st = 4 ∧ (bytesOf L).getD i 0 = 10 then 3 else 1)

theorem mu_le (L : List Rn) (i st : Nat) : mu L i st ≤ 4 * (L.length - i) + 3 := by
  unfold mu
  split
  · omega
  · split <;> omega
theorem mu_ge (L : List Rn) (i st : Nat) : 4 * (L.length - i) + 1 ≤ mu L i st := by
  unfold mu
  split
  · omega
  · split <;> omega
theorem mu_next {L : List Rn} {i j s t : Nat} (h : i < j) (hi : i < L.length) : mu L j t < mu L i s := by
  have h1 := mu_le L j t
  have h2 := mu_ge L i s
  omega

theorem remN_at {l : List UInt8} {b : Nat} : ∀ (k : Nat), b + k < l.length → (∀ j, b ≤ j → j < b + k → l.getD j 0 ≠ 10) → l.getD (b + k) 0 = 10 → remN (l.drop b) = k
  | k, hk, hj, h10 => by
    induction k generalizing b with
    | zero =>
      rw [drop_cons (by omega)]
      unfold remN
      rw [if_pos (by simpa using h10)]
    | succ k ih =>
      rw [drop_cons (by omega)]
      unfold remN
      rw [if_neg (hj b (Nat.le_refl _) (by omega)), ih (b := b + 1) (by omega) (fun j h1 h2 => hj j (by omega) (by omega)) (by rw [show b + 1 + k = b + (k + 1) from by omega]; exact h10)]

theorem comN_step {l : List UInt8} {i : Nat} (hi : i < l.length) : comN (l.drop i) = if l.getD i 0 = 42 ∧ l.getD (i + 1) 0 = 47 then some 2 else (comN (l.drop (i + 1))).map (· + 1) := by
  rw [drop_cons hi]
  show (if _ ∧ (l.drop (i + 1)).getD 0 0 = 47 then _ else _) = _
  rw [getD_drop, Nat.add_zero]

theorem tok_kind (l : List UInt8) : (tok l).1 ≤ 100 := by
  unfold tok
  split
  · rename_i x h
    have := (conN_in h).2.2.1
    omega
  · repeat' split
    all_goals simp

def StepPost (E : Env) (R : Acc) (i st : Nat) (e : Ending) (w' : World) : Prop :=
  e = .returned (.tuple #[]) ∧ ∃ i' st' bg' a', Was E i' st' bg' a' w' ∧ Mid E.L E.sz R i' st' bg' a' ∧ mu E.L i' st' < mu E.L i st

end Go.Proofs.Ytipipookgcdfbaa

/-
  Lines of the project, walked.
-/
namespace Go.Proofs.Ytipipookgcdfbaa
open Go.RowKit

/-- Lines in memory, of a type T that is the project's or the document's. -/
def LRow (W : World) (F : ByteArray) (T : TypeId) (v : Value) (lines : List Ln) (w : World) : Prop :=
  ∃ P : List (Value × Ln), P.map Prod.snd = lines ∧ Up W T 4 v P.length (lcells P) w ∧ ∀ p ∈ P, Up W 50 8 p.1 p.2.toks.length (tcells F p.2.toks) w
def DRow (W : World) (F : ByteArray) (v : Value) (D : List Dg) (w : World) : Prop := Up W 105 4 v D.length (dcells F D) w
def LinesPost (W : World) (F : ByteArray) (T : TypeId) (R : Acc) (e : Ending) (w' : World) : Prop :=
  ∃ la n lc da m dc, e = .returned (.tuple #[.slice la n lc, .slice da m dc]) ∧ n = R.lines.length ∧ m = R.diags.length ∧ LRow W F T (.slice la n lc) R.lines w' ∧ DRow W F (.slice da m dc) R.diags w'

/-- What is returned, at the end. -/
theorem Was.result {E : Env} {i st bg : Nat} {R : Acc} {w : World} (h : Was E i st bg R w) : ∃ la n lc da m dc, n = R.lines.length ∧ m = R.diags.length ∧ w.cell? ⟨E.g, 10, none⟩ = some (.slice la n lc) ∧ w.cell? ⟨E.g, 11, none⟩ = some (.slice da m dc) ∧
    LRow E.W E.F 134 (.slice la n lc) R.lines w ∧ DRow E.W E.F (.slice da m dc) R.diags w := by
  obtain ⟨c, B1, P, ⟨e1, -⟩, hb⟩ := h.cells
  obtain ⟨la, lc, hl, -⟩ := row_form hb.lines
  obtain ⟨da, dc, hd, -⟩ := row_form hb.diags
  have k10 := hb.blk.k10
  have k11 := hb.blk.k11
  rw [hl] at k10
  rw [hd] at k11
  have hln : P.length = R.lines.length := by rw [← hb.pl, List.length_map]
  refine ⟨la, P.length, lc, da, _, dc, hln, rfl, k10, k11, ⟨P, hb.pl, ⟨by rw [← hl]; exact hb.lines, hb.low⟩, fun p hp => ?_⟩, ?_⟩
  · rw [← e1]
    exact ⟨(hb.done p hp).1, hb.low⟩
  · rw [← e1, ← hd]
    exact ⟨hb.diags, hb.low⟩

theorem LRow.over {W : World} {F : ByteArray} {T : TypeId} {v : Value} {l : List Ln} {w w' : World} (h : LRow W F T v l w) (b : Below w.heap.size w w') : LRow W F T v l w' := by
  obtain ⟨P, h1, h2, h3⟩ := h
  exact ⟨P, h1, Up.over h2 b, fun p hp => Up.over (h3 p hp) b⟩
theorem DRow.over {W : World} {F : ByteArray} {v : Value} {l : List Dg} {w w' : World} (h : DRow W F v l w) (b : Below w.heap.size w w') : DRow W F v l w' := Up.over h b
theorem LRow.low {W : World} {F : ByteArray} {T : TypeId} {v : Value} {l : List Ln} {w : World} (h : LRow W F T v l w) : Below W.heap.size W w := by
  obtain ⟨P, h1, h2, h3⟩ := h
  exact h2.2

theorem mid_zero (L : List Rn) (sz : Nat) : Mid L sz (linesA L sz) 0 0 0 acc0 := by
  refine ⟨Nat.zero_le _, .inl ⟨rfl, rfl, ?_⟩⟩
  exact ⟨Nat.le_refl _, Nat.le_refl _, Nat.le_refl _⟩

/-- All characters have been walked over. -/
theorem mid_end {L : List Rn} {sz : Nat} {R : Acc} {i st bg : Nat} {a : Acc} (h : Mid L sz R i st bg a) (hi : ¬ i < L.length) (hN : L = [] ∨ Nl (bytesOf L)) : i = L.length ∧ ((st = 0 ∧ a = R) ∨ (st = 5 ∧ bg + 1 < L.length ∧ Lim a bg ∧ R = endA (tellA L a 1 bg (bg + 2)) sz true)) := by
  have hlen := bytesOf_len L
  obtain ⟨h0, ⟨h1, h2, -⟩ | ⟨hbL, hst, hR, hlim, hcase⟩⟩ := h
  · refine ⟨by omega, .inl ⟨h1, ?_⟩⟩
    rw [fromA_end (by omega)] at h2
    exact h2
  · have hil : i = L.length := by omega
    refine ⟨hil, ?_⟩
    have hNl : Nl (bytesOf L) := by
      rcases hN with rfl | h
      · simp at hbL
      · exact h
    rcases hcase with ⟨-, h4⟩ | ⟨-, h5, h6⟩ | ⟨h4, h5, h6⟩
    · omega
    · have := h6 (L.length - 1) (by omega) (by omega)
      have h7 := hNl.2
      rw [hlen] at h7
      exact absurd h7 this
    · refine .inr ⟨h4, ?_, hlim, ?_⟩
      · have h7 := (begN_fiveC (hst.symm.trans h4)).2
        rw [getD_drop] at h7
        have := getD_lt (l := bytesOf L) (i := bg + 1) (by rw [h7]; decide)
        omega
      · have hb1 : bg + 1 < L.length := by
          have h7 := (begN_fiveC (hst.symm.trans h4)).2
          rw [getD_drop] at h7
          have := getD_lt (l := bytesOf L) (i := bg + 1) (by rw [h7]; decide)
          omega
        have hc := h6 (by omega)
        rw [hil, show (bytesOf L).drop L.length = [] from List.drop_eq_nil_of_le (by omega)] at hc
        have hit : item ((bytesOf L).drop bg) = .opn := item_opn (hst.symm.trans h4) (by rw [List.drop_drop]; exact hc)
        have hfr := fromA_step (L := L) (sz := sz) (a := a) hbL
        rw [hit, hR] at hfr
        simp only [lenA] at hfr
        rw [fromA_end (by omega)] at hfr
        exact hfr

theorem charsL_nl (l : List UInt8) : charsL l = [] ∨ Nl (bytesOf (charsL l)) := by
  unfold charsL
  split
  · exact .inl rfl
  · refine .inr ?_
    unfold withNl
    split
    · rename_i h
      unfold endsNl at h
      cases hg : (chs l 0).getLast? with
      | none => rw [hg] at h; cases h
      | some r =>
        rw [hg] at h
        rw [List.getLast?_eq_getElem?] at hg
        have hlt := (List.getElem?_eq_some_iff.1 hg).1
        refine ⟨by rw [bytesOf_len]; omega, ?_⟩
        rw [bytesOf_len]
        simp only [bytesOf, List.getD, List.getElem?_map, hg]
        simpa using h
    · refine ⟨by simp [bytesOf], ?_⟩
      simp [bytesOf, List.getD]

theorem quiet_two {w : World} {n : Nat} {g : Nat} {u : Value} {k : Nat} (h : w.cell? ⟨g, k, none⟩ = some u) : (w.drewN n).cell? ⟨g, k, none⟩ = some u := h

end Go.Proofs.Ytipipookgcdfbaa
