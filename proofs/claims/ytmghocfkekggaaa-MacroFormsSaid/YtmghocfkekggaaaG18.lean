/-
  Texts of the proof, put together: McMem, McTake.
-/
import Derived.Test.YtmghocfkekggaaaG15
import Derived.Test.YtmghocfkekggaaaG17
import Derived.Maps.OwnSet

/-
  Macros in memory; the reader of a definition, as it lies while it reads.
-/
namespace Go.Proofs.Ytmghocfkekggaaa
open Go.RowKit

/-- A row of texts, as it is read. -/
def StrsV (S : List ByteArray) (v : Value) (w : World) : Prop :=
  ∃ a cap, v = .slice a S.length cap ∧ S.length ≤ cap ∧ cap ≤ maxLen ∧ ∀ k s, S[k]? = some s → ∃ g o, a = some ⟨g, o, none⟩ ∧ g < w.heap.size ∧ w.cell? ⟨g, o + k, none⟩ = some (.string s)
theorem StrsV.over {S : List ByteArray} {v : Value} {w w' : World} (h : StrsV S v w) (b : Below w.heap.size w w') : StrsV S v w' := by
  obtain ⟨a, cap, hv, h1, h2, h3⟩ := h
  refine ⟨a, cap, hv, h1, h2, fun k s hs => ?_⟩
  obtain ⟨g, o, ha, hg, hc⟩ := h3 k s hs
  exact ⟨g, o, ha, Nat.lt_of_lt_of_le hg b.size, bcell b hc hg⟩
theorem StrsV.form {S : List ByteArray} {v : Value} {w : World} (h : StrsV S v w) : ∃ a n cap, v = .slice a n cap := by
  obtain ⟨a, cap, hv, -⟩ := h
  exact ⟨a, _, cap, hv⟩
theorem StrsV.len {S : List ByteArray} {a : Option Addr} {n cap : Nat} {w : World} (h : StrsV S (.slice a n cap) w) : n = S.length ∧ n ≤ cap ∧ cap ≤ maxLen := by
  obtain ⟨a', cap', hv, h1, h2, -⟩ := h
  simp only [Value.slice.injEq] at hv
  obtain ⟨-, e1, e2⟩ := hv
  exact ⟨e1, by omega, by omega⟩
theorem StrsV.get {S : List ByteArray} {a : Option Addr} {n cap : Nat} {w : World} (h : StrsV S (.slice a n cap) w) {k : Nat} {s : ByteArray} (hs : S[k]? = some s) : ∃ g o, a = some ⟨g, o, none⟩ ∧ g < w.heap.size ∧ w.cell? ⟨g, o + k, none⟩ = some (.string s) := by
  obtain ⟨a', cap', hv, -, -, h3⟩ := h
  simp only [Value.slice.injEq] at hv
  obtain ⟨g, o, ha, hg, hc⟩ := h3 k s hs
  exact ⟨g, o, by rw [hv.1]; exact ha, hg, hc⟩
theorem strsV_nil (w : World) : StrsV [] (.slice none 0 0) w := ⟨none, 0, rfl, Nat.le_refl _, Nat.zero_le _, fun k s h => by simp at h⟩
theorem strsV_row {B : Nat} {S : List ByteArray} {v : Value} {w : World} (h : w.ownsRow B 9 1 v S.length (S.map Value.string)) : StrsV S v w := by
  obtain ⟨a, cap, hv, h1, h2, h3⟩ := row_form h
  refine ⟨a, cap, hv, h1, h2, fun k s hs => ?_⟩
  obtain ⟨g, hg, hlt, hc⟩ := h3 k (.string s) (by rw [List.getElem?_map, hs]; rfl)
  exact ⟨g, 0, hg, hlt, by rw [Nat.zero_add]; exact hc⟩

/-- A macro's value. -/
def macV (m : Xm) (pv bv : Value) : Value := .agg #[.string m.n, .bool m.fn, .bool m.va, pv, bv, .string m.g, .int .i64 m.f, .int .i64 m.t]
def MacAt (m : Xm) (pv bv : Value) (w : World) : Prop := StrsV m.ps pv w ∧ ToksX m.bd bv w
theorem MacAt.over {m : Xm} {pv bv : Value} {w w' : World} (h : MacAt m pv bv w) (b : Below w.heap.size w w') : MacAt m pv bv w' := ⟨h.1.over b, h.2.over b⟩

/-- How a map's element reads: a number, whichever. -/
def numElem (v : Value) : Option (DataW Unit × List MemPlace) := match v with
  | .int .i64 c => some (.lit (.int .i64 c), [])
  | _ => none
theorem numElem_inv {v : Value} {d : DataW Unit} {ps : List MemPlace} (h : numElem v = some (d, ps)) : ∃ c, v = .int .i64 c ∧ d = .lit (.int .i64 c) := by
  unfold numElem at h
  split at h
  · simp only [Option.some.injEq, Prod.mk.injEq] at h
    exact ⟨_, rfl, h.1.symm⟩
  · cases h
theorem strKeyM : Maps.Keyed Try.prog 9 := Maps.string_keyed Try.underlying9
theorem keyM (s : ByteArray) (h : s.size ≤ maxLen) : keyOf Try.prog 9 (.string s) = some (.string s.data.toList) := WideMaps.keyOf_string_mk Try.underlying9 h

def rdObj (m : Xm) (pv bv rv : Value) (mb : Nat) : Obj := .cells #[.string m.n, .bool m.fn, .bool m.va, pv, bv, .string m.g, .int .i64 m.f, .int .i64 m.t, rv, .map (some mb)] 76 (0, 0)

/-- The reader: its block, its map, its row of parameters, and what it has not read. -/
structure Rd (W : World) (p mb : Nat) (m : Xm) (pv bv : Value) (R : List Xt) (rv : Value) (w : World) : Prop where
  obj : w.heap[p]? = some (rdObj m pv bv rv mb)
  low : W.heap.size ≤ p ∧ W.heap.size ≤ mb
  map : ∃ D, w.ownsMap Try.prog 9 numElem mb m.ps.length D ∧ ∀ s : ByteArray, Maps.has D (.string s.data.toList) = memB s m.ps
  par : w.ownsRow W.heap.size 9 1 pv m.ps.length (m.ps.map Value.string)
  rest : ToksX R rv W
  bel : Below W.heap.size W w
  fit : m.ps.length + R.length ≤ 500000
  sit : ∀ t ∈ R, t.ss.length ≤ 500000
  sht : ∀ t ∈ R, t.x.size ≤ maxLen

theorem Rd.lt {W : World} {p mb : Nat} {m : Xm} {pv bv : Value} {R : List Xt} {rv : Value} {w : World} (h : Rd W p mb m pv bv R rv w) : p < w.heap.size := row_lt h.obj
theorem ownsMap_over {H : Type} {R : Value → Option (DataW H × List MemPlace)} {w w' : World} {k : TypeId} {b n : Nat} {D : DataW H} (h : w.ownsMap Try.prog k R b n D) (hb : w'.heap[b]? = w.heap[b]?) : w'.ownsMap Try.prog k R b n D := by
  obtain ⟨es, c, h1, h2⟩ := h
  exact ⟨es, c, hb.trans h1, h2⟩
theorem ownsRow_over {B : Nat} {e : TypeId} {size n : Nat} {v : Value} {xs : List Value} {w w' : World} (h : w.ownsRow B e size v n xs) (hb : ∀ g, v.ownBlock = some g → w'.heap[g]? = w.heap[g]?) : w'.ownsRow B e size v n xs := by
  refine ⟨h.1, ?_⟩
  rcases h.2 with hn | ⟨g, cap, cur, rfl, h1, h2, rest⟩
  · exact .inl hn
  · exact .inr ⟨g, cap, cur, rfl, h1, (hb g rfl).trans h2, rest⟩

theorem Rd.ne_map {W : World} {p mb : Nat} {m : Xm} {pv bv : Value} {R : List Xt} {rv : Value} {w : World} (h : Rd W p mb m pv bv R rv w) : p ≠ mb := by
  intro e
  obtain ⟨D, ⟨es, c, h1, -⟩, -⟩ := h.map
  have h2 := h.obj
  rw [e, h1] at h2
  cases h2
theorem row_ne {B : Nat} {e : TypeId} {size n : Nat} {v : Value} {xs : List Value} {w : World} (h : w.ownsRow B e size v n xs) {b : Nat} {o : Obj} (hb : w.heap[b]? = some o) (ho : ∀ cs, o ≠ .cells cs e (0, 0)) : ∀ g, v.ownBlock = some g → g ≠ b := by
  intro g hg e
  obtain ⟨h1, ⟨hv, -⟩ | ⟨g', cap, cur, hv, hg', hh, -⟩⟩ := h
  · rw [hv] at hg; cases hg
  · rw [hv] at hg
    simp only [Value.ownBlock, Option.some.injEq] at hg
    subst hg e
    rw [hb] at hh
    exact ho _ (Option.some.inj hh)
theorem Rd.ne_par {W : World} {p mb : Nat} {m : Xm} {pv bv : Value} {R : List Xt} {rv : Value} {w : World} (h : Rd W p mb m pv bv R rv w) : ∀ g, pv.ownBlock = some g → g ≠ p ∧ g ≠ mb := by
  intro g hg
  refine ⟨row_ne h.par h.obj (fun cs e => ?_) g hg, ?_⟩
  · unfold rdObj at e
    simp only [Obj.cells.injEq] at e
    exact absurd e.2.1 (by decide)
  · obtain ⟨D, ⟨es, c, h1, -⟩, -⟩ := h.map
    exact row_ne h.par h1 (fun cs e => by cases e) g hg

theorem Rd.over {W : World} {p mb : Nat} {m : Xm} {pv bv : Value} {R : List Xt} {rv : Value} {w w' : World} (h : Rd W p mb m pv bv R rv w) (b : Below w.heap.size w w') : Rd W p mb m pv bv R rv w' := by
  obtain ⟨D, hD, hM⟩ := h.map
  exact ⟨(b.block p h.lt).trans h.obj, h.low, ⟨D, ownsMap_over hD (b.block _ hD.lt), hM⟩, ownsRow_over h.par fun g hg => b.block g (World.ownsRow.lt h.par g hg).2, h.rest, h.bel.trans (b.mono h.bel.size), h.fit, h.sit, h.sht⟩
theorem Rd.cells {W : World} {p mb : Nat} {m : Xm} {pv bv : Value} {R : List Xt} {rv : Value} {w : World} (h : Rd W p mb m pv bv R rv w) :
    w.cell? ⟨p, 0, none⟩ = some (.string m.n) ∧ w.cell? ⟨p, 1, none⟩ = some (.bool m.fn) ∧ w.cell? ⟨p, 2, none⟩ = some (.bool m.va) ∧ w.cell? ⟨p, 3, none⟩ = some pv ∧ w.cell? ⟨p, 4, none⟩ = some bv ∧
    w.cell? ⟨p, 5, none⟩ = some (.string m.g) ∧ w.cell? ⟨p, 6, none⟩ = some (.int .i64 m.f) ∧ w.cell? ⟨p, 7, none⟩ = some (.int .i64 m.t) ∧ w.cell? ⟨p, 8, none⟩ = some rv ∧ w.cell? ⟨p, 9, none⟩ = some (.map (some mb)) := by
  have ho := h.obj
  unfold rdObj at ho
  refine ⟨?_, ?_, ?_, ?_, ?_, ?_, ?_, ?_, ?_, ?_⟩ <;> (rw [Lib.cell_of_heap ho]; rfl)
theorem Rd.free {W : World} {p mb : Nat} {m : Xm} {pv bv : Value} {R : List Xt} {rv : Value} {w : World} (h : Rd W p mb m pv bv R rv w) (j : Nat) : w.frozen? ⟨p, j, none⟩ = false := Lib.frozen_of_heap h.obj _
/-- A store into the reader's own block. -/
theorem Rd.put {W : World} {p mb : Nat} {m m' : Xm} {pv bv bv' : Value} {R R' : List Xt} {rv rv' : Value} {w : World} (h : Rd W p mb m pv bv R rv w) (j : Nat) (u : Value)
    (ho : (w.setCell ⟨p, j, none⟩ u).heap[p]? = some (rdObj m' pv bv' rv' mb)) (hp : m'.ps = m.ps) (hr : ToksX R' rv' W) (hl : R'.length ≤ R.length) (hs : ∀ t ∈ R', t ∈ R) : Rd W p mb m' pv bv' R' rv' (w.setCell ⟨p, j, none⟩ u) := by
  obtain ⟨D, hD, hM⟩ := h.map
  have hf := h.fit
  have hnp := h.ne_par
  have hb := h.bel.setCell (p := ⟨p, j, none⟩) h.low.1 u
  refine ⟨ho, h.low, ⟨D, ?_, by rw [hp]; exact hM⟩, ?_, hr, hb, by rw [hp]; omega, fun t ht => h.sit t (hs t ht), fun t ht => h.sht t (hs t ht)⟩
  · rw [hp]
    exact ownsMap_over hD (heap_setCell_other w _ mb u fun e => h.ne_map e.symm)
  · rw [hp]
    exact ownsRow_over h.par fun g hg => heap_setCell_other w _ g u fun e => (hnp g hg).1 e

end Go.Proofs.Ytmghocfkekggaaa

/-
  A sign, if it is the next one: the reader's take.
-/
namespace Go.Proofs.Ytmghocfkekggaaa
open Go.RowKit

set_option maxRecDepth 100000 in
/-- l[1:] of tokens. -/
theorem slice1_run (g o n cap : Nat) (h1 : 1 ≤ n) (h3 : n ≤ cap) : ∃ o', (n = 1 ∨ o' = o + 8) ∧ ∀ w, (Instr.slice 32 (.slice (some ⟨g, o, none⟩) n cap) (some (.int .i64 1)) none none).run Try.prog w = .ok (.slice (some ⟨g, o', none⟩) (n - 1) (cap - 1)) w := by
  refine ⟨if cap = 1 then o else o + 8, ?_, fun w => ?_⟩
  · split
    · left; omega
    · right; rfl
  · have a1 : (1 : Int) ≤ (n : Int) := by omega
    have a2 : (1 : Int) ≤ (cap : Int) := by omega
    have a3 : (n : Int) ≤ (cap : Int) := by omega
    have a5 : Try.prog.cellsOf 56 = 8 := by kernel_rfl
    by_cases hc : cap = 1
    · obtain rfl : n = 1 := by omega
      subst hc
      simp [Instr.slice, run_underlying Try.underlying32, Instr.sliceBounds, run_sliceBound, Addr.add, *]
    · have hc' : (cap == 1) = false := by simpa using hc
      simp [Instr.slice, run_underlying Try.underlying32, Instr.sliceBounds, run_sliceBound, Addr.add, *]

theorem drop1_toks {t : Xt} {T : List Xt} {g o o' n cap : Nat} {w : World} (h : ToksX (t :: T) (.slice (some ⟨g, o, none⟩) n cap) w) (ho : n = 1 ∨ o' = o + 8) : ToksX T (.slice (some ⟨g, o', none⟩) (n - 1) (cap - 1)) w := by
  obtain ⟨hn, hc1, hc2⟩ := h.len
  simp only [List.length_cons] at hn
  refine ⟨some ⟨g, o', none⟩, cap - 1, by rw [hn, Nat.add_sub_cancel], by omega, by omega, fun k u hu => ?_⟩
  obtain ⟨g', o2, sa, sn, sc, ha, hg, -, hx, hs⟩ := h.get (k := k + 1) (by rw [List.getElem?_cons_succ]; exact hu)
  obtain ⟨rfl, rfl⟩ : g = g' ∧ o = o2 := by simpa using ha
  have hk := (List.getElem?_eq_some_iff.1 hu).1
  have e : o' = o + 8 := by
    rcases ho with h | h
    · omega
    · exact h
  refine ⟨g, o', rfl, hg, _, ?_, hs⟩
  rw [e, show o + 8 + k * 8 = o + (k + 1) * 8 from by omega]
  exact hx

def RdEnd (W : World) (p mb : Nat) (b : Bool) (m : Xm) (R : List Xt) (e : Ending) (w' : World) : Prop := e = .returned (.bool b) ∧ ∃ pv bv rv, Rd W p mb m pv bv R rv w'

/-- The first token that was not read. -/
theorem Rd.first {W : World} {p mb : Nat} {m : Xm} {pv bv : Value} {t : Xt} {R : List Xt} {a : Option Addr} {n cap : Nat} {w : World} (h : Rd W p mb m pv bv (t :: R) (.slice a n cap) w) :
    ∃ g o o' sa sn sc, a = some ⟨g, o, none⟩ ∧ 1 ≤ n ∧ n ≤ cap ∧ cap ≤ 9223372036854775807 ∧ TokX t (.slice sa sn sc) g o w ∧ ToksX R (.slice (some ⟨g, o', none⟩) (n - 1) (cap - 1)) W ∧
      ∀ w, (Instr.slice 32 (.slice (some ⟨g, o, none⟩) n cap) (some (.int .i64 1)) none none).run Try.prog w = .ok (.slice (some ⟨g, o', none⟩) (n - 1) (cap - 1)) w := by
  obtain ⟨hn, hc1, hc2⟩ := h.rest.len
  simp only [List.length_cons] at hn
  unfold maxLen at hc2
  obtain ⟨g, o, sa, sn, sc, ha, hg, -, hx, -⟩ := h.rest.get (k := 0) (t := t) rfl
  obtain ⟨o', ho, hr⟩ := slice1_run g o n cap (by omega) hc1
  subst ha
  rw [Nat.zero_mul, Nat.add_zero] at hx
  exact ⟨g, o, o', sa, sn, sc, rfl, by omega, hc1, hc2, hx.next h.bel hg, drop1_toks h.rest ho, hr⟩

theorem Rd.next {W : World} {p mb : Nat} {m : Xm} {pv bv : Value} {t : Xt} {R : List Xt} {rv rv' : Value} {w : World} (h : Rd W p mb m pv bv (t :: R) rv w) (hr : ToksX R rv' W) : Rd W p mb m pv bv R rv' (w.setCell ⟨p, 8, none⟩ rv') := by
  have ho := h.obj
  unfold rdObj at ho
  exact h.put 8 rv' ((heap_setCell_same w p 8 _ _ rv' ho).trans rfl) rfl hr (by simp) (fun u hu => List.mem_cons_of_mem _ hu)

set_option maxRecDepth 100000 in
set_option maxHeartbeats 3200000 in
theorem mtake_any {W : World} {p mb : Nat} {m : Xm} {pv bv : Value} {R : List Xt} {rv : Value} {w : World} (h : Rd W p mb m pv bv R rv w) (s : ByteArray) :
    Calls Try.prog 52 #[.pointer (some ⟨p, 0, none⟩), .string s] w (RdEnd W p mb (takeL s R).isSome m ((takeL s R).getD R)) := by
  obtain ⟨a, n, cap, rfl⟩ := h.rest.form
  obtain ⟨-, -, -, -, -, -, -, -, k8, -⟩ := h.cells
  match R, h with
  | [], h =>
    obtain rfl : n = 0 := h.rest.len.1
    have HR := Lib.hid h
    clear h
    go_enter Try.func52, Try.ntmps52
    go_wp2
    go_ret
    exact ⟨rfl, _, _, _, HR.out⟩
  | t :: r, h =>
    obtain ⟨g, o, o', sa, sn, sc, rfl, hn1, hc1, hc2, hx, hr, hrun⟩ := h.first
    obtain ⟨c0, c1, c2, c3, c4, c5, c6, c7⟩ := hx
    have HP : Hid (∀ X : World, Calls Try.prog 70 #[.agg #[.int .i64 t.k, .string t.x, .bool t.sp, .string t.g, .int .i64 t.f, .int .i64 t.t, .bool t.d, .slice sa sn sc], .string s] X (BoolNew (isX t s) X)) := Lib.hid (fun X => punct_any t s sa sn sc X)
    have HR := Lib.hid h
    have HT := Lib.hid hr
    have hne : ((n : Int) == 0) = false := by simp; omega
    cases hb : isX t s with
    | false =>
      rw [takeL_no hb]
      rw [hb] at HP
      clear h hr hb
      go_enter Try.func52, Try.ntmps52
      go_wp2_with (go_at_call 70; (with_reducible refine (HP.out _).mono ?_); rintro e w1 ⟨rfl, hb1⟩; have HN := Lib.hid (HR.out.over hb1); clear hb1)
      go_ret
      exact ⟨rfl, _, _, _, HN.out⟩
    | true =>
      rw [takeL_yes hb]
      rw [hb] at HP
      clear h hr hb
      go_enter Try.func52, Try.ntmps52
      go_wp2_with (go_at_call 70; (with_reducible refine (HP.out _).mono ?_); rintro e w1 ⟨rfl, hb1⟩; have hn1 := HR.out.over hb1; (obtain ⟨-, -, -, -, -, -, -, -, q8, -⟩ := hn1.cells); have z8 := hn1.free 8; have HN := Lib.hid hn1; clear hb1 hn1)
      go_ret
      exact ⟨rfl, _, _, _, HN.out.next HT.out⟩

end Go.Proofs.Ytmghocfkekggaaa
