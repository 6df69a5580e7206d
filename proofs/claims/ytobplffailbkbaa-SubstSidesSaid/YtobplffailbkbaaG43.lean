/-
  Texts of the proof, put together: SuWa.
-/
import Derived.Test.YtobplffailbkbaaG42
import Derived.Test.YtobplffailbkbaaG34

/-
  How parameters stand: the project's Wants, walked.
-/
namespace Go.Proofs.Ytobplffailbkbaa
open Go.RowKit Go.Maps

/-- One more thing of the body. -/
def wantS (m : Xm) (p : List Bool × List Bool) (i : Nat) : List Bool × List Bool :=
  if parI m i < 0 then p else if rawI m i then (p.1.set (parI m i).toNat true, p.2) else (p.1, p.2.set (parI m i).toNat true)
def wantsL (m : Xm) : List Bool × List Bool := (List.range m.bd.length).foldl (wantS m) (List.replicate m.ps.length false, List.replicate m.ps.length false)

theorem Try.infoBoolW : (Try.prog.info? 4).map (fun i => (i.zero, i.size, i.bytes)) = some (some (.bool false), 1, 1) := by kernel_rfl
theorem made_bools (z : Value) (n : Nat) : (madeCells #[z] n).toList = List.replicate n z := by
  have := toList_madeCells_one z n
  exact this
theorem make_bools (n : Nat) (hn : n ≤ 1000000) : ∃ cz : Array Value, cz.toList = List.replicate n (.bool false) ∧ ∀ W : World, (Instr.makeSlice 57 (.int .i64 (n : Int)) (.int .i64 (n : Int))).run Try.prog W = .ok (.slice (some ⟨W.heap.size, 0, none⟩) n n) (W.alloc (.cells cz 4)) := by
  obtain ⟨i0, hi, hz0, hz1, hz2⟩ := info_parts Try.infoBoolW
  refine ⟨madeCells #[.bool false] n, made_bools _ _, fun W => ?_⟩
  have h := run_make (P := Try.prog) W 57 4 i0 (.bool false) Try.underlying57 hi hz0 .i64 .i64 (n : Int) (n : Int) (by omega) (by omega) (by rw [hz2]; omega) (by omega)
  simp only [Int.toNat_natCast, hz1, Nat.mul_one] at h
  exact h

def Bools (w : World) (g : Nat) (L : List Bool) : Prop := ∃ c, w.heap[g]? = some (.cells c 4 (0, 0)) ∧ c.toList = L.map Value.bool
theorem Bools.at {w : World} {g : Nat} {L : List Bool} (h : Bools w g L) {k : Nat} {b : Bool} (hk : L[k]? = some b) : w.cell? ⟨g, k, none⟩ = some (.bool b) ∧ w.frozen? ⟨g, k, none⟩ = false := by
  obtain ⟨c, hc, hl⟩ := h
  refine ⟨?_, Lib.frozen_of_heap hc _⟩
  rw [Lib.cell_of_heap hc, ← Array.getElem?_toList, hl, List.getElem?_map, hk]
  rfl
theorem Bools.set {w : World} {g : Nat} {L : List Bool} (h : Bools w g L) (k : Nat) (b : Bool) : Bools (w.setCell ⟨g, k, none⟩ (.bool b)) g (L.set k b) := by
  obtain ⟨c, hc, hl⟩ := h
  refine ⟨c.setIfInBounds k (.bool b), heap_setCell_same w g k _ _ _ hc, ?_⟩
  rw [Array.toList_setIfInBounds, hl, List.map_set]
theorem Bools.other {w : World} {g g' : Nat} {L : List Bool} (h : Bools w g L) (hne : g ≠ g') (k : Nat) (v : Value) : Bools (w.setCell ⟨g', k, none⟩ v) g L := by
  obtain ⟨c, hc, hl⟩ := h
  exact ⟨c, (heap_setCell_other w ⟨g', k, none⟩ g v hne).trans hc, hl⟩
theorem Bools.over {w w' : World} {g : Nat} {L : List Bool} (h : Bools w g L) (b : Below w.heap.size w w') : Bools w' g L := by
  obtain ⟨c, hc, hl⟩ := h
  exact ⟨c, (b.block _ (row_lt hc)).trans hc, hl⟩
theorem PlacesIs.set {m : Xm} {mo : Option Nat} {w : World} (h : PlacesIs m mo w) {g : Nat} {c : Array Value} {e : TypeId} {fz : Nat × Nat} (hg : w.heap[g]? = some (.cells c e fz)) (j : Nat) (v : Value) : PlacesIs m mo (w.setCell ⟨g, j, none⟩ v) := by
  match mo, h with
  | none, h => exact h
  | some k, h =>
    obtain ⟨hf, D, N, h1, h2⟩ := h
    refine ⟨hf, D, N, h1.setCell (a := ⟨g, j, none⟩) (fun e => ?_) v, h2⟩
    obtain ⟨es, cc, hm, -⟩ := h1
    have e : k = g := e
    rw [e, hg] at hm
    cases hm
theorem idx_lt (x : ByteArray) : ∀ (l : List ByteArray) (k : Int), idxI x l k < k + l.length ∨ idxI x l k = -1
  | [], k => .inr rfl
  | y :: l, k => by
    unfold idxI
    split
    · left
      rw [List.length_cons]
      omega
    · rcases idx_lt x l (k + 1) with h | h
      · left
        rw [List.length_cons]
        omega
      · exact .inr h
theorem par_lt {m : Xm} {i : Nat} (h : 0 ≤ parI m i) : (parI m i).toNat < m.ps.length := by
  unfold parI at h ⊢
  cases hb : m.bd[i]? with
  | none =>
    rw [hb] at h
    simp at h
  | some t =>
    rw [hb] at h
    simp only at h ⊢
    split at h
    · rename_i hc
      rw [if_pos hc]
      rcases idx_lt t.x m.ps 0 with h2 | h2
      · omega
      · rw [h2] at h
        simp at h
    · simp at h
/-- Ahead of each turn. -/
structure Wn (W : World) (m : Xm) (bv : Value) (g1 g2 : Nat) (p : List Bool × List Bool) (w : World) : Prop where
  raw : Bools w g1 p.1
  full : Bools w g2 p.2
  ne : g1 ≠ g2
  low : Below W.heap.size W w
  far : W.heap.size ≤ g1 ∧ W.heap.size ≤ g2
  l1 : p.1.length = m.ps.length
  l2 : p.2.length = m.ps.length
theorem Wn.over {W : World} {m : Xm} {bv : Value} {g1 g2 : Nat} {p : List Bool × List Bool} {w w' : World} (h : Wn W m bv g1 g2 p w) (b : Below w.heap.size w w') : Wn W m bv g1 g2 p w' := ⟨h.raw.over b, h.full.over b, h.ne, below_up h.low b, h.far, h.l1, h.l2⟩
theorem Wn.set1 {W : World} {m : Xm} {bv : Value} {g1 g2 : Nat} {p : List Bool × List Bool} {w : World} (h : Wn W m bv g1 g2 p w) (k : Nat) : Wn W m bv g1 g2 (p.1.set k true, p.2) (w.setCell ⟨g1, k, none⟩ (.bool true)) :=
  ⟨h.raw.set k true, h.full.other h.ne.symm k _, h.ne, h.low.setCell (p := ⟨g1, k, none⟩) h.far.1 _, h.far, by rw [List.length_set]; exact h.l1, h.l2⟩
theorem Wn.set2 {W : World} {m : Xm} {bv : Value} {g1 g2 : Nat} {p : List Bool × List Bool} {w : World} (h : Wn W m bv g1 g2 p w) (k : Nat) : Wn W m bv g1 g2 (p.1, p.2.set k true) (w.setCell ⟨g2, k, none⟩ (.bool true)) :=
  ⟨h.raw.other h.ne k _, h.full.set k true, h.ne, h.low.setCell (p := ⟨g2, k, none⟩) h.far.2 _, h.far, h.l1, by rw [List.length_set]; exact h.l2⟩
def bdObj (bv : Value) (mo : Option Nat) : Obj := .cells #[bv, .map mo, .slice none 0 0, .slice none 0 0, .slice none 0 0] 76 (0, 0)
/-- The body's box and its map, beside them. -/
structure Wb (m : Xm) (bv : Value) (mo : Option Nat) (b : Nat) (w : World) : Prop where
  box : w.heap[b]? = some (bdObj bv mo)
  plc : PlacesIs m mo w
theorem Wb.set {m : Xm} {bv : Value} {mo : Option Nat} {b : Nat} {w : World} (h : Wb m bv mo b w) {g : Nat} {L : List Bool} (hg : Bools w g L) (j : Nat) (v : Value) : Wb m bv mo b (w.setCell ⟨g, j, none⟩ v) := by
  obtain ⟨c, hc, -⟩ := hg
  refine ⟨(heap_setCell_other w ⟨g, j, none⟩ b v fun e => ?_).trans h.box, h.plc.set hc j v⟩
  have hb := h.box
  have e : b = g := e
  rw [e, hc] at hb
  unfold bdObj at hb
  simp only [Option.some.injEq, Obj.cells.injEq] at hb
  exact absurd hb.2.1 (by decide)
theorem Wb.over {m : Xm} {bv : Value} {mo : Option Nat} {b : Nat} {w w' : World} (h : Wb m bv mo b w) (hb : Below w.heap.size w w') : Wb m bv mo b w' := ⟨(hb.block _ (row_lt h.box)).trans h.box, h.plc.over hb⟩
theorem Wb.sb {W : World} {m : Xm} {bv pv : Value} {mo : Option Nat} {b : Nat} {w : World} (h : Wb m bv mo b w) (hm : MacAt m pv bv W) (hl : Below W.heap.size W w) : SB m [] [] [] bv mo (.slice none 0 0) (.slice none 0 0) (.slice none 0 0) b w :=
  ⟨h.box, hm.2.over hl, h.plc, rowsX_nil _, rowsX_nil _, sits_nil _⟩
def WnRel (W : World) (m : Xm) (bv : Value) (g1 g2 : Nat) (mo : Option Nat) (b : Nat) (v : Value) (wr : World) : Prop := ∃ i : Nat, v = .int .i64 i ∧ i ≤ m.bd.length ∧ Wn W m bv g1 g2 ((List.range i).foldl (wantS m) (List.replicate m.ps.length false, List.replicate m.ps.length false)) wr ∧ Wb m bv mo b wr
theorem want_next (m : Xm) (i : Nat) (z : List Bool × List Bool) : (List.range (i + 1)).foldl (wantS m) z = wantS m ((List.range i).foldl (wantS m) z) i := by
  rw [List.range_succ, List.foldl_append]
  rfl
theorem want_step (m : Xm) {i : Nat} {z Z : List Bool × List Bool} (h : (List.range i).foldl (wantS m) z = Z) : (List.range (i + 1)).foldl (wantS m) z = if parI m i < 0 then Z else if rawI m i = true then (Z.1.set (parI m i).toNat true, Z.2) else (Z.1, Z.2.set (parI m i).toNat true) := by
  rw [want_next, h]
  rfl
def WantsPost (W : World) (m : Xm) (e : Ending) (w' : World) : Prop := ∃ g1 g2 n1 n2, e = .returned (.tuple #[.slice (some ⟨g1, 0, none⟩) n1 n1, .slice (some ⟨g2, 0, none⟩) n2 n2]) ∧ n1 = m.ps.length ∧ n2 = m.ps.length ∧ Bools w' g1 (wantsL m).1 ∧ Bools w' g2 (wantsL m).2 ∧ Below W.heap.size W w'
theorem wn_start {W X : World} {m : Xm} {bv : Value} {cz : Array Value} {o : Obj} (hX : Below W.heap.size W X) (hcz : cz.toList = List.replicate m.ps.length (.bool false)) :
    Wn W m bv (X.heap.size + 1) (X.heap.size + 1 + 1) (List.replicate m.ps.length false, List.replicate m.ps.length false) (((X.alloc o).alloc (.cells cz 4)).alloc (.cells cz 4)).drew ∧ Wn W m bv (X.heap.size + 1 + 1) (X.heap.size + 1) (List.replicate m.ps.length false, List.replicate m.ps.length false) (((X.alloc o).alloc (.cells cz 4)).alloc (.cells cz 4)).drew := by
  have hl := below_up hX (below_three X o (.cells cz 4) (.cells cz 4)).drew
  have hs := hX.size
  have hc : cz.toList = (List.replicate m.ps.length false).map Value.bool := by rw [hcz, List.map_replicate]
  have h1 : Bools (((X.alloc o).alloc (.cells cz 4)).alloc (.cells cz 4)).drew (X.heap.size + 1) (List.replicate m.ps.length false) := ⟨cz, (Below.heap_alloc _ _ _ (by simp)).trans (blk_new2 X _ _), hc⟩
  have h2 : Bools (((X.alloc o).alloc (.cells cz 4)).alloc (.cells cz 4)).drew (X.heap.size + 1 + 1) (List.replicate m.ps.length false) := ⟨cz, blk_three X _ _, hc⟩
  exact ⟨⟨h1, h2, by omega, hl, ⟨by omega, by omega⟩, by simp, by simp⟩, ⟨h2, h1, by omega, hl, ⟨by omega, by omega⟩, by simp, by simp⟩⟩

set_option maxRecDepth 100000 in
set_option maxHeartbeats 12800000 in
theorem wants_any {m : Xm} {pv bv : Value} {W : World} (h : MacAt m pv bv W) (hz : ∀ s ∈ m.ps, s.size ≤ maxLen) (hs : Szd m) (hn : m.ps.length ≤ 1000000) : Calls Try.prog 18 #[macV m pv bv] W (WantsPost W m) := by
  obtain ⟨pa, pn, pc, rfl⟩ := h.1.form
  obtain ⟨ba, bn, bc, rfl⟩ := h.2.form
  have hpn := h.1.len.1
  have hbn := h.2.len.1
  obtain ⟨cz, hcz, hmake⟩ := make_bools pn (by omega)
  have HW := Lib.hid (wn_start (W := W) (m := m) (bv := .slice ba bn bc) (o := .cells #[.string m.n, .bool m.fn, .bool m.va, .slice pa pn pc, .slice ba bn bc, .string m.g, .int .i64 m.f, .int .i64 m.t] 45) (Below.refl W.heap.size W) (by rw [hcz, hpn]))
  have HM := Lib.hid (blk_new1 W (.cells #[.string m.n, .bool m.fn, .bool m.va, .slice pa pn pc, .slice ba bn bc, .string m.g, .int .i64 m.f, .int .i64 m.t] 45) (.cells cz 4))
  have HBO : Hid (∀ X : World, Below W.heap.size W X → Calls Try.prog 30 #[macV m (.slice pa pn pc) (.slice ba bn bc)] X (BofPost X m (.slice ba bn bc))) := Lib.hid (fun X hX => bodyof_any (h.over hX) hz)
  have HPAR := Lib.hid (fun (mo : Option Nat) (b : Nat) (X : World) (hb : Wb m (.slice ba bn bc) mo b X) (hl : Below W.heap.size W X) (i : Nat) => param_any (hb.sb h hl) hs i)
  have HSR := Lib.hid (fun (mo : Option Nat) (b : Nat) (X : World) (hb : Wb m (.slice ba bn bc) mo b X) (hl : Below W.heap.size W X) (i : Nat) (hi : i < m.bd.length) => sraw_any (hb.sb h hl) hs hi)
  have HPN := Lib.hid hpn
  have HBN := Lib.hid hbn
  have hb5 : bn ≤ 100000 := by rw [hbn]; exact hs.1
  unfold BofPost at HBO
  unfold macV at *
  clear hpn hbn h hz hs hn hcz
  go_enter Try.func18, Try.ntmps18
  go_wp2
  go_region
  · obtain ⟨g1, hg1⟩ : ∃ g, W.heap.size + 1 = g := ⟨_, rfl⟩
    obtain ⟨g2, hg2⟩ : ∃ g, W.heap.size + 1 + 1 = g := ⟨_, rfl⟩
    have hw := HW.out.1
    have hmc : ((((W.alloc (.cells #[.string m.n, .bool m.fn, .bool m.va, .slice pa pn pc, .slice ba bn bc, .string m.g, .int .i64 m.f, .int .i64 m.t] 45)).alloc (.cells cz 4)).alloc (.cells cz 4)).drew).heap[W.heap.size]? = some (.cells #[.string m.n, .bool m.fn, .bool m.va, .slice pa pn pc, .slice ba bn bc, .string m.g, .int .i64 m.f, .int .i64 m.t] 45 (0, 0)) := (Below.heap_alloc _ _ _ (by simp; omega)).trans HM.out
    rw [hg2, hg1] at hw
    rw [hg2, hg1]
    obtain ⟨W2, hW2⟩ : ∃ X, (((W.alloc (.cells #[.string m.n, .bool m.fn, .bool m.va, .slice pa pn pc, .slice ba bn bc, .string m.g, .int .i64 m.f, .int .i64 m.t] 45)).alloc (.cells cz 4)).alloc (.cells cz 4)).drew = X := ⟨_, rfl⟩
    rw [hW2] at hw hmc ⊢
    clear hW2 hg1 hg2 HM HW hmake
    obtain ⟨c0, c1, c2, c3, c4, c5, c6, c7⟩ := cells8 hmc
    have HWN := Lib.hid hw
    have HMC := Lib.hid hmc
    clear hw hmc
    go_wp2_with (go_at_call 30; (with_reducible refine (HBO.out _ HWN.out.low).mono ?_); rintro e w1 ⟨mo, rfl, hmo, hb1⟩; have hmc1 := (hb1.block _ (row_lt HMC.out)).trans HMC.out; (obtain ⟨-, -, -, -, d4, -, -, -⟩ := cells8 hmc1); have hlt1 := row_lt hmc1; have hal := (Below.refl w1.heap.size w1).alloc (Nat.le_refl _) (.cells #[.slice ba bn bc, .map mo, .slice none 0 0, .slice none 0 0, .slice none 0 0] 76); have HWN1 := Lib.hid ((HWN.out.over hb1).over hal); have HWB1 : Hid (Wb m (.slice ba bn bc) mo w1.heap.size (w1.alloc (.cells #[.slice ba bn bc, .map mo, .slice none 0 0, .slice none 0 0, .slice none 0 0] 76))) := Lib.hid ⟨heap_alloc_new w1 _, hmo.over hal⟩; clear hmo hb1 hmc1 hal c0 c1 c2 c3 c4 c5 c6 c7)
    have HST : Hid (WnRel W m (.slice ba bn bc) g1 g2 mo w1.heap.size (.int .i64 0) (w1.alloc (.cells #[.slice ba bn bc, .map mo, .slice none 0 0, .slice none 0 0, .slice none 0 0] 76))) := Lib.hid ⟨0, rfl, Nat.zero_le _, HWN1.out, HWB1.out⟩
    obtain ⟨W5, hW5⟩ : ∃ X, w1.alloc (.cells #[.slice ba bn bc, .map mo, .slice none 0 0, .slice none 0 0, .slice none 0 0] 76) = X := ⟨_, rfl⟩
    obtain ⟨b, hb⟩ : ∃ b, w1.heap.size = b := ⟨_, rfl⟩
    rw [hW5, hb] at HST
    rw [hW5, hb]
    clear hW5 hb HWN1 HWB1 HWN HMC d4 hlt1 HBO
    go_loopw [20] (fun i wr => WnRel W m (.slice ba bn bc) g1 g2 mo b i wr) (fun i _ => bn - (intOf i).toNat)
    case atStart => exact HST.out
    case round =>
      obtain ⟨i, rfl, hi, hN, hB⟩ := hrel
      by_cases hlt : i < bn
      · have hilt : i < m.bd.length := by rw [← HBN.out]; exact hlt
        obtain ⟨z, hz⟩ : ∃ z, (List.range i).foldl (wantS m) (List.replicate m.ps.length false, List.replicate m.ps.length false) = z := ⟨_, rfl⟩
        have HNX := Lib.hid (want_step m hz)
        rw [hz] at hN
        have HPA := Lib.hid (HPAR.out mo b wr hB hN.low i)
        have HSA := Lib.hid (fun (X : World) (hX : Below wr.heap.size wr X) => HSR.out mo b X (hB.over hX) (hN.over hX).low i hilt)
        have HLT : Hid (i + 1 ≤ m.bd.length) := Lib.hid hilt
        have HN := Lib.hid hN
        have HB := Lib.hid hB
        have hiI : (i : Int) < (bn : Int) := by omega
        have hpl := par_lt (m := m) (i := i)
        obtain ⟨K, hK⟩ : ∃ K, parI m i = K := ⟨_, rfl⟩
        obtain ⟨R, hR⟩ : ∃ R, rawI m i = R := ⟨_, rfl⟩
        rw [hK] at HPA HNX hpl
        rw [hR] at HSA HNX
        clear hz hN hB hK hR hilt hi
        by_cases hneg : K < 0
        · rw [if_pos hneg] at HNX
          clear hpl
          go_wp2_with (go_at_call 36; (with_reducible refine HPA.out.mono ?_); rintro e w2 ⟨rfl, hb2⟩; have HN2 := Lib.hid (HN.out.over hb2); have HB2 := Lib.hid (HB.out.over hb2); clear hb2)
          go_roundw
          case rel => exact ⟨i + 1, by go_num, HLT.out, by rw [HNX.out]; exact HN2.out, HB2.out⟩
          case measure => simp [intOf]; omega
        · rw [if_neg hneg] at HNX
          obtain ⟨q, rfl⟩ : ∃ q : Nat, K = (q : Int) := ⟨K.toNat, by omega⟩
          rw [show ((q : Int)).toNat = q from rfl] at HNX hpl
          have hq := hpl (by omega)
          have hqI : (q : Int) < (pn : Int) := by rw [HPN.out]; omega
          have hq0 : (0 : Int) ≤ (q : Int) := by omega
          have hqn : q < pn := by rw [HPN.out]; exact hq
          have HQ := Lib.hid hq
          clear hpl hq
          cases R with
          | true =>
            go_wp2_with (first
              | (go_at_call 36; (with_reducible refine HPA.out.mono ?_); rintro e w2 ⟨rfl, hb2⟩; have HB12 := Lib.hid hb2; clear hb2)
              | (go_at_call 37; (with_reducible refine (HSA.out _ HB12.out).mono ?_); rintro e w3 ⟨rfl, hb3⟩; have HN3 := Lib.hid (HN.out.over (below_up HB12.out hb3)); have HB3 := Lib.hid (HB.out.over (below_up HB12.out hb3)); (obtain ⟨k0, k1⟩ := HN3.out.raw.at (k := q) (List.getElem?_eq_getElem (by rw [HN3.out.l1]; exact HQ.out))); clear hb3))
            go_roundw
            case rel => exact ⟨i + 1, by go_num, HLT.out, by rw [HNX.out]; exact HN3.out.set1 q, HB3.out.set HN3.out.raw q _⟩
            case measure => simp [intOf]; omega
          | false =>
            go_wp2_with (first
              | (go_at_call 36; (with_reducible refine HPA.out.mono ?_); rintro e w2 ⟨rfl, hb2⟩; have HB12 := Lib.hid hb2; clear hb2)
              | (go_at_call 37; (with_reducible refine (HSA.out _ HB12.out).mono ?_); rintro e w3 ⟨rfl, hb3⟩; have HN3 := Lib.hid (HN.out.over (below_up HB12.out hb3)); have HB3 := Lib.hid (HB.out.over (below_up HB12.out hb3)); (obtain ⟨k0, k1⟩ := HN3.out.full.at (k := q) (List.getElem?_eq_getElem (by rw [HN3.out.l2]; exact HQ.out))); clear hb3))
            go_roundw
            case rel => exact ⟨i + 1, by go_num, HLT.out, by rw [HNX.out]; exact HN3.out.set2 q, HB3.out.set HN3.out.full q _⟩
            case measure => simp [intOf]; omega
      · have hiI : ¬ (i : Int) < (bn : Int) := by omega
        obtain rfl : i = m.bd.length := by have := HBN.out; omega
        have HF : Hid (WantsPost W m (.returned (.tuple #[.slice (some ⟨g1, 0, none⟩) pn pn, .slice (some ⟨g2, 0, none⟩) pn pn])) wr) := Lib.hid ⟨g1, g2, pn, pn, rfl, HPN.out, HPN.out, hN.raw, hN.full, hN.low⟩
        clear hN hB
        go_wp2
        exact bodyPost_ret (v := .tuple #[.slice (some ⟨g1, 0, none⟩) pn pn, .slice (some ⟨g2, 0, none⟩) pn pn]) (by simp [results, Try.results18, go_sem]) rfl HF.out
  · obtain ⟨g1, hg1⟩ : ∃ g, W.heap.size + 1 + 1 = g := ⟨_, rfl⟩
    obtain ⟨g2, hg2⟩ : ∃ g, W.heap.size + 1 = g := ⟨_, rfl⟩
    have hw := HW.out.2
    have hmc : ((((W.alloc (.cells #[.string m.n, .bool m.fn, .bool m.va, .slice pa pn pc, .slice ba bn bc, .string m.g, .int .i64 m.f, .int .i64 m.t] 45)).alloc (.cells cz 4)).alloc (.cells cz 4)).drew).heap[W.heap.size]? = some (.cells #[.string m.n, .bool m.fn, .bool m.va, .slice pa pn pc, .slice ba bn bc, .string m.g, .int .i64 m.f, .int .i64 m.t] 45 (0, 0)) := (Below.heap_alloc _ _ _ (by simp; omega)).trans HM.out
    rw [hg1, hg2] at hw
    rw [hg1, hg2]
    obtain ⟨W2, hW2⟩ : ∃ X, (((W.alloc (.cells #[.string m.n, .bool m.fn, .bool m.va, .slice pa pn pc, .slice ba bn bc, .string m.g, .int .i64 m.f, .int .i64 m.t] 45)).alloc (.cells cz 4)).alloc (.cells cz 4)).drew = X := ⟨_, rfl⟩
    rw [hW2] at hw hmc ⊢
    clear hW2 hg1 hg2 HM HW hmake
    obtain ⟨c0, c1, c2, c3, c4, c5, c6, c7⟩ := cells8 hmc
    have HWN := Lib.hid hw
    have HMC := Lib.hid hmc
    clear hw hmc
    go_wp2_with (go_at_call 30; (with_reducible refine (HBO.out _ HWN.out.low).mono ?_); rintro e w1 ⟨mo, rfl, hmo, hb1⟩; have hmc1 := (hb1.block _ (row_lt HMC.out)).trans HMC.out; (obtain ⟨-, -, -, -, d4, -, -, -⟩ := cells8 hmc1); have hlt1 := row_lt hmc1; have hal := (Below.refl w1.heap.size w1).alloc (Nat.le_refl _) (.cells #[.slice ba bn bc, .map mo, .slice none 0 0, .slice none 0 0, .slice none 0 0] 76); have HWN1 := Lib.hid ((HWN.out.over hb1).over hal); have HWB1 : Hid (Wb m (.slice ba bn bc) mo w1.heap.size (w1.alloc (.cells #[.slice ba bn bc, .map mo, .slice none 0 0, .slice none 0 0, .slice none 0 0] 76))) := Lib.hid ⟨heap_alloc_new w1 _, hmo.over hal⟩; clear hmo hb1 hmc1 hal c0 c1 c2 c3 c4 c5 c6 c7)
    have HST : Hid (WnRel W m (.slice ba bn bc) g1 g2 mo w1.heap.size (.int .i64 0) (w1.alloc (.cells #[.slice ba bn bc, .map mo, .slice none 0 0, .slice none 0 0, .slice none 0 0] 76))) := Lib.hid ⟨0, rfl, Nat.zero_le _, HWN1.out, HWB1.out⟩
    obtain ⟨W5, hW5⟩ : ∃ X, w1.alloc (.cells #[.slice ba bn bc, .map mo, .slice none 0 0, .slice none 0 0, .slice none 0 0] 76) = X := ⟨_, rfl⟩
    obtain ⟨b, hb⟩ : ∃ b, w1.heap.size = b := ⟨_, rfl⟩
    rw [hW5, hb] at HST
    rw [hW5, hb]
    clear hW5 hb HWN1 HWB1 HWN HMC d4 hlt1 HBO
    go_loopw [20] (fun i wr => WnRel W m (.slice ba bn bc) g1 g2 mo b i wr) (fun i _ => bn - (intOf i).toNat)
    case atStart => exact HST.out
    case round =>
      obtain ⟨i, rfl, hi, hN, hB⟩ := hrel
      by_cases hlt : i < bn
      · have hilt : i < m.bd.length := by rw [← HBN.out]; exact hlt
        obtain ⟨z, hz⟩ : ∃ z, (List.range i).foldl (wantS m) (List.replicate m.ps.length false, List.replicate m.ps.length false) = z := ⟨_, rfl⟩
        have HNX := Lib.hid (want_step m hz)
        rw [hz] at hN
        have HPA := Lib.hid (HPAR.out mo b wr hB hN.low i)
        have HSA := Lib.hid (fun (X : World) (hX : Below wr.heap.size wr X) => HSR.out mo b X (hB.over hX) (hN.over hX).low i hilt)
        have HLT : Hid (i + 1 ≤ m.bd.length) := Lib.hid hilt
        have HN := Lib.hid hN
        have HB := Lib.hid hB
        have hiI : (i : Int) < (bn : Int) := by omega
        have hpl := par_lt (m := m) (i := i)
        obtain ⟨K, hK⟩ : ∃ K, parI m i = K := ⟨_, rfl⟩
        obtain ⟨R, hR⟩ : ∃ R, rawI m i = R := ⟨_, rfl⟩
        rw [hK] at HPA HNX hpl
        rw [hR] at HSA HNX
        clear hz hN hB hK hR hilt hi
        by_cases hneg : K < 0
        · rw [if_pos hneg] at HNX
          clear hpl
          go_wp2_with (go_at_call 36; (with_reducible refine HPA.out.mono ?_); rintro e w2 ⟨rfl, hb2⟩; have HN2 := Lib.hid (HN.out.over hb2); have HB2 := Lib.hid (HB.out.over hb2); clear hb2)
          go_roundw
          case rel => exact ⟨i + 1, by go_num, HLT.out, by rw [HNX.out]; exact HN2.out, HB2.out⟩
          case measure => simp [intOf]; omega
        · rw [if_neg hneg] at HNX
          obtain ⟨q, rfl⟩ : ∃ q : Nat, K = (q : Int) := ⟨K.toNat, by omega⟩
          rw [show ((q : Int)).toNat = q from rfl] at HNX hpl
          have hq := hpl (by omega)
          have hqI : (q : Int) < (pn : Int) := by rw [HPN.out]; omega
          have hq0 : (0 : Int) ≤ (q : Int) := by omega
          have hqn : q < pn := by rw [HPN.out]; exact hq
          have HQ := Lib.hid hq
          clear hpl hq
          cases R with
          | true =>
            go_wp2_with (first
              | (go_at_call 36; (with_reducible refine HPA.out.mono ?_); rintro e w2 ⟨rfl, hb2⟩; have HB12 := Lib.hid hb2; clear hb2)
              | (go_at_call 37; (with_reducible refine (HSA.out _ HB12.out).mono ?_); rintro e w3 ⟨rfl, hb3⟩; have HN3 := Lib.hid (HN.out.over (below_up HB12.out hb3)); have HB3 := Lib.hid (HB.out.over (below_up HB12.out hb3)); (obtain ⟨k0, k1⟩ := HN3.out.raw.at (k := q) (List.getElem?_eq_getElem (by rw [HN3.out.l1]; exact HQ.out))); clear hb3))
            go_roundw
            case rel => exact ⟨i + 1, by go_num, HLT.out, by rw [HNX.out]; exact HN3.out.set1 q, HB3.out.set HN3.out.raw q _⟩
            case measure => simp [intOf]; omega
          | false =>
            go_wp2_with (first
              | (go_at_call 36; (with_reducible refine HPA.out.mono ?_); rintro e w2 ⟨rfl, hb2⟩; have HB12 := Lib.hid hb2; clear hb2)
              | (go_at_call 37; (with_reducible refine (HSA.out _ HB12.out).mono ?_); rintro e w3 ⟨rfl, hb3⟩; have HN3 := Lib.hid (HN.out.over (below_up HB12.out hb3)); have HB3 := Lib.hid (HB.out.over (below_up HB12.out hb3)); (obtain ⟨k0, k1⟩ := HN3.out.full.at (k := q) (List.getElem?_eq_getElem (by rw [HN3.out.l2]; exact HQ.out))); clear hb3))
            go_roundw
            case rel => exact ⟨i + 1, by go_num, HLT.out, by rw [HNX.out]; exact HN3.out.set2 q, HB3.out.set HN3.out.full q _⟩
            case measure => simp [intOf]; omega
      · have hiI : ¬ (i : Int) < (bn : Int) := by omega
        obtain rfl : i = m.bd.length := by have := HBN.out; omega
        have HF : Hid (WantsPost W m (.returned (.tuple #[.slice (some ⟨g1, 0, none⟩) pn pn, .slice (some ⟨g2, 0, none⟩) pn pn])) wr) := Lib.hid ⟨g1, g2, pn, pn, rfl, HPN.out, HPN.out, hN.raw, hN.full, hN.low⟩
        clear hN hB
        go_wp2
        exact bodyPost_ret (v := .tuple #[.slice (some ⟨g1, 0, none⟩) pn pn, .slice (some ⟨g2, 0, none⟩) pn pn]) (by simp [results, Try.results18, go_sem]) rfl HF.out

end Go.Proofs.Ytobplffailbkbaa
