/-
  Texts of the proof, put together: LxM, LxQ.
-/
import Derived.Test.YtobplffailbkbaaG03

/-
  The walk of the project, in memory: one block, and what turns in it.
-/
namespace Go.Proofs.Ytobplffailbkbaa
open Go.RowKit

/-- What the walk's block holds. -/
structure WC where
  F : ByteArray
  sz : Nat
  rv : Value
  ch : ByteArray
  i : Nat
  st : Nat
  bg : Nat
  fr : Nat
  sp : Bool
  tv : Value
  lv : Value
  dv : Value
  u0 : Nat
  u1 : Nat

def WC.cells (c : WC) : Array Value := #[.string c.F, .int .i64 (c.sz : Int), c.rv, .string c.ch, .int .i64 (c.i : Int), .int .i64 (c.st : Int), .int .i64 (c.bg : Int), .int .i64 (c.fr : Int), .bool c.sp, c.tv, c.lv, c.dv, .int .i64 (c.u0 : Int), .int .i64 (c.u1 : Int)]

def WAt (g : Nat) (c : WC) (w : World) : Prop := w.heap[g]? = some (.cells c.cells 111 (0, 0))

/-- From w to w' that block alone has turned. -/
structure Step (g : Nat) (c c' : WC) (w w' : World) : Prop where
  os : w'.os = w.os
  tape : w'.tape = w.tape
  output : w'.output = w.output
  size : w'.heap.size = w.heap.size
  block : ∀ k, k ≠ g → w'.heap[k]? = w.heap[k]?
  was : WAt g c w
  is : WAt g c' w'

theorem Step.refl {g : Nat} {c : WC} {w : World} (h : WAt g c w) : Step g c c w w := ⟨rfl, rfl, rfl, rfl, fun _ _ => rfl, h, h⟩
theorem Step.trans {g : Nat} {c c' c2 : WC} {w w' w2 : World} (h : Step g c c' w w') (k : Step g c' c2 w' w2) : Step g c c2 w w2 :=
  ⟨k.os.trans h.os, k.tape.trans h.tape, k.output.trans h.output, k.size.trans h.size, fun j hj => (k.block j hj).trans (h.block j hj), h.was, k.is⟩
theorem Step.drewN {g : Nat} {c c' : WC} {w w' : World} (h : Step g c c' w w') (n : Nat) : Step g c c' w (w'.drewN n) := ⟨h.os, h.tape, h.output, h.size, h.block, h.was, h.is⟩
theorem Step.set {g : Nat} {c c' : WC} {w w' : World} (h : Step g c c' w w') (k : Nat) (v : Value) (c2 : WC) (he : c2.cells = c'.cells.setIfInBounds k v) : Step g c c2 w (w'.setCell ⟨g, k, none⟩ v) := by
  refine ⟨h.os, h.tape, h.output, ?_, fun j hj => ?_, h.was, ?_⟩
  · rw [← h.size]
    simp [World.setCell]
  · rw [heap_setCell_other w' ⟨g, k, none⟩ j v hj]
    exact h.block j hj
  · unfold WAt
    rw [heap_setCell_same w' g k _ _ v h.is, he]

theorem WAt.cell {g : Nat} {c : WC} {w : World} (h : WAt g c w) (k : Nat) (v : Value) (hv : c.cells[k]? = some v) : w.cell? ⟨g, k, none⟩ = some v := by
  rw [Lib.cell_of_heap h]
  exact hv
theorem WAt.k0 {g : Nat} {c : WC} {w : World} (h : WAt g c w) : w.cell? ⟨g, 0, none⟩ = some (.string c.F) := h.cell 0 _ rfl
theorem WAt.k1 {g : Nat} {c : WC} {w : World} (h : WAt g c w) : w.cell? ⟨g, 1, none⟩ = some (.int .i64 (c.sz : Int)) := h.cell 1 _ rfl
theorem WAt.k2 {g : Nat} {c : WC} {w : World} (h : WAt g c w) : w.cell? ⟨g, 2, none⟩ = some (c.rv) := h.cell 2 _ rfl
theorem WAt.k3 {g : Nat} {c : WC} {w : World} (h : WAt g c w) : w.cell? ⟨g, 3, none⟩ = some (.string c.ch) := h.cell 3 _ rfl
theorem WAt.k4 {g : Nat} {c : WC} {w : World} (h : WAt g c w) : w.cell? ⟨g, 4, none⟩ = some (.int .i64 (c.i : Int)) := h.cell 4 _ rfl
theorem WAt.k5 {g : Nat} {c : WC} {w : World} (h : WAt g c w) : w.cell? ⟨g, 5, none⟩ = some (.int .i64 (c.st : Int)) := h.cell 5 _ rfl
theorem WAt.k6 {g : Nat} {c : WC} {w : World} (h : WAt g c w) : w.cell? ⟨g, 6, none⟩ = some (.int .i64 (c.bg : Int)) := h.cell 6 _ rfl
theorem WAt.k7 {g : Nat} {c : WC} {w : World} (h : WAt g c w) : w.cell? ⟨g, 7, none⟩ = some (.int .i64 (c.fr : Int)) := h.cell 7 _ rfl
theorem WAt.k8 {g : Nat} {c : WC} {w : World} (h : WAt g c w) : w.cell? ⟨g, 8, none⟩ = some (.bool c.sp) := h.cell 8 _ rfl
theorem WAt.k9 {g : Nat} {c : WC} {w : World} (h : WAt g c w) : w.cell? ⟨g, 9, none⟩ = some (c.tv) := h.cell 9 _ rfl
theorem WAt.k10 {g : Nat} {c : WC} {w : World} (h : WAt g c w) : w.cell? ⟨g, 10, none⟩ = some (c.lv) := h.cell 10 _ rfl
theorem WAt.k11 {g : Nat} {c : WC} {w : World} (h : WAt g c w) : w.cell? ⟨g, 11, none⟩ = some (c.dv) := h.cell 11 _ rfl
theorem WAt.k12 {g : Nat} {c : WC} {w : World} (h : WAt g c w) : w.cell? ⟨g, 12, none⟩ = some (.int .i64 (c.u0 : Int)) := h.cell 12 _ rfl
theorem WAt.k13 {g : Nat} {c : WC} {w : World} (h : WAt g c w) : w.cell? ⟨g, 13, none⟩ = some (.int .i64 (c.u1 : Int)) := h.cell 13 _ rfl
theorem WAt.free {g : Nat} {c : WC} {w : World} (h : WAt g c w) (k : Nat) : w.frozen? ⟨g, k, none⟩ = false := frozen_of_row w g k _ _ h
theorem WAt.drewN {g : Nat} {c : WC} {w : World} (h : WAt g c w) (n : Nat) : WAt g c (w.drewN n) := h

/-- From i on to u no q has an end. -/
def Un (l : List UInt8) (i : Nat) (q : UInt8) (u : Nat) : Prop := ∀ p, i ≤ p → p < u → l.getD p 0 = q → qN q false (l.drop (p + 1)) = none
theorem Un.mono {l : List UInt8} {i j : Nat} {q : UInt8} {u : Nat} (h : Un l i q u) (hj : i ≤ j) : Un l j q u := fun p h1 h2 => h p (Nat.le_trans hj h1) h2
theorem Un.zero (l : List UInt8) (i : Nat) (q : UInt8) : Un l i q 0 := fun p _ h => absurd h (Nat.not_lt_zero p)

/-- The walk over what a quote has behind it. -/
def Past (l : List UInt8) (q : UInt8) (p k : Nat) (t : Bool) : Prop :=
  p < k ∧ k < l.length ∧ (∀ j, p ≤ j → j < k → l.getD j 0 = q → qN q t (l.drop k) = none → qN q false (l.drop (j + 1)) = none) ∧
  qN q false (l.drop (p + 1)) = (qN q t (l.drop k)).map (· + (k - (p + 1)))

theorem qN_step {l : List UInt8} {k : Nat} (q : UInt8) (t : Bool) (hk : k < l.length) : qN q t (l.drop k) = if l.getD k 0 = 10 then none else if t then (qN q false (l.drop (k + 1))).map (· + 1) else if l.getD k 0 = 92 then (qN q true (l.drop (k + 1))).map (· + 1) else if l.getD k 0 = q then some 1 else (qN q false (l.drop (k + 1))).map (· + 1) := by
  rw [drop_cons hk]
  rfl

theorem Past.start {l : List UInt8} {q : UInt8} {p : Nat} (hN : Nl l) (hp : p < l.length) (hq : l.getD p 0 = q) (h10 : q ≠ 10) : Past l q p (p + 1) false := by
  have : p ≠ l.length - 1 := by
    intro e
    rw [e, hN.2] at hq
    exact h10 hq.symm
  refine ⟨by omega, by omega, fun j h1 h2 _ hn => ?_, by simp⟩
  obtain rfl : j = p := by omega
  exact hn

theorem Past.next {l : List UInt8} {q : UInt8} {p k : Nat} {t t' : Bool} (h : Past l q p k t) (hN : Nl l) (h10 : l.getD k 0 ≠ 10) (he : qN q t (l.drop k) = (qN q t' (l.drop (k + 1))).map (· + 1)) (ht : l.getD k 0 = q → t' = false) : Past l q p (k + 1) t' := by
  obtain ⟨h1, h2, h3, h4⟩ := h
  have hk : k ≠ l.length - 1 := by
    intro e
    rw [e] at h10
    exact h10 hN.2
  refine ⟨by omega, by omega, fun j j1 j2 jq jn => ?_, ?_⟩
  · by_cases e : j = k
    · subst e
      rw [ht jq] at jn
      exact jn
    · refine h3 j j1 (by omega) jq ?_
      rw [he, jn]
      rfl
  · rw [h4, he, Option.map_map]
    congr 1
    funext n
    simp
    omega

theorem Past.taken {l : List UInt8} {q : UInt8} {p k : Nat} (h : Past l q p k true) (hN : Nl l) (h10 : l.getD k 0 ≠ 10) : Past l q p (k + 1) false := by
  refine h.next hN h10 ?_ fun _ => rfl
  rw [qN_step q true h.2.1, if_neg h10, if_pos rfl]
theorem Past.slash {l : List UInt8} {q : UInt8} {p k : Nat} (h : Past l q p k false) (hN : Nl l) (h92 : l.getD k 0 = 92) (hq : q ≠ 92) : Past l q p (k + 1) true := by
  refine h.next hN (by rw [h92]; decide) ?_ fun e => absurd (e.symm.trans h92) hq
  rw [qN_step q false h.2.1, if_neg (by rw [h92]; decide), if_neg (by simp), if_pos h92]
theorem Past.other {l : List UInt8} {q : UInt8} {p k : Nat} (h : Past l q p k false) (hN : Nl l) (h10 : l.getD k 0 ≠ 10) (h92 : l.getD k 0 ≠ 92) (hq : l.getD k 0 ≠ q) : Past l q p (k + 1) false := by
  refine h.next hN h10 ?_ fun e => absurd e hq
  rw [qN_step q false h.2.1, if_neg h10, if_neg (by simp), if_neg h92, if_neg hq]

/-- Where a quote ends, by its place. -/
def qEnd (l : List UInt8) (q : UInt8) (p : Nat) : Nat := match qN q false (l.drop (p + 1)) with
  | some n => p + 1 + n
  | none => 0

theorem Past.found {l : List UInt8} {q : UInt8} {p k : Nat} (h : Past l q p k false) (h10 : l.getD k 0 ≠ 10) (h92 : l.getD k 0 ≠ 92) (hq : l.getD k 0 = q) : qEnd l q p = k + 1 := by
  have h4 := h.2.2.2
  rw [qN_step q false h.2.1, if_neg h10, if_neg (by simp), if_neg h92, if_pos hq] at h4
  unfold qEnd
  rw [h4]
  have := h.1
  simp
  omega
theorem Past.no {l : List UInt8} {q : UInt8} {p k : Nat} {t : Bool} (h : Past l q p k t) (h10 : l.getD k 0 = 10) : qEnd l q p = 0 ∧ Un l p q k := by
  have hn : qN q t (l.drop k) = none := by rw [qN_step q t h.2.1, if_pos h10]
  have h4 := h.2.2.2
  rw [hn] at h4
  refine ⟨?_, fun j h1 h2 h3 => h.2.2.1 j h1 h2 h3 hn⟩
  unfold qEnd
  rw [h4]
  rfl

theorem Un.low {l : List UInt8} {i p : Nat} {q : UInt8} {u : Nat} (h : Un l p q u) (hw : ∀ j, i ≤ j → j < p → l.getD j 0 ≠ q) : Un l i q u := by
  intro j h1 h2 h3
  rcases Nat.lt_or_ge j p with h4 | h4
  · exact absurd h3 (hw j h1 h4)
  · exact h j h4 h2 h3

theorem Un.none {l : List UInt8} {i p : Nat} {q : UInt8} {u : Nat} (h : Un l i q u) (hi : i ≤ p) (hu : p < u) (hq : l.getD p 0 = q) : qEnd l q p = 0 := by
  unfold qEnd
  rw [h p hi hu hq]

def closedPost (g : Nat) (c : WC) (r : Nat) (w : World) (e : Ending) (w' : World) : Prop :=
  e = .returned (.int .i64 (r : Int)) ∧ ∃ u0 u1, Step g c { c with u0 := u0, u1 := u1 } w w' ∧ Un c.ch.data.toList c.i 34 u0 ∧ Un c.ch.data.toList c.i 39 u1

end Go.Proofs.Ytobplffailbkbaa

/-
  A quote's end, of the project, walked.
-/
namespace Go.Proofs.Ytobplffailbkbaa
open Go.RowKit

set_option maxRecDepth 100000 in
set_option maxHeartbeats 3200000 in
theorem closed0_any {g : Nat} {c : WC} {w : World} (h : WAt g c w) (p : Nat) (hs : c.ch.size ≤ 1000000) (hN : Nl c.ch.data.toList) (hip : c.i ≤ p) (hq : c.ch.data.toList.getD p 0 = 34) (hw : ∀ j, c.i ≤ j → j < p → c.ch.data.toList.getD j 0 ≠ 34) (hu0 : Un c.ch.data.toList c.i 34 c.u0) (hu1 : Un c.ch.data.toList c.i 39 c.u1) :
    Calls Try.prog 90 #[.pointer (some ⟨g, 0, none⟩), .int .i64 (p : Int), .int .i64 0] w (closedPost g c (qEnd c.ch.data.toList 34 p) w) := by
  have hp : p < c.ch.size := by
    have := getD_lt (l := c.ch.data.toList) (i := p) (by rw [hq]; decide)
    rw [len_byte] at this
    exact this
  have c3 := h.k3
  have cu := h.k12
  have fu := h.free 12
  have HA := Lib.hid h
  have HN := Lib.hid hN
  have HQ := Lib.hid hq
  have HW := Lib.hid hw
  have HU0 := Lib.hid hu0
  have HU1 := Lib.hid hu1
  have HLN := Lib.hid (len_byte c.ch)
  clear h hN hq hw hu0 hu1
  have hpi : (p : Int) < (c.ch.size : Int) := by omega
  have hp0 : (0 : Int) ≤ (p : Int) := by omega
  by_cases hlt : p < c.u0
  · have hlti : (p : Int) < (c.u0 : Int) := by omega
    go_enter Try.func90, Try.ntmps90
    go_wp2
    go_ret
    rw [(HU0.out).none hip hlt HQ.out]
    exact ⟨rfl, c.u0, c.u1, Step.refl HA.out, HU0.out, HU1.out⟩
  · have hlti : ¬ (p : Int) < (c.u0 : Int) := by omega
    have HGP := Lib.hid (show c.ch[p] = 34 from by rw [← get_byte c.ch p hp]; exact HQ.out)
    have hbp : ((c.ch[p].toNat : Nat) : Int) = 34 := by rw [HGP.out]; rfl
    go_enter Try.func90, Try.ntmps90
    go_wp2
    go_loopw [7, 8] (fun t i w' => ∃ (tk : Bool) (k n : Nat), t = .bool tk ∧ i = .int .i64 (k : Int) ∧ Past c.ch.data.toList 34 p k tk ∧ w' = w.drewN n) (fun _ i _ => c.ch.size - (intOf i).toNat)
    case atStart => exact ⟨false, p + 1, 0, rfl, by go_num, Past.start HN.out (by rw [HLN.out]; exact hp) HQ.out (by decide), rfl⟩
    case round =>
      obtain ⟨tk, k, n, rfl, rfl, hpast, hwr⟩ := hrel
      have hk : k < c.ch.size := by have := hpast.2.1; rw [HLN.out] at this; exact this
      have hki : (k : Int) < (c.ch.size : Int) := by omega
      have hk0 : (0 : Int) ≤ (k : Int) := by omega
      have c3 : wr.cell? ⟨g, 3, none⟩ = some (.string c.ch) := by rw [hwr]; exact c3
      have fu : wr.frozen? ⟨g, 12, none⟩ = false := by rw [hwr]; exact fu
      have cu : wr.cell? ⟨g, 12, none⟩ = some (.int .i64 (c.u0 : Int)) := by rw [hwr]; exact cu
      have HP := Lib.hid hpast
      have HWR := Lib.hid hwr
      have HG := Lib.hid (get_byte c.ch k hk)
      clear hpast hwr
      by_cases h10 : c.ch[k] = 10
      · have hb : (((c.ch[k].toNat : Nat) : Int) == 10) = true := by rw [h10]; rfl
        have hb2 : (((c.ch[k].toNat : Nat) : Int) != 10) = false := by rw [h10]; rfl
        have HX := Lib.hid (HP.out.no (by rw [HG.out]; exact h10))
        clear h10
        go_wp2
        go_ret
        rw [HX.out.1]
        refine ⟨rfl, k, c.u1, ?_, (HX.out.2).low HW.out, HU1.out⟩
        rw [HWR.out]
        exact ((Step.refl HA.out).drewN n).set 12 _ _ rfl
      · have hb : (((c.ch[k].toNat : Nat) : Int) == 10) = false := byte_neB (n := 10) (by omega) h10
        have hb2 : (((c.ch[k].toNat : Nat) : Int) != 10) = true := by rw [bne, hb]; rfl
        have H10 := Lib.hid (show c.ch.data.toList.getD k 0 ≠ 10 from by rw [HG.out]; exact h10)
        clear h10
        cases tk with
        | true =>
          go_wp2
          go_roundw
          case rel => exact ⟨false, k + 1, n, rfl, by go_num, HP.out.taken HN.out H10.out, HWR.out⟩
          case measure => simp [intOf]; omega
        | false =>
          by_cases h92 : c.ch[k] = 92
          · have hb3 : (((c.ch[k].toNat : Nat) : Int) == 92) = true := by rw [h92]; rfl
            have H92 := Lib.hid (show c.ch.data.toList.getD k 0 = 92 from by rw [HG.out]; exact h92)
            clear h92
            go_wp2
            go_roundw
            case rel => exact ⟨true, k + 1, n, rfl, by go_num, HP.out.slash HN.out H92.out (by decide), HWR.out⟩
            case measure => simp [intOf]; omega
          · have hb3 : (((c.ch[k].toNat : Nat) : Int) == 92) = false := byte_neB (n := 92) (by omega) h92
            have H92 := Lib.hid (show c.ch.data.toList.getD k 0 ≠ 92 from by rw [HG.out]; exact h92)
            clear h92
            by_cases hq : c.ch[k] = 34
            · have hb4 : (((c.ch[k].toNat : Nat) : Int) == 34) = true := by rw [hq]; rfl
              have HX := Lib.hid (HP.out.found H10.out H92.out (by rw [HG.out]; exact hq))
              clear hq
              go_wp2
              go_quiet (fail)
              go_wp2
              go_ret
              rw [HX.out]
              refine ⟨ret_nat rfl, c.u0, c.u1, ?_, HU0.out, HU1.out⟩
              rw [HWR.out]
              exact ((Step.refl HA.out).drewN n).drewN _
            · have hb4 : (((c.ch[k].toNat : Nat) : Int) == 34) = false := byte_neB (n := 34) (by omega) hq
              have HX := Lib.hid (show c.ch.data.toList.getD k 0 ≠ 34 from by rw [HG.out]; exact hq)
              clear hq
              go_wp2
              go_quiet (fail)
              go_wp2
              go_roundw
              case rel => exact ⟨false, k + 1, _, rfl, by go_num, HP.out.other HN.out H10.out H92.out HX.out, by rw [HWR.out, World.drewN_drewN]⟩
              case measure => simp [intOf]; omega

set_option maxRecDepth 100000 in
set_option maxHeartbeats 3200000 in
theorem closed1_any {g : Nat} {c : WC} {w : World} (h : WAt g c w) (p : Nat) (hs : c.ch.size ≤ 1000000) (hN : Nl c.ch.data.toList) (hip : c.i ≤ p) (hq : c.ch.data.toList.getD p 0 = 39) (hw : ∀ j, c.i ≤ j → j < p → c.ch.data.toList.getD j 0 ≠ 39) (hu0 : Un c.ch.data.toList c.i 34 c.u0) (hu1 : Un c.ch.data.toList c.i 39 c.u1) :
    Calls Try.prog 90 #[.pointer (some ⟨g, 0, none⟩), .int .i64 (p : Int), .int .i64 1] w (closedPost g c (qEnd c.ch.data.toList 39 p) w) := by
  have hp : p < c.ch.size := by
    have := getD_lt (l := c.ch.data.toList) (i := p) (by rw [hq]; decide)
    rw [len_byte] at this
    exact this
  have c3 := h.k3
  have cu := h.k13
  have fu := h.free 13
  have HA := Lib.hid h
  have HN := Lib.hid hN
  have HQ := Lib.hid hq
  have HW := Lib.hid hw
  have HU0 := Lib.hid hu0
  have HU1 := Lib.hid hu1
  have HLN := Lib.hid (len_byte c.ch)
  clear h hN hq hw hu0 hu1
  have hpi : (p : Int) < (c.ch.size : Int) := by omega
  have hp0 : (0 : Int) ≤ (p : Int) := by omega
  by_cases hlt : p < c.u1
  · have hlti : (p : Int) < (c.u1 : Int) := by omega
    go_enter Try.func90, Try.ntmps90
    go_wp2
    go_ret
    rw [(HU1.out).none hip hlt HQ.out]
    exact ⟨rfl, c.u0, c.u1, Step.refl HA.out, HU0.out, HU1.out⟩
  · have hlti : ¬ (p : Int) < (c.u1 : Int) := by omega
    have HGP := Lib.hid (show c.ch[p] = 39 from by rw [← get_byte c.ch p hp]; exact HQ.out)
    have hbp : ((c.ch[p].toNat : Nat) : Int) = 39 := by rw [HGP.out]; rfl
    go_enter Try.func90, Try.ntmps90
    go_wp2
    go_loopw [7, 8] (fun t i w' => ∃ (tk : Bool) (k n : Nat), t = .bool tk ∧ i = .int .i64 (k : Int) ∧ Past c.ch.data.toList 39 p k tk ∧ w' = w.drewN n) (fun _ i _ => c.ch.size - (intOf i).toNat)
    case atStart => exact ⟨false, p + 1, 0, rfl, by go_num, Past.start HN.out (by rw [HLN.out]; exact hp) HQ.out (by decide), rfl⟩
    case round =>
      obtain ⟨tk, k, n, rfl, rfl, hpast, hwr⟩ := hrel
      have hk : k < c.ch.size := by have := hpast.2.1; rw [HLN.out] at this; exact this
      have hki : (k : Int) < (c.ch.size : Int) := by omega
      have hk0 : (0 : Int) ≤ (k : Int) := by omega
      have c3 : wr.cell? ⟨g, 3, none⟩ = some (.string c.ch) := by rw [hwr]; exact c3
      have fu : wr.frozen? ⟨g, 13, none⟩ = false := by rw [hwr]; exact fu
      have cu : wr.cell? ⟨g, 13, none⟩ = some (.int .i64 (c.u1 : Int)) := by rw [hwr]; exact cu
      have HP := Lib.hid hpast
      have HWR := Lib.hid hwr
      have HG := Lib.hid (get_byte c.ch k hk)
      clear hpast hwr
      by_cases h10 : c.ch[k] = 10
      · have hb : (((c.ch[k].toNat : Nat) : Int) == 10) = true := by rw [h10]; rfl
        have hb2 : (((c.ch[k].toNat : Nat) : Int) != 10) = false := by rw [h10]; rfl
        have HX := Lib.hid (HP.out.no (by rw [HG.out]; exact h10))
        clear h10
        go_wp2
        go_ret
        rw [HX.out.1]
        refine ⟨rfl, c.u0, k, ?_, HU0.out, (HX.out.2).low HW.out⟩
        rw [HWR.out]
        exact ((Step.refl HA.out).drewN n).set 13 _ _ rfl
      · have hb : (((c.ch[k].toNat : Nat) : Int) == 10) = false := byte_neB (n := 10) (by omega) h10
        have hb2 : (((c.ch[k].toNat : Nat) : Int) != 10) = true := by rw [bne, hb]; rfl
        have H10 := Lib.hid (show c.ch.data.toList.getD k 0 ≠ 10 from by rw [HG.out]; exact h10)
        clear h10
        cases tk with
        | true =>
          go_wp2
          go_roundw
          case rel => exact ⟨false, k + 1, n, rfl, by go_num, HP.out.taken HN.out H10.out, HWR.out⟩
          case measure => simp [intOf]; omega
        | false =>
          by_cases h92 : c.ch[k] = 92
          · have hb3 : (((c.ch[k].toNat : Nat) : Int) == 92) = true := by rw [h92]; rfl
            have H92 := Lib.hid (show c.ch.data.toList.getD k 0 = 92 from by rw [HG.out]; exact h92)
            clear h92
            go_wp2
            go_roundw
            case rel => exact ⟨true, k + 1, n, rfl, by go_num, HP.out.slash HN.out H92.out (by decide), HWR.out⟩
            case measure => simp [intOf]; omega
          · have hb3 : (((c.ch[k].toNat : Nat) : Int) == 92) = false := byte_neB (n := 92) (by omega) h92
            have H92 := Lib.hid (show c.ch.data.toList.getD k 0 ≠ 92 from by rw [HG.out]; exact h92)
            clear h92
            by_cases hq : c.ch[k] = 39
            · have hb4 : (((c.ch[k].toNat : Nat) : Int) == 39) = true := by rw [hq]; rfl
              have HX := Lib.hid (HP.out.found H10.out H92.out (by rw [HG.out]; exact hq))
              clear hq
              go_wp2
              go_quiet (fail)
              go_wp2
              go_ret
              rw [HX.out]
              refine ⟨ret_nat rfl, c.u0, c.u1, ?_, HU0.out, HU1.out⟩
              rw [HWR.out]
              exact ((Step.refl HA.out).drewN n).drewN _
            · have hb4 : (((c.ch[k].toNat : Nat) : Int) == 39) = false := byte_neB (n := 39) (by omega) hq
              have HX := Lib.hid (show c.ch.data.toList.getD k 0 ≠ 39 from by rw [HG.out]; exact hq)
              clear hq
              go_wp2
              go_quiet (fail)
              go_wp2
              go_roundw
              case rel => exact ⟨false, k + 1, _, rfl, by go_num, HP.out.other HN.out H10.out H92.out HX.out, by rw [HWR.out, World.drewN_drewN]⟩
              case measure => simp [intOf]; omega

end Go.Proofs.Ytobplffailbkbaa
