/-
  write: the bytes of a tree into a Builder; piece, Text, Slice.
-/
import Derived.Test.YtfjdfdpelilelaaDoorRead
namespace Go.Proofs.YtfjdfdpelilelaaDoor
open Go.RowKit

/-- Some of a text. -/
def seg (x : List UInt8) (i j : Nat) : List UInt8 := (x.drop i).take (j - i)

theorem seg_left {a b : List UInt8} {i j : Nat} (h : j ≤ a.length) : seg (a ++ b) i j = seg a i j := by
  unfold seg
  rcases Nat.lt_or_ge i a.length with hi | hi
  · rw [List.drop_append_of_le_length (Nat.le_of_lt hi), List.take_append_of_le_length (by rw [List.length_drop]; omega)]
  · have e : j - i = 0 := by omega
    rw [e, List.take_zero, List.take_zero]

theorem seg_right {a b : List UInt8} {i j : Nat} (h : a.length ≤ i) : seg (a ++ b) i j = seg b (i - a.length) (j - a.length) := by
  unfold seg
  rw [List.drop_append, List.drop_of_length_le h, List.nil_append]
  have e : j - a.length - (i - a.length) = j - i := by omega
  rw [e]

theorem seg_both {a b : List UInt8} {i j : Nat} (h1 : i ≤ a.length) (h2 : a.length ≤ j) : seg (a ++ b) i j = seg a i a.length ++ seg b 0 (j - a.length) := by
  unfold seg
  rw [List.drop_append_of_le_length h1, List.take_append, List.drop_zero, List.length_drop, List.take_of_length_le (l := a.drop i) (by rw [List.length_drop]; omega), List.take_of_length_le (l := a.drop i) (by rw [List.length_drop]; omega)]
  have e : j - i - (a.length - i) = j - a.length - 0 := by omega
  rw [e]

theorem seg_none {x : List UInt8} {i j : Nat} (h : j ≤ i) : seg x i j = [] := by
  unfold seg
  have e : j - i = 0 := by omega
  rw [e, List.take_zero]

theorem seg_length (x : List UInt8) (i j : Nat) : (seg x i j).length ≤ j - i := by
  unfold seg
  rw [List.length_take]
  omega

/-- The Builder in block c holds these bytes. -/
def Holds (c : Nat) (l : List UInt8) (w : World) : Prop := Lib.IsBuilder 110 5 c c (Lib.byteCells l) w

/-- What write leaves. -/
def Wrote (w : World) (c : Nat) (l : List UInt8) (e : Ending) (w' : World) : Prop :=
  e = .returned (.tuple #[]) ∧ Holds c l w' ∧ Below c w w'

/-- Nodes ahead of block c stay what they were. -/
theorem Inv.belowC {B : Nat} {L : List Nat} {M : Mp} {w w' : World} {c : Nat} (h : Inv B L M w) (hc : ∀ b t, M b = some t → b < c) (hb : Below c w w') : Inv B L M w' :=
  h.same hb.size fun b t hbt => hb.block b (hc b t hbt)

theorem writeString_any (c : Nat) (l : List UInt8) (s : ByteArray) (w : World) (h : Holds c l w) (hlen : l.length + s.size ≤ 10000000) (hc : c ≤ w.heap.size) :
    Calls Tryd.prog 91 #[.pointer (some ⟨c, 0, none⟩), .string s] w fun e w' => e = .returned (.tuple #[.int .i64 s.size, .nilIface]) ∧ Holds c (l ++ s.data.toList) w' ∧ Below c w w' := by
  refine (Tryd.Builder_WriteString c c _ s w h (by rw [Lib.byteCells_length]; omega) hc).mono ?_
  rintro e w' ⟨rfl, hb, hbel⟩
  refine ⟨rfl, .inr ?_, hbel⟩
  rw [Lib.strCells_eq, ← Lib.byteCells_append] at hb
  exact hb

def WBelow (B : Nat) (M : Mp) (c : Nat) (n : Nat) : Prop :=
  ∀ (t : T) (b : Nat) (w : World) (l : List UInt8) (i j : Nat), t.nn < n → Inv B [] M w → M b = some t → Holds c l w → c ≤ w.heap.size → i ≤ j → j ≤ t.size → l.length + (j - i) ≤ 10000000 →
    Calls Tryd.prog 64 #[.pointer (some ⟨b, 0, none⟩), .pointer (some ⟨c, 0, none⟩), .int .i64 (i : Int), .int .i64 (j : Int)] w (Wrote w c (l ++ seg t.text i j))

set_option maxHeartbeats 800000 in
theorem write_leaf {B : Nat} {M : Mp} {c : Nat} {w : World} (h : Inv B [] M w) {b : Nat} {s : ByteArray} (hb : M b = some (.leaf s)) {l : List UInt8} (hl : Holds c l w) (hc : c ≤ w.heap.size) (i j : Nat) (hij : i ≤ j) (hj : j ≤ s.size) (hlen : l.length + (j - i) ≤ 10000000) :
    Calls Tryd.prog 64 #[.pointer (some ⟨b, 0, none⟩), .pointer (some ⟨c, 0, none⟩), .int .i64 (i : Int), .int .i64 (j : Int)] w (Wrote w c (l ++ seg s.data.toList i j)) := by
  obtain ⟨c0, c2, -, -⟩ := h.leafCells hb
  have hlim := (h.full b _ hb).2
  simp only [T.size] at hlim
  unfold lim at hlim
  have H := Lib.hid h
  have HB := Lib.hid hb
  have HL := Lib.hid hl
  have hx : (s.extract i j).data.toList = seg s.data.toList i j := by
    simp only [ByteArray.data_extract, Array.toList_extract, List.extract_eq_take_drop]
    rfl
  have hxs : (s.extract i j).size = j - i := by rw [ByteArray.size_extract]; omega
  have HX := Lib.hid hx
  have HXS := Lib.hid hxs
  clear h hb hl hx hxs
  go_enter Tryd.func64, Tryd.ntmps64
  go_wp2_with (go_at_call 90; refine (isLeaf_any H.out HB.out).mono ?_; simp only [isLeafB]; rintro e w' ⟨rfl, rfl⟩)
  refine (writeString_any c l _ _ HL.out (by rw [HXS.out]; exact hlen) hc).mono ?_
  rintro e w' ⟨rfl, hh, hbel⟩
  have HH := Lib.hid hh
  have HBEL := Lib.hid hbel
  clear hh hbel
  go_wp2_with fail
  first | go_end0 | refine bodyPost_ret (results_none rfl _ _ _) rfl ?_
  refine ⟨rfl, ?_, HBEL.out⟩
  rw [← HX.out]
  exact HH.out

theorem wrote_trans {w w1 w2 : World} {c : Nat} {l x y : List UInt8} {e : Ending} (b1 : Below c w w1) (h : Wrote w1 c (l ++ x ++ y) e w2) : Wrote w c (l ++ (x ++ y)) e w2 := by
  obtain ⟨h1, h2, h3⟩ := h
  rw [List.append_assoc] at h2
  exact ⟨h1, h2, b1.trans h3⟩

set_option maxHeartbeats 800000 in
theorem write_node {B : Nat} {M : Mp} {c : Nat} (hcm : ∀ b t, M b = some t → b < c) {w : World} (h : Inv B [] M w) {b : Nat} {l r : T} (hb : M b = some (.node l r)) (ih : WBelow B M c (T.node l r).nn) {x : List UInt8} (hl : Holds c x w) (hc : c ≤ w.heap.size) (i j : Nat) (hij : i ≤ j) (hj : j ≤ l.size + r.size) (hlen : x.length + (j - i) ≤ 10000000) :
    Calls Tryd.prog 64 #[.pointer (some ⟨b, 0, none⟩), .pointer (some ⟨c, 0, none⟩), .int .i64 (i : Int), .int .i64 (j : Int)] w (Wrote w c (x ++ seg (l.text ++ r.text) i j)) := by
  obtain ⟨bl, br, ml, mr, c0, c1, -, -⟩ := h.nodeCells hb
  obtain ⟨_, _, -, -, -, -, cl, -⟩ := h.cells ml
  have hlim := (h.full b _ hb).2
  simp only [T.size] at hlim
  unfold lim at hlim
  have hbc := hcm b _ hb
  have hsl := T.size_eq l
  have H := Lib.hid h
  have HB := Lib.hid hb
  have HL := Lib.hid hl
  have IH := Lib.hid ih
  have ML := Lib.hid ml
  have MR := Lib.hid mr
  have HCM := Lib.hid hcm
  have HSL := Lib.hid hsl
  clear h hb hl ih ml mr hcm hsl
  by_cases h1 : i < l.size
  · by_cases h2 : l.size < j
    · go_enter Tryd.func64, Tryd.ntmps64
      go_wp2_with (go_at_call 90; refine (isLeaf_any H.out HB.out).mono ?_; simp only [isLeafB]; rintro e w' ⟨rfl, rfl⟩)
      rw [show min (j : Int) (l.size : Int) = (l.size : Int) from by omega]
      refine (IH.out l bl _ x i l.size (by simp only [T.nn]; omega) H.out ML.out HL.out hc (by omega) (by omega) (by omega)).mono ?_
      rintro e w1 ⟨rfl, hh, hbel⟩
      have HH := Lib.hid hh
      have HBEL := Lib.hid hbel
      have d1 := (hbel.cell (p := ⟨b, 1, none⟩) hbc).trans c1
      clear hh hbel
      have hll : (x ++ seg l.text i l.size).length ≤ x.length + (l.size - i) := by
        rw [List.length_append]
        have := seg_length l.text i l.size
        omega
      have hfin : x ++ seg (l.text ++ r.text) i j = x ++ (seg l.text i l.size ++ seg r.text 0 (j - l.size)) := by
        rw [seg_both (by rw [← HSL.out]; omega) (by rw [← HSL.out]; omega), HSL.out]
      have HF := Lib.hid hfin
      clear hfin
      go_wp2_with fail
      rw [show max ((i : Int) - (l.size : Int)) 0 = ((0 : Nat) : Int) from by omega, show ((j : Int) - (l.size : Int)) = ((j - l.size : Nat) : Int) from by omega]
      refine (IH.out r br _ (x ++ seg l.text i l.size) 0 (j - l.size) (by simp only [T.nn]; omega) (H.out.belowC HCM.out HBEL.out) MR.out HH.out (Nat.le_trans hc HBEL.out.size) (by omega) (by omega) (by omega)).mono ?_
      intro e w2 hw
      have HW := Lib.hid (wrote_trans HBEL.out hw)
      obtain ⟨rfl, _, _⟩ := hw
      go_wp2_with fail
      go_end0
      rw [HF.out]
      exact HW.out
    · go_enter Tryd.func64, Tryd.ntmps64
      go_wp2_with (go_at_call 90; refine (isLeaf_any H.out HB.out).mono ?_; simp only [isLeafB]; rintro e w' ⟨rfl, rfl⟩)
      rw [show min (j : Int) (l.size : Int) = (j : Int) from by omega]
      refine (IH.out l bl _ x i j (by simp only [T.nn]; omega) H.out ML.out HL.out hc hij (by omega) (by omega)).mono ?_
      intro e w1 hw
      have HW := Lib.hid hw
      obtain ⟨rfl, _, _⟩ := hw
      go_wp2_with fail
      go_end0
      rw [seg_left (by rw [← HSL.out]; omega)]
      exact HW.out
  · by_cases h2 : l.size < j
    · have hfin : seg (l.text ++ r.text) i j = seg r.text (i - l.size) (j - l.size) := by
        rw [seg_right (by rw [← HSL.out]; omega), HSL.out]
      have HF := Lib.hid hfin
      clear hfin
      go_enter Tryd.func64, Tryd.ntmps64
      go_wp2_with (go_at_call 90; refine (isLeaf_any H.out HB.out).mono ?_; simp only [isLeafB]; rintro e w' ⟨rfl, rfl⟩)
      rw [show max ((i : Int) - (l.size : Int)) 0 = ((i - l.size : Nat) : Int) from by omega, show ((j : Int) - (l.size : Int)) = ((j - l.size : Nat) : Int) from by omega]
      refine (IH.out r br _ x (i - l.size) (j - l.size) (by simp only [T.nn]; omega) H.out MR.out HL.out hc (by omega) (by omega) (by omega)).mono ?_
      intro e w1 hw
      have HW := Lib.hid hw
      obtain ⟨rfl, _, _⟩ := hw
      go_wp2_with fail
      go_end0
      rw [HF.out]
      exact HW.out
    · go_enter Tryd.func64, Tryd.ntmps64
      go_wp2_with (go_at_call 90; refine (isLeaf_any H.out HB.out).mono ?_; simp only [isLeafB]; rintro e w' ⟨rfl, rfl⟩)
      go_end0
      rw [seg_none (by omega), List.append_nil]
      exact ⟨rfl, HL.out, Below.refl _ _⟩

end Go.Proofs.YtfjdfdpelilelaaDoor
