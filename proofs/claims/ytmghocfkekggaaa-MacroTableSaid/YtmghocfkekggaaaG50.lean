/-
  Texts of the proof, put together: MtFlat, MtWhole, MtShort, MtFew.
-/
import Derived.Test.YtmghocfkekggaaaG46
import Derived.Test.YtmghocfkekggaaaG32

/-
  The law's two ways of writing a macro.
-/
namespace Go.Proofs.Ytmghocfkekggaaa
open Go.RowKit Go.Maps

def SamePost (w : World) (m : Xm) (pv bv : Value) (e : Ending) (w' : World) : Prop := e = .returned (macV m pv bv) ∧ Below w.heap.size w w'

theorem two_box (w : World) (o : Obj) (m : Xm) (pv bv : Value) (T : TypeId) : BoxM m pv bv (w.heap.size + 1) ((w.alloc o).alloc (.cells #[.string m.n, .bool m.fn, .bool m.va, pv, bv, .string m.g, .int .i64 m.f, .int .i64 m.t] T)) := by
  have h0 := heap_alloc_new (w.alloc o) (.cells #[.string m.n, .bool m.fn, .bool m.va, pv, bv, .string m.g, .int .i64 m.f, .int .i64 m.t] T)
  rw [show (w.alloc o).heap.size = w.heap.size + 1 from by simp] at h0
  refine ⟨?_, ?_, ?_, ?_, ?_, ?_, ?_, ?_⟩ <;> (rw [Lib.cell_of_heap h0]; rfl)

set_option maxRecDepth 100000 in
theorem flat9_any {m : Xm} {pv bv : Value} {w : World} (h : MacAt m pv bv w) : Calls Try.prog 33 #[macV m pv bv] w (SamePost w m pv bv) := by
  obtain ⟨a1, n1, c1, rfl⟩ := h.1.form
  obtain ⟨a2, n2, c2, rfl⟩ := h.2.form
  unfold SamePost macV
  clear h
  obtain ⟨y0, y1, y2, y3, y4, y5, y6, y7⟩ := two_box w (.cells #[.string m.n, .bool m.fn, .bool m.va, .slice a1 n1 c1, .slice a2 n2 c2, .string m.g, .int .i64 m.f, .int .i64 m.t] 38) m (.slice a1 n1 c1) (.slice a2 n2 c2) 36
  go_enter Try.func33, Try.ntmps33
  go_wp2
  exact bodyPost_ret (v := .agg #[.string m.n, .bool m.fn, .bool m.va, .slice a1 n1 c1, .slice a2 n2 c2, .string m.g, .int .i64 m.f, .int .i64 m.t]) (by simp [results, Try.results33, go_sem, y0, y1, y2, y3, y4, y5, y6, y7]) rfl ⟨rfl, ((Below.refl _ _).alloc (Nat.le_refl _) _).alloc (by simp) _⟩

set_option maxRecDepth 100000 in
theorem made9_any {m : Xm} {pv bv : Value} {w : World} (h : MacAt m pv bv w) : Calls Try.prog 13 #[macV m pv bv] w (SamePost w m pv bv) := by
  obtain ⟨a1, n1, c1, rfl⟩ := h.1.form
  obtain ⟨a2, n2, c2, rfl⟩ := h.2.form
  unfold SamePost macV
  clear h
  obtain ⟨y0, y1, y2, y3, y4, y5, y6, y7⟩ := two_box w (.cells #[.string m.n, .bool m.fn, .bool m.va, .slice a1 n1 c1, .slice a2 n2 c2, .string m.g, .int .i64 m.f, .int .i64 m.t] 36) m (.slice a1 n1 c1) (.slice a2 n2 c2) 38
  go_enter Try.func13, Try.ntmps13
  go_wp2
  exact bodyPost_ret (v := .agg #[.string m.n, .bool m.fn, .bool m.va, .slice a1 n1 c1, .slice a2 n2 c2, .string m.g, .int .i64 m.f, .int .i64 m.t]) (by simp [results, Try.results13, go_sem, y0, y1, y2, y3, y4, y5, y6, y7]) rfl ⟨rfl, ((Below.refl _ _).alloc (Nat.le_refl _) _).alloc (by simp) _⟩

end Go.Proofs.Ytmghocfkekggaaa

/-
  The document's Whole, of what is the same.
-/
namespace Go.Proofs.Ytmghocfkekggaaa
open Go.RowKit Go.Maps

theorem box_two (w : World) (o : Obj) (m : Xm) (pv bv : Value) : ((w.alloc o).alloc (rObj m pv bv)).heap[w.heap.size + 1]? = some (rObj m pv bv) := by
  have h0 := heap_alloc_new (w.alloc o) (rObj m pv bv)
  rw [show (w.alloc o).heap.size = w.heap.size + 1 from by simp] at h0
  exact h0
set_option maxRecDepth 100000 in
set_option maxHeartbeats 3200000 in
theorem rWhole_any {m : Xm} {pv bv qv cv : Value} {w : World} (h : MacAt m pv bv w) (h' : MacAt m qv cv w) : Calls Try.prog 32 #[macV m pv bv, macV m qv cv] w (BoolNew true w) := by
  obtain ⟨a1, n1, c1, rfl⟩ := h.1.form
  obtain ⟨a2, n2, c2, rfl⟩ := h.2.form
  obtain ⟨a3, n3, c3, rfl⟩ := h'.1.form
  obtain ⟨a4, n4, c4, rfl⟩ := h'.2.form
  unfold macV
  have HT : Hid (∀ X : World, Below w.heap.size w X → Calls Try.prog 48 #[.slice a1 n1 c1, .slice a3 n3 c3] X (fun e w' => e = .returned (.bool true) ∧ ∃ n, w' = X.drewN n)) := Lib.hid (fun X hX => by
    have := rTexts_any (h.1.over hX) (h'.1.over hX)
    rw [decide_eq_true (rfl : m.ps = m.ps)] at this
    exact this)
  have HF : Hid (∀ X : World, Below w.heap.size w X → Calls Try.prog 49 #[.slice a2 n2 c2, .slice a4 n4 c4] X (TruePost X)) := Lib.hid (fun X hX => sameToks_any (h.2.over hX) (h'.2.over hX))
  have H0 : Hid (Below w.heap.size w ((w.alloc (.cells #[.string m.n, .bool m.fn, .bool m.va, .slice a1 n1 c1, .slice a2 n2 c2, .string m.g, .int .i64 m.f, .int .i64 m.t] 36)).alloc (.cells #[.string m.n, .bool m.fn, .bool m.va, .slice a3 n3 c3, .slice a4 n4 c4, .string m.g, .int .i64 m.f, .int .i64 m.t] 36))) := Lib.hid (((Below.refl _ _).alloc (Nat.le_refl _) _).alloc (by simp) _)
  clear h h'
  go_enter Try.func32, Try.ntmps32
  go_wp2_with (first
    | (go_at_call 48; (with_reducible refine (HT.out _ H0.out).mono ?_); rintro e w1 ⟨rfl, q1, rfl⟩)
    | (go_at_call 49; (with_reducible refine (HF.out _ (H0.out.trans ((Below.of_drews _ _).mono H0.out.size))).mono ?_); rintro e w2 ⟨rfl, hb2⟩; have HB2 : Hid (Below w.heap.size w w2) := Lib.hid (below_up (H0.out.trans ((Below.of_drews _ _).mono H0.out.size)) hb2); have z1 : w2.heap[w.heap.size]? = some (rObj m (.slice a1 n1 c1) (.slice a2 n2 c2)) := (hb2.block _ (by first | (simp; done) | (simp; omega))).trans (heap_one w _ _); have z2 : w2.heap[w.heap.size + 1]? = some (rObj m (.slice a3 n3 c3) (.slice a4 n4 c4)) := (hb2.block _ (by first | (simp; done) | (simp; omega))).trans (box_two w _ _ _ _); (obtain ⟨-, -, -, -, -, y5, y6, y7⟩ := rObj_cells z1); (obtain ⟨-, -, -, -, -, u5, u6, u7⟩ := rObj_cells z2); clear hb2 z1 z2))
  go_ret
  exact bool_new (by simp) HB2.out

end Go.Proofs.Ytmghocfkekggaaa

/-
  Short: are texts few, and short in all?
-/
namespace Go.Proofs.Ytmghocfkekggaaa
open Go.RowKit

def StrsAtM (a : Option Addr) (xs : List (List UInt8)) (w : World) : Prop := ∀ i x, xs[i]? = some x → ∃ ad, a = some ad ∧ ad.block < w.heap.size ∧ w.cell? (ad.add i) = some (.string ⟨x.toArray⟩)
def sumM (xs : List (List UInt8)) : Nat := (xs.map List.length).sum
def shortM (xs : List (List UInt8)) (most : Nat) : Bool := decide (xs.length ≤ most) && decide (sumM xs ≤ most)

theorem sumM_mem {xs : List (List UInt8)} {x : List UInt8} (h : x ∈ xs) : x.length ≤ sumM xs := by
  induction xs with
  | nil => cases h
  | cons a r ih =>
    simp only [sumM, List.map_cons, List.sum_cons] at ih ⊢
    rcases List.mem_cons.1 h with rfl | h
    · omega
    · have := ih h
      omega

def ShortMRel (xs : List (List UInt8)) (most : Nat) (n i : Value) : Prop :=
  ∃ k : Nat, i = .int .i64 (k : Int) ∧ n = .int .i64 (sumM (xs.take k) : Int) ∧ k ≤ xs.length ∧ k ≤ most + 1 ∧ sumM (xs.take k) ≤ k * most

theorem sumM_take {xs : List (List UInt8)} {k : Nat} {x : List UInt8} (h : xs[k]? = some x) : sumM (xs.take (k + 1)) = sumM (xs.take k) + x.length := by
  rw [List.take_add_one, h]
  simp [sumM]

set_option maxHeartbeats 1600000 in
set_option maxRecDepth 100000 in
theorem shortM_any {a : Option Addr} {cap : Nat} (xs : List (List UInt8)) (w : World) (hS : StrsAtM a xs w) (most : Nat) (hm : most ≤ 1000) (hlen : xs.length ≤ 9223372036854775807) (hb : ∀ x ∈ xs, x.length ≤ 9223372036854775807) :
    Calls Try.prog 7 #[.slice a xs.length cap, .int .i64 (most : Int)] w fun e w' => e = .returned (.bool (shortM xs most)) ∧ w = w' := by
  have HS := Lib.hid hS
  have HBD := Lib.hid hb
  clear hS hb
  go_enter Try.func7, Try.ntmps7
  go_wp2
  go_loop [5, 6] (ShortMRel xs most) (fun _ i => xs.length - (intOf i).toNat)
  case atStart => exact ⟨0, rfl, rfl, Nat.zero_le _, Nat.zero_le _, Nat.zero_le _⟩
  case round =>
    obtain ⟨k, rfl, rfl, hk, hkm, hsum⟩ := hrel
    have hsb : k * most ≤ 1001 * 1000 := Nat.mul_le_mul (by omega) hm
    by_cases hlt : k < xs.length
    · by_cases hle : k ≤ most
      · obtain ⟨x, hx⟩ : ∃ x, xs[k]? = some x := ⟨_, List.getElem?_eq_getElem hlt⟩
        obtain ⟨ad, had, -, hcell⟩ := HS.out k x hx
        subst had
        have hxl := HBD.out x (List.mem_of_getElem? hx)
        have hst := sumM_take hx
        obtain ⟨b, hb⟩ : ∃ b : ByteArray, (⟨x.toArray⟩ : ByteArray) = b := ⟨_, rfl⟩
        rw [hb] at hcell
        have hbx : b.size = x.length := by rw [← hb]; exact List.size_toArray
        generalize hs0 : sumM (xs.take k) = s0 at *
        have hs1 : s0 ≤ 1001000 := by omega
        by_cases hxm : x.length ≤ most
        · have hbm : ¬ ((most : Int) < (b.size : Int)) := by omega
          have HST := Lib.hid hst
          have HSUM := Lib.hid hsum
          have HBX := Lib.hid hbx
          have hb2 : b.size ≤ 1000 := by omega
          clear hst hsum hbx hs0 hsb hb hx
          go_wp2
          go_round
          case rel =>
            refine ⟨k + 1, by go_num, ?_, hlt, by omega, ?_⟩
            · rw [HST.out]
              have := HBX.out
              go_num
            · rw [HST.out, Nat.add_mul, Nat.one_mul]
              have := HSUM.out
              omega
          case measure => simp [intOf]; omega
        · have hbm : (most : Int) < (b.size : Int) := by omega
          have hno : shortM xs most = false := by
            unfold shortM
            rw [Bool.and_eq_false_iff]
            right
            have := sumM_mem (List.mem_of_getElem? hx)
            simp only [decide_eq_false_iff_not]
            omega
          have HN := Lib.hid hno
          clear hno hst hsum hbx hs0 hsb hb hx
          go_wp2
          go_ret
          exact ⟨ret_bool HN.out.symm, rfl⟩
      · have hle2 : ¬ ((k : Int) ≤ (most : Int)) := by omega
        have hno : shortM xs most = false := by
          unfold shortM
          rw [Bool.and_eq_false_iff]
          left
          simp only [decide_eq_false_iff_not]
          omega
        have hno2 : ¬ ((xs.length : Int) ≤ (most : Int)) := by omega
        have HN := Lib.hid hno
        generalize sumM (xs.take k) = s0 at *
        clear hno hsum
        go_wp2
        go_ret
        exact ⟨ret_bool HN.out.symm, rfl⟩
    · obtain rfl : k = xs.length := by omega
      have htk : xs.take xs.length = xs := List.take_length
      rw [htk] at hsum ⊢
      have hge : ¬ ((xs.length : Int) < (xs.length : Int)) := by omega
      by_cases h1 : xs.length ≤ most
      · have h1i : (xs.length : Int) ≤ (most : Int) := by omega
        have hno : shortM xs most = decide (sumM xs ≤ most) := by
          unfold shortM
          rw [decide_eq_true h1, Bool.true_and]
        have HN := Lib.hid hno
        generalize hs0 : sumM xs = s0 at *
        have HN2 : Hid (shortM xs most = decide ((s0 : Int) ≤ (most : Int))) := Lib.hid (by rw [HN.out]; exact decide_eq_decide.2 (by omega))
        clear hno hsum htk hs0 HN
        by_cases h2 : s0 ≤ most
        · have h2i : (s0 : Int) ≤ (most : Int) := by omega
          go_wp2
          go_ret
          exact ⟨ret_bool (HN2.out.trans (decide_eq_true h2i)).symm, rfl⟩
        · have h2i : ¬ ((s0 : Int) ≤ (most : Int)) := by omega
          go_wp2
          go_ret
          exact ⟨ret_bool (HN2.out.trans (decide_eq_false (by omega))).symm, rfl⟩
      · have h1i : ¬ ((xs.length : Int) ≤ (most : Int)) := by omega
        have hno : shortM xs most = false := by
          unfold shortM
          rw [decide_eq_false h1, Bool.false_and]
        have HN := Lib.hid hno
        generalize hs0 : sumM xs = s0 at *
        clear hno hsum htk hs0
        go_wp2
        go_ret
        exact ⟨ret_bool HN.out.symm, rfl⟩


theorem short9_any {S : List ByteArray} {v : Value} {w : World} (h : StrsV S v w) (most : Nat) (hm : most ≤ 1000) (hb : ∀ s ∈ S, s.size ≤ maxLen) :
    Calls Try.prog 7 #[v, .int .i64 (most : Int)] w fun e w' => e = .returned (.bool (shortM (S.map fun s => s.data.toList) most)) ∧ w = w' := by
  obtain ⟨a, n, cap, rfl⟩ := h.form
  obtain ⟨hn, hc1, hc2⟩ := h.len
  have hl : (S.map fun s => s.data.toList).length = n := by rw [List.length_map]; exact hn.symm
  unfold maxLen at hb hc2
  have := shortM_any (a := a) (cap := cap) (S.map fun s => s.data.toList) w (fun i x hx => ?_) most hm (by rw [hl]; omega) (fun x hx => ?_)
  · rw [hl] at this
    exact this
  · rw [List.getElem?_map, Option.map_eq_some_iff] at hx
    obtain ⟨s, hs, rfl⟩ := hx
    obtain ⟨g, o, rfl, hg, hc⟩ := h.get hs
    exact ⟨_, rfl, hg, by rw [addr_off]; exact hc⟩
  · obtain ⟨s, hs, rfl⟩ := List.mem_map.1 hx
    have := hb s hs
    rw [Array.length_toList]
    exact Nat.le_trans this (by omega)

end Go.Proofs.Ytmghocfkekggaaa

/-
  Macros that are looked at: few.
-/
namespace Go.Proofs.Ytmghocfkekggaaa
open Go.RowKit Go.Maps

def fewM (m : Xm) : Bool := fewB m.bd 40 && shortM (m.ps.map fun s => s.data.toList) 200 && decide (m.n.size ≤ 100)

theorem fewM_is {m : Xm} (h : fewM m = true) : m.n.size ≤ 100 ∧ m.ps.length ≤ 500000 ∧ m.bd.length ≤ 500000 ∧ ∀ t ∈ m.bd, t.ss.length ≤ 500000 := by
  unfold fewM at h
  simp only [Bool.and_eq_true, decide_eq_true_eq] at h
  obtain ⟨⟨h1, h2⟩, h3⟩ := h
  obtain ⟨g1, g2⟩ := few_is h1
  unfold shortM at h2
  simp only [Bool.and_eq_true, decide_eq_true_eq, List.length_map] at h2
  exact ⟨h3, by omega, by omega, fun t ht => by have := (g2 t ht).2; omega⟩

set_option maxRecDepth 100000 in
set_option maxHeartbeats 3200000 in
theorem few9_any {m : Xm} {pv bv : Value} {w : World} (h : MacAt m pv bv w) (hb : ∀ s ∈ m.ps, s.size ≤ maxLen) (hn : m.n.size ≤ maxLen) : Calls Try.prog 10 #[macV m pv bv] w (BoolNew (fewM m) w) := by
  obtain ⟨a1, n1, c1, rfl⟩ := h.1.form
  obtain ⟨a2, n2, c2, rfl⟩ := h.2.form
  unfold macV
  obtain ⟨b1, hb1⟩ : ∃ b, fewB m.bd 40 = b := ⟨_, rfl⟩
  obtain ⟨b2, hb2⟩ : ∃ b, shortM (m.ps.map fun s => s.data.toList) 200 = b := ⟨_, rfl⟩
  have HF : Hid (∀ X : World, Below w.heap.size w X → Calls Try.prog 24 #[.slice a2 n2 c2, .int .i64 40] X (BoolPost b1 X)) := Lib.hid (fun X hX => hb1 ▸ few_any (h.2.over hX) 40 (by omega))
  have HS : Hid (∀ X : World, Below w.heap.size w X → Calls Try.prog 7 #[.slice a1 n1 c1, .int .i64 200] X (fun e w' => e = .returned (.bool b2) ∧ X = w')) := Lib.hid (fun X hX => hb2 ▸ short9_any (h.1.over hX) 200 (by omega) hb)
  have HE : Hid (fewM m = (b1 && b2 && decide (m.n.size ≤ 100))) := Lib.hid (by unfold fewM; rw [hb1, hb2])
  rw [HE.out]
  unfold maxLen at hn
  clear h hb hb1 hb2
  obtain ⟨y0, y1, y2, y3, y4, y5, y6, y7⟩ : BoxM m (.slice a1 n1 c1) (.slice a2 n2 c2) w.heap.size (w.alloc (.cells #[.string m.n, .bool m.fn, .bool m.va, .slice a1 n1 c1, .slice a2 n2 c2, .string m.g, .int .i64 m.f, .int .i64 m.t] 36)) := by
    have h0 := heap_alloc_new w (.cells #[.string m.n, .bool m.fn, .bool m.va, .slice a1 n1 c1, .slice a2 n2 c2, .string m.g, .int .i64 m.f, .int .i64 m.t] 36)
    refine ⟨?_, ?_, ?_, ?_, ?_, ?_, ?_, ?_⟩ <;> (rw [Lib.cell_of_heap h0]; rfl)
  have HB : Hid (Below w.heap.size w (w.alloc (.cells #[.string m.n, .bool m.fn, .bool m.va, .slice a1 n1 c1, .slice a2 n2 c2, .string m.g, .int .i64 m.f, .int .i64 m.t] 36))) := Lib.hid ((Below.refl _ _).alloc (Nat.le_refl _) _)
  have hle : decide ((m.n.size : Int) ≤ 100) = decide (m.n.size ≤ 100) := decide_eq_decide.2 (by omega)
  have HLE := Lib.hid hle
  clear hle
  obtain ⟨b3, hb3⟩ : ∃ b, decide (m.n.size ≤ 100) = b := ⟨_, rfl⟩
  rw [hb3] at HLE ⊢
  have hle := HLE.out
  clear HE hb3 HLE
  cases b1 with
  | false =>
    go_enter Try.func10, Try.ntmps10
    go_wp2_with (first
      | (go_at_call 24; (with_reducible refine (HF.out _ HB.out).mono ?_); rintro e w1 ⟨rfl, rfl⟩))
    go_ret
    exact bool_new rfl HB.out
  | true =>
    cases b2 with
    | false =>
      go_enter Try.func10, Try.ntmps10
      go_wp2_with (first
        | (go_at_call 24; (with_reducible refine (HF.out _ HB.out).mono ?_); rintro e w1 ⟨rfl, rfl⟩)
        | (go_at_call 7; (with_reducible refine (HS.out _ HB.out).mono ?_); rintro e w1 ⟨rfl, rfl⟩))
      go_ret
      exact bool_new rfl HB.out
    | true =>
      go_enter Try.func10, Try.ntmps10
      go_wp2_with (first
        | (go_at_call 24; (with_reducible refine (HF.out _ HB.out).mono ?_); rintro e w1 ⟨rfl, rfl⟩)
        | (go_at_call 7; (with_reducible refine (HS.out _ HB.out).mono ?_); rintro e w1 ⟨rfl, rfl⟩))
      go_ret
      exact bool_new (by simp) HB.out

end Go.Proofs.Ytmghocfkekggaaa
