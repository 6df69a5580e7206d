/-
  Texts of the proof, put together: McClone.
-/
import Derived.Test.YtmghocfkekggaaaG27

/-
  A macro as new memory.
-/
namespace Go.Proofs.Ytmghocfkekggaaa
open Go.RowKit Go.Maps

/-- No site and no token begins in that block. -/
def Bare (w : World) (q : Nat) : Prop := (∀ s o, ¬ SitA s q o w) ∧ ∀ t sv o, ¬ TokX t sv q o w
theorem SitsA.bare {S : List Xs} {v : Value} {w w' : World} {q : Nat} (h : SitsA S v w) (hq : Bare w q) (hs : w.heap.size ≤ w'.heap.size) (hf : ∀ g, g < w.heap.size → g ≠ q → w'.heap[g]? = w.heap[g]?) : SitsA S v w' := by
  obtain ⟨a, cap, hv, h1, h2, h3⟩ := h
  refine ⟨a, cap, hv, h1, h2, fun k s hk => ?_⟩
  obtain ⟨g, o, ha, hg, hc⟩ := h3 k s hk
  have hb := hf g hg (fun e => hq.1 s _ (e ▸ hc))
  obtain ⟨c0, c1, c2, c3, c4⟩ := hc
  exact ⟨g, o, ha, Nat.lt_of_lt_of_le hg hs, (World.cell?_of_block hb).trans c0, (World.cell?_of_block hb).trans c1, (World.cell?_of_block hb).trans c2, (World.cell?_of_block hb).trans c3, (World.cell?_of_block hb).trans c4⟩
theorem ToksX.bare {T : List Xt} {v : Value} {w w' : World} {q : Nat} (h : ToksX T v w) (hq : Bare w q) (hs : w.heap.size ≤ w'.heap.size) (hf : ∀ g, g < w.heap.size → g ≠ q → w'.heap[g]? = w.heap[g]?) : ToksX T v w' := by
  obtain ⟨a, cap, hv, h1, h2, h3⟩ := h
  refine ⟨a, cap, hv, h1, h2, fun k t hk => ?_⟩
  obtain ⟨g, o, ha, hg, sv, hc, hss⟩ := h3 k t hk
  have hb := hf g hg (fun e => hq.2 t sv _ (e ▸ hc))
  obtain ⟨c0, c1, c2, c3, c4, c5, c6, c7⟩ := hc
  exact ⟨g, o, ha, Nat.lt_of_lt_of_le hg hs, sv, ⟨(World.cell?_of_block hb).trans c0, (World.cell?_of_block hb).trans c1, (World.cell?_of_block hb).trans c2, (World.cell?_of_block hb).trans c3, (World.cell?_of_block hb).trans c4, (World.cell?_of_block hb).trans c5, (World.cell?_of_block hb).trans c6, (World.cell?_of_block hb).trans c7⟩, hss.bare hq hs hf⟩
/-- No text stands in that block. -/
def NoStr (w : World) (q : Nat) : Prop := ∀ o s, w.cell? ⟨q, o, none⟩ ≠ some (.string s)
theorem NoStr.bare {w : World} {q : Nat} (h : NoStr w q) : Bare w q := ⟨fun _ o hs => h o _ hs.1, fun _ _ _ ht => h _ _ ht.2.1⟩
theorem StrsV.bare {S : List ByteArray} {v : Value} {w w' : World} {q : Nat} (h : StrsV S v w) (hq : NoStr w q) (hs : w.heap.size ≤ w'.heap.size) (hf : ∀ g, g < w.heap.size → g ≠ q → w'.heap[g]? = w.heap[g]?) : StrsV S v w' := by
  obtain ⟨a, cap, hv, h1, h2, h3⟩ := h
  refine ⟨a, cap, hv, h1, h2, fun k s hk => ?_⟩
  obtain ⟨g, o, ha, hg, hc⟩ := h3 k s hk
  have hb := hf g hg (fun e => hq _ _ (e ▸ hc))
  exact ⟨g, o, ha, Nat.lt_of_lt_of_le hg hs, (World.cell?_of_block hb).trans hc⟩
theorem MacAt.bare {m : Xm} {pv bv : Value} {w w' : World} {q : Nat} (h : MacAt m pv bv w) (hq : NoStr w q) (hs : w.heap.size ≤ w'.heap.size) (hf : ∀ g, g < w.heap.size → g ≠ q → w'.heap[g]? = w.heap[g]?) : MacAt m pv bv w' := ⟨h.1.bare hq hs hf, h.2.bare hq.bare hs hf⟩

/-- A macro's object. -/
def mObj (m : Xm) (pv bv : Value) : Obj := .cells #[.string m.n, .bool m.fn, .bool m.va, pv, bv, .string m.g, .int .i64 m.f, .int .i64 m.t] 38 (0, 0)
theorem mObj_bare {m : Xm} {w : World} {q : Nat} {a b : Option Addr} {n c k d : Nat} (hq : w.heap[q]? = some (mObj m (.slice a n c) (.slice b k d))) : Bare w q := by
  unfold mObj at hq
  constructor
  · rintro s o ⟨c0, c1, -⟩
    rw [Lib.cell_of_heap hq] at c0 c1
    match o with
    | 0 => simp at c1
    | 1 => simp at c0
    | 2 => simp at c0
    | 3 => simp at c0
    | 4 => simp at c0
    | 5 => simp at c1
    | 6 => simp at c0
    | 7 => simp at c0
    | o + 8 => simp at c0
  · rintro t sv o ⟨c0, c1, -⟩
    rw [Lib.cell_of_heap hq] at c0 c1
    match o with
    | 0 => simp at c0
    | 1 => simp at c0
    | 2 => simp at c0
    | 3 => simp at c0
    | 4 => simp at c0
    | 5 => simp at c0
    | 6 => simp at c1
    | 7 => simp at c1
    | o + 8 => simp at c0
theorem mObj_cells {m : Xm} {pv bv : Value} {w : World} {q : Nat} (h : w.heap[q]? = some (mObj m pv bv)) : BoxM m pv bv q w ∧ ∀ j, w.frozen? ⟨q, j, none⟩ = false := by
  unfold mObj at h
  refine ⟨⟨?_, ?_, ?_, ?_, ?_, ?_, ?_, ?_⟩, fun j => Lib.frozen_of_heap h _⟩ <;> (rw [Lib.cell_of_heap h]; rfl)

set_option maxRecDepth 100000 in
theorem cloneT_any {w : World} {a : Option Addr} {m c : Nat} {news : List Value} (h0 : a = none → m = 0 ∧ news = []) (hl : news.length = m * 1) (hc : ∀ ad, a = some ad → ∀ j u, news[j]? = some u → w.cell? (ad.add j) = some u) (hlt : ∀ ad, a = some ad → 0 < m → ad.block < w.heap.size) (h1 : ∀ u ∈ news, u.oneCell' = true) (hm : m ≤ 500000) :
    Calls Try.prog 46 #[.slice a m c] w (NewAt w 9 1 m news) := by
  have hq := fun (w : World) (a : Option Addr) (n c : Nat) => Lib.run_eql_slice_nil (P := Try.prog) w 23 9 a n c 0 0 Try.underlying23
  obtain ⟨i0, hi, hz0, hz1, hz2⟩ := info_parts Try.infoStrM
  cases a with
  | none =>
    obtain ⟨rfl, rfl⟩ := h0 rfl
    clear h0 hl hc hlt h1
    go_enter Try.func46, Try.ntmps46
    go_wp2
    go_ret
    exact new_at (up_nil w _ 1) rfl
  | some ad =>
    have HR := Lib.hid (up_empty w 9 1)
    have HS2 : Hid (Src (w.alloc (.cells #[] 9)) (.slice (some ad) m c) m 1 news) := Lib.hid (.inr ⟨ad, c, rfl, hl, fun j u hj => by
      have hm0 : 0 < m := by
        have := (List.getElem?_eq_some_iff.1 hj).1
        rcases Nat.eq_zero_or_pos m with h | h
        · rw [h] at hl; omega
        · exact h
      rw [HR.out.2.cell (by rw [add_block2]; exact hlt ad rfl hm0)]
      exact hc ad rfl j u hj⟩)
    have H1 := Lib.hid h1
    clear h0 hl hc hlt h1
    go_enter Try.func46, Try.ntmps46
    go_wp2_with (at_builtin; refine wpList_append_ex rfl (.tmp 5) (.tmp 6) 23 rfl _ (app_up Try.underlying23 hi hz0 hz1 hz2 rfl (by decide) (by decide) HR.out HS2.out H1.out (by omega)) ?_; intro v' w1 hu; have U1 := Lib.hid hu; clear hu)
    go_ret
    exact new_at U1.out (by omega)

/-- A macro that was cloned. -/
def MacNew (W : World) (m : Xm) (e : Ending) (w' : World) : Prop := ∃ pv bv, e = .returned (macV m pv bv) ∧ MacAt m pv bv w' ∧ Below W.heap.size W w'

theorem cloneStr_any {S : List ByteArray} {a : Option Addr} {n c : Nat} {w : World} (h : StrsV S (.slice a n c) w) (hS : S.length ≤ 500000) :
    Calls Try.prog 46 #[.slice a n c] w (NewAt w 9 1 n (S.map Value.string)) := by
  have hn := h.len.1
  have hl : (S.map Value.string).length = n * 1 := by rw [List.length_map, hn, Nat.mul_one]
  have hin : ∀ ad, a = some ad → ∀ j u, (S.map Value.string)[j]? = some u → w.cell? (ad.add j) = some u ∧ ad.block < w.heap.size := by
    intro ad ha j u hj
    rw [List.getElem?_map, Option.map_eq_some_iff] at hj
    obtain ⟨s, hs, rfl⟩ := hj
    obtain ⟨g, o, hg, hlt, hc⟩ := h.get hs
    rw [ha] at hg
    obtain rfl := Option.some.inj hg
    exact ⟨by rw [addr_off]; exact hc, hlt⟩
  refine cloneT_any (fun e => ?_) hl (fun ad ha j u hj => (hin ad ha j u hj).1) (fun ad ha h0 => ?_) (fun u hu => ?_) (by omega)
  · have hS0 : S = [] := by
      cases S with
      | nil => rfl
      | cons s r =>
        obtain ⟨g, o, hg, -⟩ := h.get (k := 0) (s := s) rfl
        rw [e] at hg
        cases hg
    subst hS0
    exact ⟨hn, rfl⟩
  · obtain ⟨u, hu⟩ : ∃ u, (S.map Value.string)[0]? = some u := ⟨_, List.getElem?_eq_getElem (by rw [hl]; omega)⟩
    exact (hin ad ha 0 u hu).2
  · rw [List.mem_map] at hu
    obtain ⟨s, -, rfl⟩ := hu
    rfl

/-- The clone's end: a box with both rows, and the result. -/
theorem clone_end {W w : World} {m : Xm} {b1 k : Nat} {a' b' : Option Addr} {n' c' d' e' : Nat} {pv bv : Value} {B : Nat} (hb : w.heap[b1]? = some (mObj m pv bv)) (hk : w.heap[k]? = some zeroObj) (hW : Below W.heap.size W w) (h1 : W.heap.size ≤ b1) (h2 : W.heap.size ≤ k) (hbk : b1 ≠ k) (hpv : pv = .slice a' n' c') (hbv : ∃ x y z, bv = .slice x y z)
    {nn : Nat} (hnn : nn = m.ps.length) (hr : w.ownsRow B 9 1 (.slice a' n' c') nn (m.ps.map Value.string)) (ht : ToksX m.bd (.slice b' d' e') w) :
    ∃ w', sto8 (w.setCell ⟨b1, 4, none⟩ (.slice b' d' e')) k (.string m.n) (.bool m.fn) (.bool m.va) (.slice a' n' c') (.slice b' d' e') (.string m.g) (.int .i64 m.f) (.int .i64 m.t) = w' ∧ BoxM m (.slice a' n' c') (.slice b' d' e') k w' ∧ Hid (MacAt m (.slice a' n' c') (.slice b' d' e') w' ∧ Below W.heap.size W w') := by
  subst hpv hnn
  obtain ⟨x, y, z, rfl⟩ := hbv
  have hk2 : (w.setCell ⟨b1, 4, none⟩ (.slice b' d' e')).heap[k]? = some zeroObj := (heap_setCell_other w _ k _ fun e => hbk e.symm).trans hk
  refine ⟨_, rfl, sto8_cells hk2, Lib.hid ⟨⟨?_, ?_⟩, sto8_below (hW.setCell (p := ⟨b1, 4, none⟩) h1 _) h2⟩⟩
  · have hr2 : (w.setCell ⟨b1, 4, none⟩ (.slice b' d' e')).ownsRow B 9 1 (.slice a' n' c') m.ps.length (m.ps.map Value.string) := ownsRow_over hr fun g hg => heap_setCell_other w _ g _ (row_ne hr hb (fun cs e => by
      unfold mObj at e
      simp only [Obj.cells.injEq] at e
      exact absurd e.2.1 (by decide)) g hg)
    exact strsV_row (ownsRow_over hr2 fun g hg => sto8_far (row_ne hr2 hk2 (fun cs e => by
      unfold zeroObj at e
      simp only [Obj.cells.injEq] at e
      exact absurd e.2.1 (by decide)) g hg))
  · have ht2 : ToksX m.bd (.slice b' d' e') (w.setCell ⟨b1, 4, none⟩ (.slice b' d' e')) := ht.bare (mObj_bare hb) (by simp [World.setCell]) fun g _ hg => heap_setCell_other w _ g _ hg
    exact ht2.off hk2 sto8_size fun g hg => sto8_far hg

set_option maxRecDepth 100000 in
set_option maxHeartbeats 6400000 in
theorem mclone_any {m : Xm} {pv bv : Value} {w : World} (h : MacAt m pv bv w) (hp : m.ps.length ≤ 500000) (hb : m.bd.length ≤ 500000) (hs : ∀ t ∈ m.bd, t.ss.length ≤ 500000) :
    Calls Try.prog 28 #[macV m pv bv] w (MacNew w m) := by
  obtain ⟨a1, n1, c1, rfl⟩ := h.1.form
  obtain ⟨a2, n2, c2, rfl⟩ := h.2.form
  have HL : Hid (n1 = m.ps.length) := Lib.hid h.1.len.1
  unfold macV
  have HP : Hid (∀ X : World, Below w.heap.size w X → Calls Try.prog 46 #[.slice a1 n1 c1] X (NewAt X 9 1 n1 (m.ps.map Value.string))) := Lib.hid (fun X hX => cloneStr_any (h.1.over hX) hp)
  have HT : Hid (∀ X : World, Below w.heap.size w X → Calls Try.prog 47 #[.slice a2 n2 c2] X (ToksNew X m.bd)) := Lib.hid (fun X hX => tclone_any (h.2.over hX) hb hs)
  clear h hp hb hs
  go_enter Try.func28, Try.ntmps28
  go_wp2_with fail
  have hB0 : Below w.heap.size w ((w.alloc (Obj.cells #[.string m.n, .bool m.fn, .bool m.va, .slice a1 n1 c1, .slice a2 n2 c2, .string m.g, .int .i64 m.f, .int .i64 m.t] 38)).alloc (Obj.cells #[.string ⟨#[]⟩, .bool false, .bool false, .slice none 0 0, .slice none 0 0, .string ⟨#[]⟩, .int .i64 0, .int .i64 0] 38)) := ((Below.refl _ _).alloc (Nat.le_refl _) _).alloc (by simp) _
  have hQ1 : ((w.alloc (Obj.cells #[.string m.n, .bool m.fn, .bool m.va, .slice a1 n1 c1, .slice a2 n2 c2, .string m.g, .int .i64 m.f, .int .i64 m.t] 38)).alloc (Obj.cells #[.string ⟨#[]⟩, .bool false, .bool false, .slice none 0 0, .slice none 0 0, .string ⟨#[]⟩, .int .i64 0, .int .i64 0] 38)).heap[w.heap.size]? = some (mObj m (.slice a1 n1 c1) (.slice a2 n2 c2)) := heap_one w _ _
  have hQ2 : ((w.alloc (Obj.cells #[.string m.n, .bool m.fn, .bool m.va, .slice a1 n1 c1, .slice a2 n2 c2, .string m.g, .int .i64 m.f, .int .i64 m.t] 38)).alloc (Obj.cells #[.string ⟨#[]⟩, .bool false, .bool false, .slice none 0 0, .slice none 0 0, .string ⟨#[]⟩, .int .i64 0, .int .i64 0] 38)).heap[w.heap.size + 1]? = some zeroObj := by
    have := heap_alloc_new (w.alloc (Obj.cells #[.string m.n, .bool m.fn, .bool m.va, .slice a1 n1 c1, .slice a2 n2 c2, .string m.g, .int .i64 m.f, .int .i64 m.t] 38)) zeroObj
    rw [show (w.alloc (Obj.cells #[.string m.n, .bool m.fn, .bool m.va, .slice a1 n1 c1, .slice a2 n2 c2, .string m.g, .int .i64 m.f, .int .i64 m.t] 38)).heap.size = w.heap.size + 1 from by simp] at this
    exact this
  obtain ⟨w1, hw1⟩ : ∃ w1, ((w.alloc (Obj.cells #[.string m.n, .bool m.fn, .bool m.va, .slice a1 n1 c1, .slice a2 n2 c2, .string m.g, .int .i64 m.f, .int .i64 m.t] 38)).alloc (Obj.cells #[.string ⟨#[]⟩, .bool false, .bool false, .slice none 0 0, .slice none 0 0, .string ⟨#[]⟩, .int .i64 0, .int .i64 0] 38)) = w1 := ⟨_, rfl⟩
  obtain ⟨b1, hb1⟩ : ∃ b1, w.heap.size = b1 := ⟨_, rfl⟩
  rw [hw1] at hB0 hQ1 hQ2 ⊢
  have HBL : Hid (w.heap.size ≤ b1) := Lib.hid (by omega)
  rw [hb1] at hQ1 hQ2 ⊢
  have HB0 := Lib.hid hB0
  have HQ1 := Lib.hid hQ1
  have HQ2 := Lib.hid hQ2
  clear hw1 hb1 hB0 hQ1 hQ2
  (with_reducible refine (HP.out _ HB0.out).mono ?_)
  rintro e w2 ⟨pa, pc, rfl, hu2⟩
  have h12 := row_lt HQ1.out
  have h22 := row_lt HQ2.out
  have hm2 := (hu2.2.block b1 h12).trans HQ1.out
  have hz2 := (hu2.2.block (b1 + 1) h22).trans HQ2.out
  obtain ⟨⟨-, -, -, q3, q4, -⟩, qf⟩ := mObj_cells hm2
  have f3 := qf 3
  have f4 := qf 4
  have hm3 : (w2.setCell ⟨b1, 3, none⟩ (.slice pa n1 pc)).heap[b1]? = some (mObj m (.slice pa n1 pc) (.slice a2 n2 c2)) := (heap_setCell_same w2 b1 3 _ _ _ hm2).trans rfl
  have hz3 : (w2.setCell ⟨b1, 3, none⟩ (.slice pa n1 pc)).heap[b1 + 1]? = some zeroObj := (heap_setCell_other w2 _ (b1 + 1) _ (by simp)).trans hz2
  have hB3 : Below w.heap.size w (w2.setCell ⟨b1, 3, none⟩ (.slice pa n1 pc)) := (below_up HB0.out hu2.2).setCell (p := ⟨b1, 3, none⟩) HBL.out _
  have hr3 : (w2.setCell ⟨b1, 3, none⟩ (.slice pa n1 pc)).ownsRow w1.heap.size 9 1 (.slice pa n1 pc) n1 (m.ps.map Value.string) := ownsRow_over hu2.1 fun g hg => heap_setCell_other w2 _ g _ (row_ne hu2.1 hm2 (fun cs e => by
    unfold mObj at e
    simp only [Obj.cells.injEq] at e
    exact absurd e.2.1 (by decide)) g hg)
  have HM3 := Lib.hid hm3
  have HZ3 := Lib.hid hz3
  have HB3 := Lib.hid hB3
  have HR3 := Lib.hid hr3
  clear hu2 h12 h22 hm2 hz2 qf hm3 hz3 hB3 hr3
  go_wp2_with fail
  obtain ⟨w3, hw3⟩ : ∃ w3, w2.setCell ⟨b1, 3, none⟩ (.slice pa n1 pc) = w3 := ⟨_, rfl⟩
  rw [hw3] at HM3 HZ3 HB3 HR3 ⊢
  clear hw3 q3 q4 f3 f4
  (with_reducible refine (HT.out _ HB3.out).mono ?_)
  rintro e w4 ⟨ba, bn, bc, rfl, -, ht4, hb4⟩
  have hm4 := (hb4.block b1 (row_lt HM3.out)).trans HM3.out
  have hz4 := (hb4.block (b1 + 1) (row_lt HZ3.out)).trans HZ3.out
  obtain ⟨⟨m0, m1, m2, m3, m4, m5, m6, m7⟩, mf⟩ := mObj_cells hm4
  have f3 := mf 3
  have f4 := mf 4
  obtain ⟨z0, z1, z2, z3, z4, z5, z6, z7, zf⟩ := zero_cells hz4
  have g0 := zf 0
  have g1 := zf 1
  have g2 := zf 2
  have g3 := zf 3
  have g4 := zf 4
  have g5 := zf 5
  have g6 := zf 6
  have g7 := zf 7
  have hr4 : w4.ownsRow w1.heap.size 9 1 (.slice pa n1 pc) n1 (m.ps.map Value.string) := ownsRow_over HR3.out fun g hg => hb4.block g (World.ownsRow.lt HR3.out g hg).2
  have HEND := Lib.hid (clone_end (m := m) (pv := .slice pa n1 pc) (bv := .slice a2 n2 c2) hm4 hz4 (below_up HB3.out hb4) HBL.out (Nat.le_succ_of_le HBL.out) (by simp) rfl ⟨_, _, _, rfl⟩ HL.out hr4 ht4)
  clear ht4 hb4 hm4 hz4 mf zf hr4
  go_wp2
  obtain ⟨w5, hw5, ⟨y0, y1, y2, y3, y4, y5, y6, y7⟩, HF⟩ := HEND.out
  change bodyPost _ _ _ _ _ (sto8 (w4.setCell ⟨b1, 4, none⟩ (.slice ba bn bc)) (b1 + 1) (.string m.n) (.bool m.fn) (.bool m.va) (.slice pa n1 pc) (.slice ba bn bc) (.string m.g) (.int .i64 m.f) (.int .i64 m.t))
  rw [hw5]
  exact bodyPost_ret (v := .agg #[.string m.n, .bool m.fn, .bool m.va, .slice pa n1 pc, .slice ba bn bc, .string m.g, .int .i64 m.f, .int .i64 m.t]) (by simp [results, Try.results28, go_sem, y0, y1, y2, y3, y4, y5, y6, y7]) rfl ⟨_, _, rfl, HF.out.1, HF.out.2⟩

end Go.Proofs.Ytmghocfkekggaaa
