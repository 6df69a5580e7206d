/-
  Texts of the proof, put together: MtL, MtClone.
-/
import Derived.Test.YtmghocfkekggaaaG30
import Derived.Test.YtmghocfkekggaaaG28

/-
  The document's table of macros, over lists: a list that rises by its names.
-/
namespace Go.Proofs.Ytmghocfkekggaaa
open Go.RowKit Go.Maps

def lessB (a b : ByteArray) : Bool := Op.bytesLess a.data.toList b.data.toList
theorem lessL_eq (x y : List UInt8) : Op.bytesLess x y = decide (x < y) := by rw [bytesLess_eq]
theorem lessB_irrefl (x : ByteArray) : lessB x x = false := by
  unfold lessB
  rw [bytesLess_eq]
  simp
theorem lessB_trans {x y z : ByteArray} (h : lessB x y = true) (k : lessB y z = true) : lessB x z = true := by
  unfold lessB at *
  rw [bytesLess_eq, decide_eq_true_eq] at *
  exact List.lt_trans h k
theorem lessB_tri {x y : ByteArray} (h : lessB x y = false) (k : lessB y x = false) : x = y := by
  unfold lessB at *
  rw [bytesLess_eq, decide_eq_false_iff_not] at *
  apply ByteArray.ext
  apply Array.toList_inj.1
  exact List.le_antisymm (List.not_lt.1 k) (List.not_lt.1 h)

/-- Where a name stands, or would stand. -/
def posM : List Xm → ByteArray → Nat
  | [], _ => 0
  | a :: r, x => if lessB a.n x then posM r x + 1 else 0
def hereM : List Xm → ByteArray → Bool
  | [], _ => false
  | a :: r, x => if lessB a.n x then hereM r x else decide (a.n = x)
def putM : List Xm → Xm → List Xm
  | [], m => [m]
  | a :: r, m => if lessB a.n m.n then a :: putM r m else if a.n = m.n then m :: r else m :: a :: r
def delM : List Xm → ByteArray → List Xm
  | [], _ => []
  | a :: r, x => if lessB a.n x then a :: delM r x else if a.n = x then r else a :: r
def Rises (L : List Xm) : Prop := L.Pairwise fun a b => lessB a.n b.n = true

theorem posM_le : ∀ (L : List Xm) (x : ByteArray), posM L x ≤ L.length
  | [], _ => Nat.le_refl _
  | a :: r, x => by
    unfold posM
    split
    · have := posM_le r x
      simp only [List.length_cons]
      omega
    · exact Nat.zero_le _
theorem posM_step : ∀ (L : List Xm) (x : ByteArray) (k : Nat) (a : Xm), L[k]? = some a → k < posM L x → lessB a.n x = true
  | [], _, _, _, h, _ => by simp at h
  | b :: r, x, 0, a, h, hk => by
    simp only [List.getElem?_cons_zero, Option.some.injEq] at h
    subst h
    unfold posM at hk
    split at hk
    · assumption
    · omega
  | b :: r, x, k + 1, a, h, hk => by
    unfold posM at hk
    split at hk
    · exact posM_step r x k a (by simpa using h) (by omega)
    · omega
theorem posM_at : ∀ (L : List Xm) (x : ByteArray) (a : Xm), L[posM L x]? = some a → lessB a.n x = false ∧ hereM L x = decide (a.n = x)
  | [], _, _, h => by simp [posM] at h
  | b :: r, x, a, h => by
    unfold posM at h
    unfold hereM
    split at h
    · rename_i hb
      rw [if_pos hb]
      exact posM_at r x a (by simpa using h)
    · rename_i hb
      rw [if_neg hb]
      simp only [List.getElem?_cons_zero, Option.some.injEq] at h
      subst h
      exact ⟨by simpa using hb, rfl⟩
theorem posM_end : ∀ (L : List Xm) (x : ByteArray), L.length ≤ posM L x → hereM L x = false
  | [], _, _ => rfl
  | b :: r, x, h => by
    unfold posM at h
    unfold hereM
    split at h
    · rename_i hb
      rw [if_pos hb]
      exact posM_end r x (by simpa using h)
    · simp at h
theorem putM_is : ∀ (L : List Xm) (m : Xm), putM L m = L.take (posM L m.n) ++ m :: L.drop (posM L m.n + if hereM L m.n then 1 else 0)
  | [], m => rfl
  | a :: r, m => by
    unfold putM posM hereM
    by_cases h : lessB a.n m.n = true
    · rw [if_pos h, if_pos h, if_pos h, putM_is r m, List.take_succ_cons, show posM r m.n + 1 + (if hereM r m.n then 1 else 0) = (posM r m.n + if hereM r m.n then 1 else 0) + 1 from by omega, List.drop_succ_cons]
      rfl
    · rw [if_neg h, if_neg h, if_neg h]
      by_cases e : a.n = m.n
      · rw [if_pos e, decide_eq_true e]
        rfl
      · rw [if_neg e, decide_eq_false e]
        rfl
theorem delM_is : ∀ (L : List Xm) (x : ByteArray), delM L x = if hereM L x then L.take (posM L x) ++ L.drop (posM L x + 1) else L
  | [], x => rfl
  | a :: r, x => by
    unfold delM posM hereM
    by_cases h : lessB a.n x = true
    · rw [if_pos h, if_pos h, if_pos h, delM_is r x]
      split
      · rw [List.take_succ_cons, List.drop_succ_cons]
        rfl
      · rfl
    · rw [if_neg h, if_neg h, if_neg h]
      by_cases e : a.n = x
      · rw [if_pos e, decide_eq_true e]
        rfl
      · rw [if_neg e, decide_eq_false e]
        rfl
theorem look_cons (x : ByteArray) (a : Xm) (r : List Xm) : look x (a :: r) = if a.n = x then some a else look x r := by
  unfold look
  rw [List.find?_cons]
  by_cases e : a.n = x <;> simp [e]
theorem look_not {x : ByteArray} : ∀ {L : List Xm}, (∀ a ∈ L, a.n ≠ x) → look x L = none
  | [], _ => rfl
  | a :: r, h => by rw [look_cons, if_neg (h a (List.mem_cons_self ..)), look_not fun b hb => h b (List.mem_cons_of_mem _ hb)]
theorem look_here : ∀ {L : List Xm}, Rises L → ∀ x, look x L = if hereM L x then L[posM L x]? else none
  | [], _, _ => rfl
  | a :: r, h, x => by
    obtain ⟨h1, h2⟩ := List.pairwise_cons.1 h
    rw [look_cons]
    unfold hereM posM
    by_cases hb : lessB a.n x = true
    · rw [if_pos hb, if_pos hb, if_neg (fun e => by rw [e, lessB_irrefl] at hb; cases hb), look_here h2 x]
      simp
    · rw [if_neg hb, if_neg hb]
      by_cases e : a.n = x
      · rw [if_pos e, decide_eq_true e]
        rfl
      · rw [if_neg e, decide_eq_false e]
        refine look_not fun b hb' e' => ?_
        have := h1 b hb'
        rw [e'] at this
        exact hb this
theorem look_put : ∀ {L : List Xm}, Rises L → ∀ (m : Xm) (y : ByteArray), look y (putM L m) = if y = m.n then some m else look y L
  | [], _, m, y => by
    show look y [m] = _
    rw [look_cons]
    by_cases e : y = m.n
    · rw [if_pos e, if_pos e.symm]
    · rw [if_neg e, if_neg fun x => e x.symm]
  | a :: r, h, m, y => by
    obtain ⟨h1, h2⟩ := List.pairwise_cons.1 h
    unfold putM
    by_cases hb : lessB a.n m.n = true
    · rw [if_pos hb, look_cons, look_put h2, look_cons]
      by_cases e : a.n = y
      · rw [if_pos e, if_pos e, if_neg (fun x => by rw [← e] at x; rw [x, lessB_irrefl] at hb; cases hb)]
      · rw [if_neg e, if_neg e]
    · rw [if_neg hb]
      by_cases e : a.n = m.n
      · rw [if_pos e, look_cons, look_cons]
        by_cases ey : y = m.n
        · rw [if_pos ey, if_pos ey.symm]
        · rw [if_neg ey, if_neg (fun x => ey x.symm), if_neg (fun x => ey (by rw [← x, e]))]
      · rw [if_neg e, look_cons]
        by_cases ey : y = m.n
        · rw [if_pos ey, if_pos ey.symm]
        · rw [if_neg ey, if_neg fun x => ey x.symm]
theorem putM_mem : ∀ (L : List Xm) (m b : Xm), b ∈ putM L m → b = m ∨ b ∈ L
  | [], m, b, h => by
    rcases List.mem_cons.1 h with h | h
    · exact .inl h
    · cases h
  | a :: r, m, b, h => by
    unfold putM at h
    split at h
    · rcases List.mem_cons.1 h with h | h
      · exact .inr (h ▸ List.mem_cons_self ..)
      · exact (putM_mem r m b h).imp id (List.mem_cons_of_mem _)
    · split at h
      · rcases List.mem_cons.1 h with h | h
        · exact .inl h
        · exact .inr (List.mem_cons_of_mem _ h)
      · rcases List.mem_cons.1 h with h | h
        · exact .inl h
        · exact .inr h
theorem rises_put : ∀ {L : List Xm}, Rises L → ∀ m : Xm, Rises (putM L m)
  | [], _, m => List.pairwise_singleton _ _
  | a :: r, h, m => by
    obtain ⟨h1, h2⟩ := List.pairwise_cons.1 h
    unfold putM
    by_cases hb : lessB a.n m.n = true
    · rw [if_pos hb]
      refine List.pairwise_cons.2 ⟨fun b hbm => ?_, rises_put h2 m⟩
      rcases putM_mem r m b hbm with rfl | hbm
      · exact hb
      · exact h1 b hbm
    · rw [if_neg hb]
      by_cases e : a.n = m.n
      · rw [if_pos e]
        exact List.pairwise_cons.2 ⟨fun b hbm => e ▸ h1 b hbm, h2⟩
      · rw [if_neg e]
        have hma : lessB m.n a.n = true := by
          cases hc : lessB m.n a.n with
          | true => rfl
          | false => exact absurd (lessB_tri (by simpa using hb) hc) e
        refine List.pairwise_cons.2 ⟨fun b hbm => ?_, h⟩
        rcases List.mem_cons.1 hbm with rfl | hbm
        · exact hma
        · exact lessB_trans hma (h1 b hbm)
theorem delM_mem : ∀ (L : List Xm) (x : ByteArray) (b : Xm), b ∈ delM L x → b ∈ L
  | [], x, b, h => by cases h
  | a :: r, x, b, h => by
    unfold delM at h
    split at h
    · rcases List.mem_cons.1 h with h | h
      · exact h ▸ List.mem_cons_self ..
      · exact List.mem_cons_of_mem _ (delM_mem r x b h)
    · split at h
      · exact List.mem_cons_of_mem _ h
      · exact h
theorem rises_del : ∀ {L : List Xm}, Rises L → ∀ x : ByteArray, Rises (delM L x)
  | [], _, x => List.Pairwise.nil
  | a :: r, h, x => by
    obtain ⟨h1, h2⟩ := List.pairwise_cons.1 h
    unfold delM
    split
    · exact List.pairwise_cons.2 ⟨fun b hb => h1 b (delM_mem r x b hb), rises_del h2 x⟩
    · split
      · exact h2
      · exact h
theorem look_del : ∀ {L : List Xm}, Rises L → ∀ (x y : ByteArray), look y (delM L x) = if y = x then none else look y L
  | [], _, x, y => by
    show none = _
    split <;> rfl
  | a :: r, h, x, y => by
    obtain ⟨h1, h2⟩ := List.pairwise_cons.1 h
    unfold delM
    by_cases hb : lessB a.n x = true
    · rw [if_pos hb, look_cons, look_del h2, look_cons]
      by_cases e : a.n = y
      · rw [if_pos e, if_pos e, if_neg (fun k => by rw [e, k, lessB_irrefl] at hb; cases hb)]
      · rw [if_neg e, if_neg e]
    · rw [if_neg hb]
      by_cases e : a.n = x
      · rw [if_pos e, look_cons]
        by_cases ey : y = x
        · rw [if_pos ey, ey]
          exact look_not fun b hb' e' => by
            have := h1 b hb'
            rw [e, e', lessB_irrefl] at this
            cases this
        · rw [if_neg ey, if_neg (fun k => ey (k.symm.trans e))]
      · rw [if_neg e]
        by_cases ey : y = x
        · rw [if_pos ey, ey]
          refine look_not fun b hb' e' => ?_
          rcases List.mem_cons.1 hb' with rfl | hb'
          · exact e e'
          · have := h1 b hb'
            rw [e'] at this
            exact hb this
        · rw [if_neg ey]

end Go.Proofs.Ytmghocfkekggaaa

/-
  A macro as new memory, its parameters' row in a block of its own.
-/
namespace Go.Proofs.Ytmghocfkekggaaa
open Go.RowKit Go.Maps

/-- A macro that was cloned: its parameters lie in a new block. -/
def MacFar (W : World) (m : Xm) (e : Ending) (w' : World) : Prop := ∃ pv bv, e = .returned (macV m pv bv) ∧ MacAt m pv bv w' ∧ Below W.heap.size W w' ∧ ∀ g, pv.ownBlock = some g → W.heap.size ≤ g

set_option maxRecDepth 100000 in
set_option maxHeartbeats 6400000 in
theorem mclone_far {m : Xm} {pv bv : Value} {w : World} (h : MacAt m pv bv w) (hp : m.ps.length ≤ 500000) (hb : m.bd.length ≤ 500000) (hs : ∀ t ∈ m.bd, t.ss.length ≤ 500000) :
    Calls Try.prog 28 #[macV m pv bv] w (MacFar w m) := by
  obtain ⟨a1, n1, c1, rfl⟩ := h.1.form
  obtain ⟨a2, n2, c2, rfl⟩ := h.2.form
  have HL : Hid (n1 = m.ps.length) := Lib.hid h.1.len.1
  unfold macV
  have HP : Hid (∀ X : World, Below w.heap.size w X → Calls Try.prog 46 #[.slice a1 n1 c1] X (NewAt X 9 1 n1 (m.ps.map Value.string))) := Lib.hid (fun X hX => cloneStr_any (h.1.over hX) hp)
  have HT : Hid (∀ X : World, Below w.heap.size w X → Calls Try.prog 47 #[.slice a2 n2 c2] X (ToksNew X m.bd)) := Lib.hid (fun X hX => tclone_any (h.2.over hX) hb hs)
  clear h hp hb hs
  go_enter Try.func28, Try.ntmps28
  go_wp2_with fail
  have hB0 : Below w.heap.size w ((w.alloc (Obj.cells #[.string m.n, .bool m.fn, .bool m.va, .slice a1 n1 c1, .slice a2 n2 c2, .string m.g, .int .i64 m.f, .int .i64 m.t] 38)).alloc (Obj.cells #[.string ⟨#[]⟩, .bool false, .bool false, .slice none 0 0, .slice none 0 0, .string ⟨#[]⟩, .int .i64 0, .int .i64 0] 38)) := ((Below.refl _ _).alloc (Nat.le_refl _) _).alloc (by simp) _
  have hQ1 : ((w.alloc (Obj.cells #[.string m.n, .bool m.fn, .bool m.va, .slice a1 n1 c1, .slice a2 n2 c2, .string m.g, .int .i64 m.f, .int .i64 m.t] 38)).alloc (Obj.cells #[.string ⟨#[]⟩, .bool false, .bool false, .slice none 0 0, .slice none 0 0, .string ⟨#[]⟩, .int .i64 0, .int .i64 0] 38)).heap[w.heap.size]? = some (mObj m (.slice a1 n1 c1) (.slice a2 n2 c2)) := heap_one w _ _
  have hQ2 : ((w.alloc (Obj.cells #[.string m.n, .bool m.fn, .bool m.va, .slice a1 n1 c1, .slice a2 n2 c2, .string m.g, .int .i64 m.f, .int .i64 m.t] 38)).alloc (Obj.cells #[.string ⟨#[]⟩, .bool false, .bool false, .slice none 0 0, .slice none 0 0, .string ⟨#[]⟩, .int .i64 0, .int .i64 0] 38)).heap[w.heap.size + 1]? = some zeroObj := by
    have := heap_alloc_new (w.alloc (Obj.cells #[.string m.n, .bool m.fn, .bool m.va, .slice a1 n1 c1, .slice a2 n2 c2, .string m.g, .int .i64 m.f, .int .i64 m.t] 38)) zeroObj
    rw [show (w.alloc (Obj.cells #[.string m.n, .bool m.fn, .bool m.va, .slice a1 n1 c1, .slice a2 n2 c2, .string m.g, .int .i64 m.f, .int .i64 m.t] 38)).heap.size = w.heap.size + 1 from by simp] at this
    exact this
  obtain ⟨w1, hw1⟩ : ∃ w1, ((w.alloc (Obj.cells #[.string m.n, .bool m.fn, .bool m.va, .slice a1 n1 c1, .slice a2 n2 c2, .string m.g, .int .i64 m.f, .int .i64 m.t] 38)).alloc (Obj.cells #[.string ⟨#[]⟩, .bool false, .bool false, .slice none 0 0, .slice none 0 0, .string ⟨#[]⟩, .int .i64 0, .int .i64 0] 38)) = w1 := ⟨_, rfl⟩
  obtain ⟨b1, hb1⟩ : ∃ b1, w.heap.size = b1 := ⟨_, rfl⟩
  rw [hw1] at hB0 hQ1 hQ2 ⊢
  have HBL : Hid (w.heap.size ≤ b1) := Lib.hid (by omega)
  rw [hb1] at hQ1 hQ2 ⊢
  have HB0 := Lib.hid hB0
  have HQ1 := Lib.hid hQ1
  have HQ2 := Lib.hid hQ2
  clear hw1 hb1 hB0 hQ1 hQ2
  (with_reducible refine (HP.out _ HB0.out).mono ?_)
  rintro e w2 ⟨pa, pc, rfl, hu2⟩
  have h12 := row_lt HQ1.out
  have h22 := row_lt HQ2.out
  have hm2 := (hu2.2.block b1 h12).trans HQ1.out
  have hz2 := (hu2.2.block (b1 + 1) h22).trans HQ2.out
  obtain ⟨⟨-, -, -, q3, q4, -⟩, qf⟩ := mObj_cells hm2
  have f3 := qf 3
  have f4 := qf 4
  have hm3 : (w2.setCell ⟨b1, 3, none⟩ (.slice pa n1 pc)).heap[b1]? = some (mObj m (.slice pa n1 pc) (.slice a2 n2 c2)) := (heap_setCell_same w2 b1 3 _ _ _ hm2).trans rfl
  have hz3 : (w2.setCell ⟨b1, 3, none⟩ (.slice pa n1 pc)).heap[b1 + 1]? = some zeroObj := (heap_setCell_other w2 _ (b1 + 1) _ (by simp)).trans hz2
  have hB3 : Below w.heap.size w (w2.setCell ⟨b1, 3, none⟩ (.slice pa n1 pc)) := (below_up HB0.out hu2.2).setCell (p := ⟨b1, 3, none⟩) HBL.out _
  have hr3 : (w2.setCell ⟨b1, 3, none⟩ (.slice pa n1 pc)).ownsRow w1.heap.size 9 1 (.slice pa n1 pc) n1 (m.ps.map Value.string) := ownsRow_over hu2.1 fun g hg => heap_setCell_other w2 _ g _ (row_ne hu2.1 hm2 (fun cs e => by
    unfold mObj at e
    simp only [Obj.cells.injEq] at e
    exact absurd e.2.1 (by decide)) g hg)
  have HM3 := Lib.hid hm3
  have HZ3 := Lib.hid hz3
  have HB3 := Lib.hid hB3
  have HR3 := Lib.hid hr3
  clear hu2 h12 h22 hm2 hz2 qf hm3 hz3 hB3 hr3
  go_wp2_with fail
  obtain ⟨w3, hw3⟩ : ∃ w3, w2.setCell ⟨b1, 3, none⟩ (.slice pa n1 pc) = w3 := ⟨_, rfl⟩
  rw [hw3] at HM3 HZ3 HB3 HR3 ⊢
  clear hw3 q3 q4 f3 f4
  (with_reducible refine (HT.out _ HB3.out).mono ?_)
  rintro e w4 ⟨ba, bn, bc, rfl, -, ht4, hb4⟩
  have hm4 := (hb4.block b1 (row_lt HM3.out)).trans HM3.out
  have hz4 := (hb4.block (b1 + 1) (row_lt HZ3.out)).trans HZ3.out
  obtain ⟨⟨m0, m1, m2, m3, m4, m5, m6, m7⟩, mf⟩ := mObj_cells hm4
  have f3 := mf 3
  have f4 := mf 4
  obtain ⟨z0, z1, z2, z3, z4, z5, z6, z7, zf⟩ := zero_cells hz4
  have g0 := zf 0
  have g1 := zf 1
  have g2 := zf 2
  have g3 := zf 3
  have g4 := zf 4
  have g5 := zf 5
  have g6 := zf 6
  have g7 := zf 7
  have hr4 : w4.ownsRow w1.heap.size 9 1 (.slice pa n1 pc) n1 (m.ps.map Value.string) := ownsRow_over HR3.out fun g hg => hb4.block g (World.ownsRow.lt HR3.out g hg).2
  have HFAR : Hid (∀ g, (Value.slice pa n1 pc).ownBlock = some g → w.heap.size ≤ g) := Lib.hid (fun g hg => Nat.le_trans HB0.out.size (World.ownsRow.lt hr4 g hg).1)
  have HEND := Lib.hid (clone_end (m := m) (pv := .slice pa n1 pc) (bv := .slice a2 n2 c2) hm4 hz4 (below_up HB3.out hb4) HBL.out (Nat.le_succ_of_le HBL.out) (by simp) rfl ⟨_, _, _, rfl⟩ HL.out hr4 ht4)
  clear ht4 hb4 hm4 hz4 mf zf hr4
  go_wp2
  obtain ⟨w5, hw5, ⟨y0, y1, y2, y3, y4, y5, y6, y7⟩, HF⟩ := HEND.out
  change bodyPost _ _ _ _ _ (sto8 (w4.setCell ⟨b1, 4, none⟩ (.slice ba bn bc)) (b1 + 1) (.string m.n) (.bool m.fn) (.bool m.va) (.slice pa n1 pc) (.slice ba bn bc) (.string m.g) (.int .i64 m.f) (.int .i64 m.t))
  rw [hw5]
  exact bodyPost_ret (v := .agg #[.string m.n, .bool m.fn, .bool m.va, .slice pa n1 pc, .slice ba bn bc, .string m.g, .int .i64 m.f, .int .i64 m.t]) (by simp [results, Try.results28, go_sem, y0, y1, y2, y3, y4, y5, y6, y7]) rfl ⟨_, _, rfl, HF.out.1, HF.out.2, HFAR.out⟩

end Go.Proofs.Ytmghocfkekggaaa
