/-
  Texts of the proof, put together: McAdd, McPar.
-/
import Derived.Test.YtmghocfkekggaaaG18
import Derived.StillTailTactics

/-
  A parameter, behind the others: the reader's add and param.
-/
namespace Go.Proofs.Ytmghocfkekggaaa
open Go.RowKit Go.Maps

theorem Try.infoStrM : (Try.prog.info? 9).map (fun i => (i.zero, i.size, i.bytes)) = some (some (.string ⟨#[]⟩), 1, 16) := by kernel_rfl
theorem zeroM (w : World) : (zeroValue 3).run Try.prog w = .ok (.int .i64 0) w := by kernel_rfl

theorem lit_ne {x s : ByteArray} (h : x ≠ s) : Lit.string x.data.toList ≠ Lit.string s.data.toList := by
  intro e
  simp only [Lit.string.injEq] at e
  apply h
  apply ByteArray.ext
  exact Array.toList_inj.1 e
theorem memB_more (x s : ByteArray) (ps : List ByteArray) : memB x (ps ++ [s]) = (memB x ps || decide (s = x)) := by
  unfold memB
  simp
theorem has_more {D d : DataW Unit} {ps : List ByteArray} {s : ByteArray} (hD : IsMap D) (h : ∀ x : ByteArray, Maps.has D (.string x.data.toList) = memB x ps) (x : ByteArray) : Maps.has (D.put (.string s.data.toList) d) (.string x.data.toList) = memB x (ps ++ [s]) := by
  rw [memB_more]
  by_cases e : s = x
  · subst e
    rw [has_put_same hD (by simp [WideAt.IsKeyLit])]
    simp
  · rw [has_put_other (fun h => lit_ne (fun y => e y.symm) h), h]
    simp [e]

/-- A look at the map. -/
theorem Rd.look {W : World} {p mb : Nat} {m : Xm} {pv bv : Value} {R : List Xt} {rv : Value} {w : World} (h : Rd W p mb m pv bv R rv w) (s : ByteArray) (hs : s.size ≤ maxLen) :
    ∃ c, ∀ n, (Instr.lookup 74 (.map (some mb)) (.string s) true).run Try.prog (w.drewN n) = .ok (.tuple #[.int .i64 c, .bool (memB s m.ps)]) (w.drewN n) := by
  obtain ⟨D, hD, hM⟩ := h.map
  obtain ⟨v, ps, hr, hv⟩ := hD.look_ok strKeyM Try.underlying74 (zeroM w) (zd := .lit (.int .i64 0)) (zp := []) rfl (keyM s hs)
  obtain ⟨c, rfl, hc⟩ := numElem_inv hv
  refine ⟨c, fun n => ?_⟩
  have hD' : (w.drewN n).ownsMap Try.prog 9 numElem mb m.ps.length D := ownsMap_over hD rfl
  obtain ⟨v2, ps2, hr2, hv2⟩ := hD'.look_ok strKeyM Try.underlying74 (zeroM _) (zd := .lit (.int .i64 0)) (zp := []) rfl (keyM s hs)
  obtain ⟨c2, rfl, hc2⟩ := numElem_inv hv2
  rw [hc] at hc2
  simp only [DataW.lit.injEq, Lit.int.injEq, true_and] at hc2
  rw [hM] at hr2
  rw [hc2]
  exact hr2

theorem Rd.look0 {W : World} {p mb : Nat} {m : Xm} {pv bv : Value} {R : List Xt} {rv : Value} {w : World} (h : Rd W p mb m pv bv R rv w) (s : ByteArray) (hs : s.size ≤ maxLen) :
    ∃ c, (Instr.lookup 74 (.map (some mb)) (.string s) true).run Try.prog w = .ok (.tuple #[.int .i64 c, .bool (memB s m.ps)]) w := by
  obtain ⟨c, hc⟩ := h.look s hs
  exact ⟨c, hc 0⟩

/-- The map has it, the row not yet. -/
structure AddM (W : World) (p mb : Nat) (m : Xm) (pv bv : Value) (R : List Xt) (rv : Value) (s : ByteArray) (w : World) : Prop where
  obj : w.heap[p]? = some (rdObj m pv bv rv mb)
  low : W.heap.size ≤ p ∧ W.heap.size ≤ mb
  map : ∃ D, w.ownsMap Try.prog 9 numElem mb (m.ps.length + 1) D ∧ ∀ x : ByteArray, Maps.has D (.string x.data.toList) = memB x (m.ps ++ [s])
  par : w.ownsRow W.heap.size 9 1 pv m.ps.length (m.ps.map Value.string)
  rest : ToksX R rv W
  bel : Below W.heap.size W w
  ne : p ≠ mb ∧ ∀ g, pv.ownBlock = some g → g ≠ p ∧ g ≠ mb
  sit : ∀ t ∈ R, t.ss.length ≤ 500000
  sht : ∀ t ∈ R, t.x.size ≤ maxLen

theorem Rd.addM {W : World} {p mb : Nat} {m : Xm} {pv bv : Value} {R : List Xt} {rv : Value} {s : ByteArray} {D d : DataW Unit} {w w1 : World} (h : Rd W p mb m pv bv R rv w) (hM : ∀ x : ByteArray, Maps.has D (.string x.data.toList) = memB x m.ps) (hD : IsMap D)
    (h1 : w1.ownsMap Try.prog 9 numElem mb (m.ps.length + 1) (D.put (.string s.data.toList) d)) (g : w.grownBy w1 (some mb)) : AddM W p mb m pv bv R rv s w1 := by
  have hnp := h.ne_par
  have hnm := h.ne_map
  refine ⟨(g.block p h.lt (by simp [hnm])).trans h.obj, h.low, ⟨_, h1, has_more hD hM⟩, ownsRow_over h.par fun k hk => g.block k (World.ownsRow.lt h.par k hk).2 (by simp [(hnp k hk).2]), h.rest, h.bel.grown g h.bel.size (fun k hk => by cases hk; exact h.low.2), ⟨hnm, hnp⟩, h.sit, h.sht⟩
theorem AddM.cells {W : World} {p mb : Nat} {m : Xm} {pv bv : Value} {R : List Xt} {rv : Value} {s : ByteArray} {w : World} (h : AddM W p mb m pv bv R rv s w) : w.cell? ⟨p, 3, none⟩ = some pv ∧ p < w.heap.size := by
  have ho := h.obj
  unfold rdObj at ho
  exact ⟨by rw [Lib.cell_of_heap ho]; rfl, row_lt ho⟩
theorem AddM.done {W : World} {p mb : Nat} {m : Xm} {pv bv pv' : Value} {R : List Xt} {rv : Value} {s : ByteArray} {w w3 : World} {o : Obj} (h : AddM W p mb m pv bv R rv s w) (hr : w3.ownsRow W.heap.size 9 1 pv' (m.ps.length + 1) (m.ps.map Value.string ++ [.string s])) (g : (w.alloc o).grownBy w3 pv.ownBlock) :
    w3.frozen? ⟨p, 3, none⟩ = false ∧ w3.cell? ⟨p, 3, none⟩ = some pv ∧ (m.ps.length + 1 + R.length ≤ 500000 → Rd W p mb { m with ps := m.ps ++ [s] } pv' bv R rv (w3.setCell ⟨p, 3, none⟩ pv')) := by
  obtain ⟨D, hD, hM⟩ := h.map
  have ho := h.obj
  have hpl := row_lt ho
  have hml := hD.lt
  have e3 : ∀ k, k < w.heap.size → (∀ b, pv.ownBlock = some b → b ≠ k) → w3.heap[k]? = w.heap[k]? := fun k hk hb =>
    (g.block k (by simp; omega) (fun e => hb k e.symm rfl)).trans (Below.heap_alloc w o k hk)
  have ho3 : w3.heap[p]? = some (rdObj m pv bv rv mb) := (e3 p hpl fun b hb => (h.ne.2 b hb).1).trans ho
  have hm3 : w3.heap[mb]? = w.heap[mb]? := e3 mb hml fun b hb => (h.ne.2 b hb).2
  refine ⟨Lib.frozen_of_heap ho3 _, by unfold rdObj at ho3; rw [Lib.cell_of_heap ho3]; rfl, fun hf => ?_⟩
  have hrn : ∀ k, pv'.ownBlock = some k → k ≠ p := row_ne hr ho3 (fun cs e => by
    unfold rdObj at e
    simp only [Obj.cells.injEq] at e
    exact absurd e.2.1 (by decide))
  have hB3 : Below W.heap.size W w3 := (h.bel.alloc h.bel.size o).grown g (Nat.le_trans h.bel.size (by simp)) fun k hk => (World.ownsRow.lt h.par k hk).1
  unfold rdObj at ho3
  refine ⟨(heap_setCell_same w3 p 3 _ _ pv' ho3).trans rfl, h.low, ⟨D, ?_, hM⟩, ?_, h.rest, hB3.setCell (p := ⟨p, 3, none⟩) h.low.1 _, by simpa using hf, h.sit, h.sht⟩
  · rw [List.length_append]
    exact ownsMap_over hD ((heap_setCell_other w3 _ mb pv' fun e => h.ne.1 e.symm).trans hm3)
  · rw [List.length_append, List.map_append]
    exact ownsRow_over hr fun k hk => heap_setCell_other w3 _ k pv' fun e => hrn k hk e
theorem Rd.drew {W : World} {p mb : Nat} {m : Xm} {pv bv : Value} {R : List Xt} {rv : Value} {w : World} (h : Rd W p mb m pv bv R rv w) : Rd W p mb m pv bv R rv w.drew := h.over (Below.refl _ _).drew

set_option maxRecDepth 100000 in
set_option maxHeartbeats 3200000 in
theorem madd_any {W : World} {p mb : Nat} {m : Xm} {pv bv : Value} {R : List Xt} {rv : Value} {w : World} (h : Rd W p mb m pv bv R rv w) (s : ByteArray) (hs : s.size ≤ maxLen) (hf : m.ps.length + 1 + R.length ≤ 500000) :
    Calls Try.prog 53 #[.pointer (some ⟨p, 0, none⟩), .string s] w (RdEnd W p mb (!memB s m.ps) (if memB s m.ps then m else { m with ps := m.ps ++ [s] }) R) := by
  obtain ⟨c, hlook⟩ := h.look0 s hs
  obtain ⟨-, -, -, k3, -, -, -, -, -, k9⟩ := h.cells
  cases hb : memB s m.ps with
  | true =>
    rw [hb] at hlook
    have HR := Lib.hid h
    clear h hb
    go_enter Try.func53, Try.ntmps53
    go_wp2
    go_ret
    exact ⟨rfl, _, _, _, HR.out⟩
  | false =>
    rw [hb] at hlook
    obtain ⟨i0, hi, hz0, hz1, hz2⟩ := info_parts Try.infoStrM
    obtain ⟨a, cap, hv, hc1, hc2, -⟩ := row_form h.par
    obtain ⟨D, hD, hM⟩ := h.map
    have HR := Lib.hid h
    have HD := Lib.hid hD
    have HM := Lib.hid hM
    have HKEY := Lib.hid (keyM s hs)
    have HF := Lib.hid hf
    obtain ⟨N, hN⟩ : ∃ N, m.ps.length = N := ⟨_, rfl⟩
    have hn5 : N ≤ 500000 := by omega
    rw [hN] at hv hc1
    have HN := Lib.hid hN
    unfold maxLen at hc2
    subst hv
    clear h hb hD hM hf hN hs
    go_enter Try.func53, Try.ntmps53
    go_wp2
    go_still_tail 11, (by kernel_rfl)
    change wpList _ _ _ _ _ w.drew
    have HRd : Hid (Rd W p mb m (.slice a N cap) bv R rv w.drew) := Lib.hid HR.out.drew
    have HDd : Hid (w.drew.ownsMap Try.prog 9 numElem mb N D) := Lib.hid (by have := HD.out.drew; rw [HN.out] at this; exact this)
    obtain ⟨w2, hw2⟩ : ∃ w2, w.drew = w2 := ⟨_, rfl⟩
    rw [hw2] at HRd HDd ⊢
    clear hw2 hlook k3 k9
    go_wp2_with (first
      | (at_mapUpdate; refine wpList_mapUpdate_own _ rfl _ _ _ 74 rfl 9 3 strKeyM Try.underlying74 numElem mb N D rfl HDd.out (by unfold maxLen; omega) _ _ (.string s.data.toList) rfl rfl HKEY.out (.lit (.int .i64 (N : Int))) [] rfl ?_; intro w3 hown3 hgrow3; have HMid : Hid (AddM W p mb m (.slice a N cap) bv R rv s w3) := Lib.hid (HRd.out.addM HM.out HDd.out.isMap (by rw [HN.out]; exact hown3) hgrow3); obtain ⟨q3, hq⟩ := HMid.out.cells; have HROW : Hid ((w3.alloc (.cells #[.string s] 9)).ownsRow W.heap.size 9 1 (.slice a N cap) N (m.ps.map Value.string)) := Lib.hid (by have := HMid.out.par.alloc (.cells #[.string s] 9); rw [HN.out] at this; exact this); clear hown3 hgrow3)
      | (at_builtin; refine wpList_append_ex rfl (.tmp 33) (.tmp 35) 23 rfl _ (run_app Try.underlying23 hi hz0 hz1 hz2 rfl (by decide) (by decide) HROW.out (src_one _ _ _) (by simp [Value.oneCell']) (by omega) (by have := HMid.out.bel.size; simp; omega)) ?_; rintro v4 w4 ⟨hr4, hg4⟩; have HRow4 := Lib.hid hr4; obtain ⟨z4, y4, hd4⟩ := HMid.out.done (by rw [HN.out]; exact hr4) hg4; have HDone := Lib.hid hd4; obtain ⟨a4, c4, rfl, -, -, -⟩ := row_form hr4; clear hr4 hg4 hd4))
    go_ret
    exact ⟨rfl, _, _, _, HDone.out (by have := HN.out; have := HF.out; omega)⟩

end Go.Proofs.Ytmghocfkekggaaa

/-
  A parameter that has a name: the reader's param.
-/
namespace Go.Proofs.Ytmghocfkekggaaa
open Go.RowKit Go.Maps

def ParPost (W : World) (p mb : Nat) (m : Xm) : List Xt → Ending → World → Prop
  | [] => RdEnd W p mb false m []
  | t :: r => fun e w' => if parB m.ps t then RdEnd W p mb true { m with ps := m.ps ++ [t.x] } r e w' else ∃ R', RdEnd W p mb false m R' e w'

theorem par_no {W : World} {p mb : Nat} {m : Xm} {t : Xt} {r R' : List Xt} {e : Ending} {w' : World} (hE : parB m.ps t = false) (h : RdEnd W p mb false m R' e w') : ParPost W p mb m (t :: r) e w' := by
  show if parB m.ps t then _ else _
  rw [hE]
  exact ⟨_, h⟩
theorem par_yes {W : World} {p mb : Nat} {m : Xm} {t : Xt} {r : List Xt} {e : Ending} {w' : World} (hE : parB m.ps t = true) (h : RdEnd W p mb true { m with ps := m.ps ++ [t.x] } r e w') : ParPost W p mb m (t :: r) e w' := by
  show if parB m.ps t then _ else _
  rw [hE]
  exact h

theorem va_list : vaB.toList = [95, 95, 86, 65, 95, 65, 82, 71, 83, 95, 95] := by rw [ByteArray.toList_eq]
theorem va_is (x : ByteArray) : (x.toList == [95, 95, 86, 65, 95, 65, 82, 71, 83, 95, 95]) = decide (x = vaB) := by rw [← va_list, str_is]

set_option maxRecDepth 100000 in
set_option maxHeartbeats 3200000 in
theorem mparam_any {W : World} {p mb : Nat} {m : Xm} {pv bv : Value} {R : List Xt} {rv : Value} {w : World} (h : Rd W p mb m pv bv R rv w) :
    Calls Try.prog 54 #[.pointer (some ⟨p, 0, none⟩)] w (ParPost W p mb m R) := by
  obtain ⟨a, n, cap, rfl⟩ := h.rest.form
  obtain ⟨-, -, -, -, -, -, -, -, k8, -⟩ := h.cells
  have z8 := h.free 8
  match R, h with
  | [], h =>
    obtain rfl : n = 0 := h.rest.len.1
    have HR := Lib.hid h
    clear h
    go_enter Try.func54, Try.ntmps54
    go_wp2
    go_ret
    exact ⟨rfl, _, _, _, HR.out⟩
  | t :: r, h =>
    obtain ⟨g, o, o', sa, sn, sc, rfl, hn1, hc1, hc2, hx, hr, hrun⟩ := h.first
    obtain ⟨c0, c1, c2, c3, c4, c5, c6, c7⟩ := hx
    have HR := Lib.hid h
    have HT := Lib.hid hr
    have hne : ((n : Int) == 0) = false := by simp; omega
    have HSX := Lib.hid (h.sht t (List.mem_cons_self ..))
    have HFIT : Hid (m.ps.length + 1 + r.length ≤ 500000) := Lib.hid (by have := h.fit; simp only [List.length_cons] at this; omega)
    by_cases hk : t.k = 1
    · have hk' : (t.k != 1) = false := by simp [hk]
      by_cases hv : t.x = vaB
      · have HE : Hid (parB m.ps t = false) := Lib.hid (by unfold parB; simp [hv])
        have hx2 : (t.x.toList == [95, 95, 86, 65, 95, 65, 82, 71, 83, 95, 95]) = true := by rw [va_is]; simp [hv]
        clear h hr hk hv
        go_enter Try.func54, Try.ntmps54
        go_wp2
        go_ret
        exact par_no HE.out ⟨rfl, _, _, _, HR.out⟩
      · have hx2 : (t.x.toList == [95, 95, 86, 65, 95, 65, 82, 71, 83, 95, 95]) = false := by rw [va_is]; simp [hv]
        have HE : Hid (parB m.ps t = !memB t.x m.ps) := Lib.hid (by unfold parB; simp [hv, hk])
        clear h hr hk hv
        go_enter Try.func54, Try.ntmps54
        go_wp2_with (go_at_call 53; refine (madd_any (HR.out.next HT.out) t.x HSX.out HFIT.out).mono ?_; rintro e w1 ⟨rfl, hd⟩; have HD := Lib.hid hd; clear hd)
        go_ret
        cases hm : memB t.x m.ps with
        | true =>
          rw [hm] at HD HE
          exact par_no HE.out ⟨rfl, HD.out⟩
        | false =>
          rw [hm] at HD HE
          exact par_yes HE.out ⟨rfl, HD.out⟩
    · have hk' : (t.k != 1) = true := by simp [hk]
      have HE : Hid (parB m.ps t = false) := Lib.hid (by unfold parB; simp [hk])
      clear h hr hk
      go_enter Try.func54, Try.ntmps54
      go_wp2
      go_ret
      exact par_no HE.out ⟨rfl, _, _, _, HR.out⟩

end Go.Proofs.Ytmghocfkekggaaa
