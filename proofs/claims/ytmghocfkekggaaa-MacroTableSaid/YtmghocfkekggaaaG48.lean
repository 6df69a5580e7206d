/-
  Texts of the proof, put together: MtDef.
-/
import Derived.Test.YtmghocfkekggaaaG46
import Derived.Deep.RegionLaw

/-
  The document's table: a name that is new is defined.
-/
namespace Go.Proofs.Ytmghocfkekggaaa
open Go.RowKit Go.Maps

theorem Up.drewM {W w : World} {e : TypeId} {size : Nat} {v : Value} {n : Nat} {xs : List Value} (h : Up W e size v n xs w) : Up W e size v n xs w.drew := ⟨ownsRow_over h.1 fun _ _ => rfl, h.2.drew⟩
theorem up_e2 {w : World} {o : Obj} : Up w 36 8 (.slice (some ⟨w.heap.size + 1, 0, none⟩) 0 0) 0 [] ((w.alloc o).alloc (.cells #[] 36)) := by
  have h := row_empty (B := w.heap.size) (w := w.alloc o) 36 8 (by simp)
  rw [show (w.alloc o).heap.size = w.heap.size + 1 from by simp] at h
  exact ⟨h, ((Below.refl _ _).alloc (Nat.le_refl _) _).alloc (by simp) _⟩
theorem src_box {w : World} {m : Xm} {pv bv : Value} {g : Nat} (h : w.heap[g]? = some (rObj m pv bv)) : Src w (.slice (some ⟨g, 0, none⟩) 1 1) 1 8 (mcell ⟨m, pv, bv⟩) := by
  refine .inr ⟨_, 1, rfl, rfl, fun j u hj => ?_⟩
  unfold rObj at h
  rw [addr_add, Lib.cell_of_heap h, ← hj, ← Array.getElem?_toList]
  rfl
theorem box_drew {w : World} {b : Nat} {o : Option Obj} (h : w.heap[b]? = o) : w.drew.heap[b]? = o := h
theorem box_new2 (w : World) (o : Obj) (m : Xm) (pv bv : Value) : ((w.alloc o).alloc (rObj m pv bv)).heap[w.heap.size + 1]? = some (rObj m pv bv) := by
  have h0 := heap_alloc_new (w.alloc o) (rObj m pv bv)
  rw [show (w.alloc o).heap.size = w.heap.size + 1 from by simp] at h0
  exact h0
theorem step_mac {ops : Array Oper} {o : Oper} {a : Act} {w : World} {K : Act → World → Prop} {Q : Exit → Act → World → Prop} {E : Prop} (hgd : o.guard = none) (s x : Operand)
    (ho : o.op = .call { callee := .builtin .append, args := #[s, x], argTypes := #[22, 22] })
    (W : World) (d v : Value) (n m : Nat) (xs news : List Value) (hs : a.eval s = d) (hx : a.eval x = v) (hd : Up W 36 8 d n xs w) (hv : Below W.heap.size W w → Src w v m 8 news) (h1 : ∀ u ∈ news, u.oneCell' = true) (hn : n + m ≤ 1000000)
    (h : ∀ v' w', Up W 36 8 v' (n + m) (xs ++ news) w' → w.grownBy w' d.ownBlock → K (a.put o.dst v') w') :
    if Region.wanted o (yielded ops a.tmps) = true then Oper.wp Try.prog o a w K Q else E := by
  have hw : Region.wanted o (yielded ops a.tmps) = true := by simp [Region.wanted, hgd]
  rw [if_pos hw]
  obtain ⟨v', w', hr, h2, h3⟩ := app_mac (ty := o.type) hd (hv hd.2) h1 hn
  unfold Oper.wp execOp
  simp only [ho, resolve, invoke, builtin, Sem.run_bind, Sem.run_pure, Result.andThen_ok, List.map_toArray, List.map_cons, List.map_nil, hs, hx, hr]
  exact h v' w' h2 h3

theorem doc_end {w w2 w5 : World} {q n cap n5 c5 N : Nat} {a a5 : Option Addr} {P' : List Mv} {xs : List Value} (hq : w.heap[q]? = some (docT (.slice a n cap))) (hB2 : Below w.heap.size w w2) (hU : Up w2 36 8 (.slice a5 n5 c5) N xs w5) (hxs : xs = mcells P') (hN : N = P'.length) (hM : ∀ x ∈ P', MacAt x.m x.pv x.bv w) :
    (w5.setCell ⟨q, 0, none⟩ (.slice a5 n5 c5)).heap[q]? = some (docT (.slice a5 n5 c5)) ∧ MRow P' (.slice a5 n5 c5) (w5.setCell ⟨q, 0, none⟩ (.slice a5 n5 c5)) ∧ Turned (fun g => g = q) w (w5.setCell ⟨q, 0, none⟩ (.slice a5 n5 c5)) := by
  have h5 := below_up hB2 hU.2
  have hd5 := (h5.block q (row_lt hq)).trans hq
  have t5 : Turned (fun g => g = q) w5 (w5.setCell ⟨q, 0, none⟩ (.slice a5 n5 c5)) := (Turned.refl (fun g e _ => e ▸ docT_nostr hd5)).grown (grown_setT w5 q 0 _) (fun _ => rfl)
  subst hxs
  refine ⟨(heap_setCell_same w5 q 0 _ _ _ hd5).trans rfl, (mrow_up hU hN fun x hx => (hM x hx).over h5).turn t5, ?_⟩
  exact ((Turned.refl (fun g e _ => e ▸ docT_nostr hq)).below h5).grown (grown_setT w5 q 0 _) (fun _ => rfl)
theorem put_is {P : List Mv} {m : Xm} {pv bv : Value} {k : Nat} (hk : posM (nameL P) m.n = k) (hb : hereM (nameL P) m.n = false) : nameL (P.take k ++ ⟨m, pv, bv⟩ :: P.drop k) = putM (nameL P) m := by
  rw [putM_is, hk, hb]
  unfold nameL
  rw [List.map_append, List.map_cons, List.map_take, List.map_drop]
  rfl
theorem mcells_mid (P : List Mv) (k : Nat) (x : Mv) : [] ++ mcells (P.take k) ++ mcell x ++ mcells (P.drop k) = mcells (P.take k ++ x :: P.drop k) := by
  rw [mcells_append, List.nil_append, List.append_assoc]
  rfl

set_option maxRecDepth 100000 in
set_option maxHeartbeats 6400000 in
theorem rdef_no {w : World} {q : Nat} {lv : Value} {P : List Mv} {x : Mv} (hq : w.heap[q]? = some (docT lv)) (hr : MRow P lv w) (hx : MacAt x.m x.pv x.bv w) (hP : P.length ≤ 100000) (hb : hereM (nameL P) x.m.n = false) :
    Calls Try.prog 14 #[.pointer (some ⟨q, 0, none⟩), macV x.m x.pv x.bv] w (RDefPost w q P x) := by
  obtain ⟨a, n, cap, rfl⟩ := hr.form
  obtain ⟨hn, hc1, hc2, hz⟩ := hr.len
  have hkl := posM_le (nameL P) x.m.n
  have hnl : (nameL P).length = n := by unfold nameL; rw [List.length_map]; exact hn.symm
  rw [hnl] at hkl
  unfold maxLen at hc2
  obtain ⟨k, hk⟩ : ∃ k, posM (nameL P) x.m.n = k := ⟨_, rfl⟩
  have HAT : Hid (∀ X : World, Below w.heap.size w X → Calls Try.prog 29 #[.pointer (some ⟨q, 0, none⟩), .string x.m.n] X fun e w' => e = .returned (.tuple #[.int .i64 (k : Nat), .bool false]) ∧ Below X.heap.size X w') := Lib.hid (fun X hX => by
    have := at_mac ((hX.block q (row_lt hq)).trans hq) (hr.over hX) x.m.n
    unfold MtAtPost at this
    rw [hk, hb] at this
    exact this)
  rw [hk] at hkl
  have HQ := Lib.hid hq
  have HR := Lib.hid hr
  have hk0 : (0 : Int) ≤ (k : Int) := by omega
  obtain ⟨m, pv, bv⟩ := x
  simp only at hx hb hk HAT ⊢
  obtain ⟨a1, n1, c1, rfl⟩ := hx.1.form
  obtain ⟨a2, n2, c2, rfl⟩ := hx.2.form
  have HX := Lib.hid hx
  have HK := Lib.hid hk
  have HBB := Lib.hid hb
  have hql := row_lt hq
  clear hq hr hx hb hk
  unfold macV
  go_enter Try.func14, Try.ntmps14
  go_wp2_with fail
  obtain ⟨w1, hw1⟩ : ∃ w1, w.alloc (Obj.cells #[.string m.n, .bool m.fn, .bool m.va, .slice a1 n1 c1, .slice a2 n2 c2, .string m.g, .int .i64 m.f, .int .i64 m.t] 36) = w1 := ⟨_, rfl⟩
  have hB1 : Below w.heap.size w w1 := by rw [← hw1]; exact (Below.refl _ _).alloc (Nat.le_refl _) _
  have hQ1 : w1.heap[w.heap.size]? = some (rObj m (.slice a1 n1 c1) (.slice a2 n2 c2)) := by rw [← hw1]; exact heap_alloc_new w _
  obtain ⟨b0, hb0⟩ : ∃ b0, w.heap.size = b0 := ⟨_, rfl⟩
  rw [hw1]
  have HBL : Hid (w.heap.size ≤ b0) := Lib.hid (by omega)
  have hqb : q ≠ b0 := by omega
  rw [hb0] at hQ1 ⊢
  have HB1 := Lib.hid hB1
  have HQ1 := Lib.hid hQ1
  have HQL := Lib.hid hql
  clear hw1 hb0 hB1 hQ1 hql
  (with_reducible refine (HAT.out _ HB1.out).mono ?_)
  rintro e w2 ⟨rfl, hb2⟩
  have hB2 := below_up HB1.out hb2
  have hQ2 := (hb2.block b0 (row_lt HQ1.out)).trans HQ1.out
  have hD2 := (hB2.block q HQL.out).trans HQ.out
  obtain ⟨t0, tf⟩ := docT_cell hD2
  obtain ⟨e0, e1, e2, e3, e4, e5, e6, e7⟩ := rObj_cells hQ2
  have R0 := Lib.hid (up_empty w2 36 8)
  have HB2 := Lib.hid hB2
  have HQ2 := Lib.hid hQ2
  have HD2 := Lib.hid hD2
  have hq2 := row_lt hD2
  have hb2 := row_lt hQ2
  clear hB2 hQ2 hD2
  have HONE : Hid (∀ u ∈ mcells (P.take k), u.oneCell' = true) := Lib.hid (fun u hu => mcells_one (P := P.take k) (fun x hx => HR.out.2 x (List.mem_of_mem_take hx)) u hu)
  have HONE3 : Hid (∀ u ∈ mcells (P.drop k), u.oneCell' = true) := Lib.hid (fun u hu => mcells_one (P := P.drop k) (fun x hx => HR.out.2 x (List.mem_of_mem_drop hx)) u hu)
  have HONE2 : Hid (∀ u ∈ mcell (⟨m, .slice a1 n1 c1, .slice a2 n2 c2⟩ : Mv), u.oneCell' = true) := Lib.hid (fun u hu => mcells_one (P := [⟨m, .slice a1 n1 c1, .slice a2 n2 c2⟩]) (w := w) (fun x hx => by
    rw [List.mem_singleton] at hx
    subst hx
    exact HX.out) u (by simpa [mcells] using hu))
  have HSRC1 : Hid (∀ X : World, Below w2.heap.size w2 X → Src X (.slice a k cap) k 8 (mcells (P.take k))) := Lib.hid (fun X hX => msrc_take (HR.out.over (below_up HB2.out hX)) hkl)
  have HSRC3 : Hid (∀ (A : Option Addr) (X : World), ((cap = k ∧ A = a) ∨ (cap ≠ k ∧ A = a.map fun x => x.add (k * 8))) → Below w2.heap.size w2 X → Src X (.slice A (n - k) (cap - k)) (n - k) 8 (mcells (P.drop k))) := Lib.hid (fun A X hA hX => msrc_from (HR.out.over (below_up HB2.out hX)) hkl hA)
  have HN := Lib.hid hn
  have hn5 : n ≤ 100000 := by omega
  have HPUT : Hid (defL (nameL P) m = true) := Lib.hid (by unfold defL; rw [HBB.out]; rfl)
  have HC : Hid ((cap = k) ∨ (cap ≠ k)) := Lib.hid (Nat.decEq cap k |>.casesOn .inr .inl)
  have hki : (k : Int) ≤ (n : Int) := by omega
  have hkc : (k : Int) ≤ (cap : Int) := by omega
  clear hn hP hnl hz
  rcases HC.out with hck | hck
  · have HA : Hid ((cap = k ∧ a = a) ∨ (cap ≠ k ∧ a = a.map fun x => x.add (k * 8))) := Lib.hid (.inl ⟨hck, rfl⟩)
    have HS1 : Hid (∀ X : World, Below w2.heap.size w2 X → Src X (.slice a k k) k 8 (mcells (P.take k))) := Lib.hid (fun X hX => hck ▸ HSRC1.out X hX)
    have HS3 : Hid (∀ X : World, Below w2.heap.size w2 X → Src X (.slice a (n - k) 0) (n - k) 8 (mcells (P.drop k))) := Lib.hid (fun X hX => by have h := HSRC3.out a X (.inl ⟨hck, rfl⟩) hX; rw [hck, Nat.sub_self] at h; exact h)
    go_wp2_with fail
    go_region_law (first
      | (refine step_mac rfl (.tmp 40) (.tmp 46) rfl w2 (.slice (some ⟨w2.heap.size + 1, 0, none⟩) 0 0) (.slice a k k) 0 k [] (mcells (P.take k)) rfl rfl ?_ (HS1.out _) HONE.out (by omega) ?_
         · (repeat first | (with_reducible exact up_e2) | (with_reducible apply Up.drewM)); done
         intro v3 w3 hu3 hg3
         have HCC : Hid (w3.heap[w2.heap.size]? = some (rObj m (.slice a1 n1 c1) (.slice a2 n2 c2))) := ?_
         rotate_left
         · exact Lib.hid ((hg3.block _ (by simp <;> omega) (by simp [Value.ownBlock])).trans (by (repeat (with_reducible apply box_drew)); exact heap_one w2 _ _))
         have y3 := bcell hu3.2 t0 hq2
         have tz3 := (docT_cell ((hu3.2.block q hq2).trans HD2.out)).2
         (obtain ⟨x30, x31, x32, x33, x34, x35, x36, x37⟩ := rObj_cells ((hu3.2.block b0 hb2).trans HQ2.out))
         have jq3 : q < w3.heap.size := Nat.lt_of_lt_of_le hq2 hu3.2.size
         have jb3 : b0 < w3.heap.size := Nat.lt_of_lt_of_le hb2 hu3.2.size
         have U3 := Lib.hid hu3
         clear hu3 hg3)
      | (refine step_mac rfl (.tmp 40) (.tmp 46) rfl w2 (.slice (some ⟨w2.heap.size, 0, none⟩) 0 0) (.slice a k k) 0 k [] (mcells (P.take k)) rfl rfl ?_ (HS1.out _) HONE.out (by omega) ?_
         · (repeat first | (with_reducible exact Up.alloc (up_empty w2 36 8) _) | (with_reducible apply Up.drewM)); done
         intro v3 w3 hu3 hg3
         have HCC : Hid (w3.heap[w2.heap.size + 1]? = some (rObj m (.slice a1 n1 c1) (.slice a2 n2 c2))) := ?_
         rotate_left
         · exact Lib.hid ((hg3.block _ (by simp <;> omega) (by simp [Value.ownBlock])).trans (by (repeat (with_reducible apply box_drew)); exact box_new2 w2 _ _ _ _))
         have y3 := bcell hu3.2 t0 hq2
         have tz3 := (docT_cell ((hu3.2.block q hq2).trans HD2.out)).2
         (obtain ⟨x30, x31, x32, x33, x34, x35, x36, x37⟩ := rObj_cells ((hu3.2.block b0 hb2).trans HQ2.out))
         have jq3 : q < w3.heap.size := Nat.lt_of_lt_of_le hq2 hu3.2.size
         have jb3 : b0 < w3.heap.size := Nat.lt_of_lt_of_le hb2 hu3.2.size
         have U3 := Lib.hid hu3
         clear hu3 hg3)
      | (refine step_mac rfl (.tmp 40) (.tmp 46) rfl w2 (.slice (some ⟨w2.heap.size, 0, none⟩) 0 0) (.slice a k k) 0 k [] (mcells (P.take k)) rfl rfl ?_ (HS1.out _) HONE.out (by omega) ?_
         · (repeat first | (with_reducible exact up_empty w2 36 8) | (with_reducible apply Up.drewM)); done
         intro v3 w3 hu3 hg3
         have y3 := bcell hu3.2 t0 hq2
         have tz3 := (docT_cell ((hu3.2.block q hq2).trans HD2.out)).2
         (obtain ⟨x30, x31, x32, x33, x34, x35, x36, x37⟩ := rObj_cells ((hu3.2.block b0 hb2).trans HQ2.out))
         have jq3 : q < w3.heap.size := Nat.lt_of_lt_of_le hq2 hu3.2.size
         have jb3 : b0 < w3.heap.size := Nat.lt_of_lt_of_le hb2 hu3.2.size
         have U3 := Lib.hid hu3
         clear hu3 hg3)
      | (refine step_mac rfl (.tmp 47) (.tmp 49) rfl w2 v3 (.slice (some ⟨w2.heap.size, 0, none⟩) 1 1) (0 + k) 1 ([] ++ mcells (P.take k)) (mcell ⟨m, .slice a1 n1 c1, .slice a2 n2 c2⟩) rfl rfl ?_ (fun _ => src_box ?_) HONE2.out (by omega) ?_
         · (repeat first | (with_reducible exact U3.out) | (with_reducible apply Up.drewM) | (with_reducible apply Up.alloc)); done
         · (repeat (with_reducible apply box_drew)); exact HCC.out
         intro v4 w4 hu4 hg4
         have y4 := bcell hu4.2 t0 hq2
         have tz4 := (docT_cell ((hu4.2.block q hq2).trans HD2.out)).2
         (obtain ⟨x40, x41, x42, x43, x44, x45, x46, x47⟩ := rObj_cells ((hu4.2.block b0 hb2).trans HQ2.out))
         have jq4 : q < w4.heap.size := Nat.lt_of_lt_of_le hq2 hu4.2.size
         have jb4 : b0 < w4.heap.size := Nat.lt_of_lt_of_le hb2 hu4.2.size
         have U4 := Lib.hid hu4
         clear hu4 hg4)
      | (refine step_mac rfl (.tmp 47) (.tmp 49) rfl w2 v3 (.slice (some ⟨w2.heap.size + 1, 0, none⟩) 1 1) (0 + k) 1 ([] ++ mcells (P.take k)) (mcell ⟨m, .slice a1 n1 c1, .slice a2 n2 c2⟩) rfl rfl ?_ (fun _ => src_box ?_) HONE2.out (by omega) ?_
         · (repeat first | (with_reducible exact U3.out) | (with_reducible apply Up.drewM) | (with_reducible apply Up.alloc)); done
         · (repeat (with_reducible apply box_drew)); exact HCC.out
         intro v4 w4 hu4 hg4
         have y4 := bcell hu4.2 t0 hq2
         have tz4 := (docT_cell ((hu4.2.block q hq2).trans HD2.out)).2
         (obtain ⟨x40, x41, x42, x43, x44, x45, x46, x47⟩ := rObj_cells ((hu4.2.block b0 hb2).trans HQ2.out))
         have jq4 : q < w4.heap.size := Nat.lt_of_lt_of_le hq2 hu4.2.size
         have jb4 : b0 < w4.heap.size := Nat.lt_of_lt_of_le hb2 hu4.2.size
         have U4 := Lib.hid hu4
         clear hu4 hg4)
      | (refine step_mac rfl (.tmp 47) (.tmp 49) rfl w2 v3 (.slice (some ⟨w3.heap.size, 0, none⟩) 1 1) (0 + k) 1 ([] ++ mcells (P.take k)) (mcell ⟨m, .slice a1 n1 c1, .slice a2 n2 c2⟩) rfl rfl ?_ (fun _ => src_box ?_) HONE2.out (by omega) ?_
         · (repeat first | (with_reducible exact U3.out) | (with_reducible apply Up.drewM) | (with_reducible apply Up.alloc)); done
         · (repeat (with_reducible apply box_drew)); exact heap_alloc_new _ _
         intro v4 w4 hu4 hg4
         have y4 := bcell hu4.2 t0 hq2
         have tz4 := (docT_cell ((hu4.2.block q hq2).trans HD2.out)).2
         (obtain ⟨x40, x41, x42, x43, x44, x45, x46, x47⟩ := rObj_cells ((hu4.2.block b0 hb2).trans HQ2.out))
         have jq4 : q < w4.heap.size := Nat.lt_of_lt_of_le hq2 hu4.2.size
         have jb4 : b0 < w4.heap.size := Nat.lt_of_lt_of_le hb2 hu4.2.size
         have U4 := Lib.hid hu4
         clear hu4 hg4)
      | (refine step_mac rfl (.tmp 50) (.tmp 51) rfl w2 v4 (.slice a (n - k) 0) (0 + k + 1) (n - k) ([] ++ mcells (P.take k) ++ mcell ⟨m, .slice a1 n1 c1, .slice a2 n2 c2⟩) (mcells (P.drop k)) rfl rfl ?_ (HS3.out _) HONE3.out (by omega) ?_
         · (repeat first | (with_reducible exact U4.out) | (with_reducible apply Up.drewM) | (with_reducible apply Up.alloc)); done
         intro v5 w5 hu5 hg5
         simp only [Nat.zero_add] at hu5
         obtain ⟨a5, c5, rfl, -, -, -⟩ := row_form hu5.1
         have y5 := bcell hu5.2 t0 hq2
         have tz5 := (docT_cell ((hu5.2.block q hq2).trans HD2.out)).2
         (obtain ⟨x50, x51, x52, x53, x54, x55, x56, x57⟩ := rObj_cells ((hu5.2.block b0 hb2).trans HQ2.out))
         have jq5 : q < w5.heap.size := Nat.lt_of_lt_of_le hq2 hu5.2.size
         have jb5 : b0 < w5.heap.size := Nat.lt_of_lt_of_le hb2 hu5.2.size
         have U5 := Lib.hid hu5
         clear hu5 hg5))
    all_goals go_wp2
    all_goals go_ret
    all_goals (
      obtain ⟨r1, r2, r3⟩ := doc_end (P' := P.take k ++ ⟨m, .slice a1 n1 c1, .slice a2 n2 c2⟩ :: P.drop k) HQ.out HB2.out U5.out (mcells_mid P k _) (by simp only [List.length_append, List.length_take, List.length_cons, List.length_drop]; have := HN.out; omega) (fun y hy => by
        rcases List.mem_append.1 hy with h | h
        · exact HR.out.2 y (List.mem_of_mem_take h)
        · rcases List.mem_cons.1 h with rfl | h
          · exact HX.out
          · exact HR.out.2 y (List.mem_of_mem_drop h))
      exact ⟨ret_bool HPUT.out.symm, _, _, put_is HK.out HBB.out, r1, r2, r3⟩)
  · have HA : Hid ((cap = k ∧ (a.map fun x => x.add (k * 8)) = a) ∨ (cap ≠ k ∧ (a.map fun x => x.add (k * 8)) = a.map fun x => x.add (k * 8))) := Lib.hid (.inr ⟨hck, rfl⟩)
    have HS1 : Hid (∀ X : World, Below w2.heap.size w2 X → Src X (.slice a k cap) k 8 (mcells (P.take k))) := Lib.hid (fun X hX => HSRC1.out X hX)
    have HS3 : Hid (∀ X : World, Below w2.heap.size w2 X → Src X (.slice (a.map fun x => x.add (k * 8)) (n - k) (cap - k)) (n - k) 8 (mcells (P.drop k))) := Lib.hid (fun X hX => HSRC3.out _ X HA.out hX)
    go_wp2_with fail
    go_region_law (first
      | (refine step_mac rfl (.tmp 40) (.tmp 46) rfl w2 (.slice (some ⟨w2.heap.size + 1, 0, none⟩) 0 0) (.slice a k cap) 0 k [] (mcells (P.take k)) rfl rfl ?_ (HS1.out _) HONE.out (by omega) ?_
         · (repeat first | (with_reducible exact up_e2) | (with_reducible apply Up.drewM)); done
         intro v3 w3 hu3 hg3
         have HCC : Hid (w3.heap[w2.heap.size]? = some (rObj m (.slice a1 n1 c1) (.slice a2 n2 c2))) := ?_
         rotate_left
         · exact Lib.hid ((hg3.block _ (by simp <;> omega) (by simp [Value.ownBlock])).trans (by (repeat (with_reducible apply box_drew)); exact heap_one w2 _ _))
         have y3 := bcell hu3.2 t0 hq2
         have tz3 := (docT_cell ((hu3.2.block q hq2).trans HD2.out)).2
         (obtain ⟨x30, x31, x32, x33, x34, x35, x36, x37⟩ := rObj_cells ((hu3.2.block b0 hb2).trans HQ2.out))
         have jq3 : q < w3.heap.size := Nat.lt_of_lt_of_le hq2 hu3.2.size
         have jb3 : b0 < w3.heap.size := Nat.lt_of_lt_of_le hb2 hu3.2.size
         have U3 := Lib.hid hu3
         clear hu3 hg3)
      | (refine step_mac rfl (.tmp 40) (.tmp 46) rfl w2 (.slice (some ⟨w2.heap.size, 0, none⟩) 0 0) (.slice a k cap) 0 k [] (mcells (P.take k)) rfl rfl ?_ (HS1.out _) HONE.out (by omega) ?_
         · (repeat first | (with_reducible exact Up.alloc (up_empty w2 36 8) _) | (with_reducible apply Up.drewM)); done
         intro v3 w3 hu3 hg3
         have HCC : Hid (w3.heap[w2.heap.size + 1]? = some (rObj m (.slice a1 n1 c1) (.slice a2 n2 c2))) := ?_
         rotate_left
         · exact Lib.hid ((hg3.block _ (by simp <;> omega) (by simp [Value.ownBlock])).trans (by (repeat (with_reducible apply box_drew)); exact box_new2 w2 _ _ _ _))
         have y3 := bcell hu3.2 t0 hq2
         have tz3 := (docT_cell ((hu3.2.block q hq2).trans HD2.out)).2
         (obtain ⟨x30, x31, x32, x33, x34, x35, x36, x37⟩ := rObj_cells ((hu3.2.block b0 hb2).trans HQ2.out))
         have jq3 : q < w3.heap.size := Nat.lt_of_lt_of_le hq2 hu3.2.size
         have jb3 : b0 < w3.heap.size := Nat.lt_of_lt_of_le hb2 hu3.2.size
         have U3 := Lib.hid hu3
         clear hu3 hg3)
      | (refine step_mac rfl (.tmp 40) (.tmp 46) rfl w2 (.slice (some ⟨w2.heap.size, 0, none⟩) 0 0) (.slice a k cap) 0 k [] (mcells (P.take k)) rfl rfl ?_ (HS1.out _) HONE.out (by omega) ?_
         · (repeat first | (with_reducible exact up_empty w2 36 8) | (with_reducible apply Up.drewM)); done
         intro v3 w3 hu3 hg3
         have y3 := bcell hu3.2 t0 hq2
         have tz3 := (docT_cell ((hu3.2.block q hq2).trans HD2.out)).2
         (obtain ⟨x30, x31, x32, x33, x34, x35, x36, x37⟩ := rObj_cells ((hu3.2.block b0 hb2).trans HQ2.out))
         have jq3 : q < w3.heap.size := Nat.lt_of_lt_of_le hq2 hu3.2.size
         have jb3 : b0 < w3.heap.size := Nat.lt_of_lt_of_le hb2 hu3.2.size
         have U3 := Lib.hid hu3
         clear hu3 hg3)
      | (refine step_mac rfl (.tmp 47) (.tmp 49) rfl w2 v3 (.slice (some ⟨w2.heap.size, 0, none⟩) 1 1) (0 + k) 1 ([] ++ mcells (P.take k)) (mcell ⟨m, .slice a1 n1 c1, .slice a2 n2 c2⟩) rfl rfl ?_ (fun _ => src_box ?_) HONE2.out (by omega) ?_
         · (repeat first | (with_reducible exact U3.out) | (with_reducible apply Up.drewM) | (with_reducible apply Up.alloc)); done
         · (repeat (with_reducible apply box_drew)); exact HCC.out
         intro v4 w4 hu4 hg4
         have y4 := bcell hu4.2 t0 hq2
         have tz4 := (docT_cell ((hu4.2.block q hq2).trans HD2.out)).2
         (obtain ⟨x40, x41, x42, x43, x44, x45, x46, x47⟩ := rObj_cells ((hu4.2.block b0 hb2).trans HQ2.out))
         have jq4 : q < w4.heap.size := Nat.lt_of_lt_of_le hq2 hu4.2.size
         have jb4 : b0 < w4.heap.size := Nat.lt_of_lt_of_le hb2 hu4.2.size
         have U4 := Lib.hid hu4
         clear hu4 hg4)
      | (refine step_mac rfl (.tmp 47) (.tmp 49) rfl w2 v3 (.slice (some ⟨w2.heap.size + 1, 0, none⟩) 1 1) (0 + k) 1 ([] ++ mcells (P.take k)) (mcell ⟨m, .slice a1 n1 c1, .slice a2 n2 c2⟩) rfl rfl ?_ (fun _ => src_box ?_) HONE2.out (by omega) ?_
         · (repeat first | (with_reducible exact U3.out) | (with_reducible apply Up.drewM) | (with_reducible apply Up.alloc)); done
         · (repeat (with_reducible apply box_drew)); exact HCC.out
         intro v4 w4 hu4 hg4
         have y4 := bcell hu4.2 t0 hq2
         have tz4 := (docT_cell ((hu4.2.block q hq2).trans HD2.out)).2
         (obtain ⟨x40, x41, x42, x43, x44, x45, x46, x47⟩ := rObj_cells ((hu4.2.block b0 hb2).trans HQ2.out))
         have jq4 : q < w4.heap.size := Nat.lt_of_lt_of_le hq2 hu4.2.size
         have jb4 : b0 < w4.heap.size := Nat.lt_of_lt_of_le hb2 hu4.2.size
         have U4 := Lib.hid hu4
         clear hu4 hg4)
      | (refine step_mac rfl (.tmp 47) (.tmp 49) rfl w2 v3 (.slice (some ⟨w3.heap.size, 0, none⟩) 1 1) (0 + k) 1 ([] ++ mcells (P.take k)) (mcell ⟨m, .slice a1 n1 c1, .slice a2 n2 c2⟩) rfl rfl ?_ (fun _ => src_box ?_) HONE2.out (by omega) ?_
         · (repeat first | (with_reducible exact U3.out) | (with_reducible apply Up.drewM) | (with_reducible apply Up.alloc)); done
         · (repeat (with_reducible apply box_drew)); exact heap_alloc_new _ _
         intro v4 w4 hu4 hg4
         have y4 := bcell hu4.2 t0 hq2
         have tz4 := (docT_cell ((hu4.2.block q hq2).trans HD2.out)).2
         (obtain ⟨x40, x41, x42, x43, x44, x45, x46, x47⟩ := rObj_cells ((hu4.2.block b0 hb2).trans HQ2.out))
         have jq4 : q < w4.heap.size := Nat.lt_of_lt_of_le hq2 hu4.2.size
         have jb4 : b0 < w4.heap.size := Nat.lt_of_lt_of_le hb2 hu4.2.size
         have U4 := Lib.hid hu4
         clear hu4 hg4)
      | (refine step_mac rfl (.tmp 50) (.tmp 51) rfl w2 v4 (.slice (a.map fun x => x.add (k * 8)) (n - k) (cap - k)) (0 + k + 1) (n - k) ([] ++ mcells (P.take k) ++ mcell ⟨m, .slice a1 n1 c1, .slice a2 n2 c2⟩) (mcells (P.drop k)) rfl rfl ?_ (HS3.out _) HONE3.out (by omega) ?_
         · (repeat first | (with_reducible exact U4.out) | (with_reducible apply Up.drewM) | (with_reducible apply Up.alloc)); done
         intro v5 w5 hu5 hg5
         simp only [Nat.zero_add] at hu5
         obtain ⟨a5, c5, rfl, -, -, -⟩ := row_form hu5.1
         have y5 := bcell hu5.2 t0 hq2
         have tz5 := (docT_cell ((hu5.2.block q hq2).trans HD2.out)).2
         (obtain ⟨x50, x51, x52, x53, x54, x55, x56, x57⟩ := rObj_cells ((hu5.2.block b0 hb2).trans HQ2.out))
         have jq5 : q < w5.heap.size := Nat.lt_of_lt_of_le hq2 hu5.2.size
         have jb5 : b0 < w5.heap.size := Nat.lt_of_lt_of_le hb2 hu5.2.size
         have U5 := Lib.hid hu5
         clear hu5 hg5))
    all_goals go_wp2
    all_goals go_ret
    all_goals (
      obtain ⟨r1, r2, r3⟩ := doc_end (P' := P.take k ++ ⟨m, .slice a1 n1 c1, .slice a2 n2 c2⟩ :: P.drop k) HQ.out HB2.out U5.out (mcells_mid P k _) (by simp only [List.length_append, List.length_take, List.length_cons, List.length_drop]; have := HN.out; omega) (fun y hy => by
        rcases List.mem_append.1 hy with h | h
        · exact HR.out.2 y (List.mem_of_mem_take h)
        · rcases List.mem_cons.1 h with rfl | h
          · exact HX.out
          · exact HR.out.2 y (List.mem_of_mem_drop h))
      exact ⟨ret_bool HPUT.out.symm, _, _, put_is HK.out HBB.out, r1, r2, r3⟩)

end Go.Proofs.Ytmghocfkekggaaa
