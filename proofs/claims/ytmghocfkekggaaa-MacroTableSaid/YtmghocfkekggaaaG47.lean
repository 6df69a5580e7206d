/-
  Texts of the proof, put together: MtUnd.
-/
import Derived.Test.YtmghocfkekggaaaG46
import Derived.Deep.RegionLaw

/-
  The document's table: a name is undefined.
-/
namespace Go.Proofs.Ytmghocfkekggaaa
open Go.RowKit Go.Maps

theorem Up.drewU {W w : World} {e : TypeId} {size : Nat} {v : Value} {n : Nat} {xs : List Value} (h : Up W e size v n xs w) : Up W e size v n xs w.drew := ⟨ownsRow_over h.1 fun _ _ => rfl, h.2.drew⟩
theorem step_macU {ops : Array Oper} {o : Oper} {a : Act} {w : World} {K : Act → World → Prop} {Q : Exit → Act → World → Prop} {E : Prop} (hgd : o.guard = none) (s x : Operand)
    (ho : o.op = .call { callee := .builtin .append, args := #[s, x], argTypes := #[22, 22] })
    (W : World) (d v : Value) (n m : Nat) (xs news : List Value) (hs : a.eval s = d) (hx : a.eval x = v) (hd : Up W 36 8 d n xs w) (hv : Below W.heap.size W w → Src w v m 8 news) (h1 : ∀ u ∈ news, u.oneCell' = true) (hn : n + m ≤ 1000000)
    (h : ∀ v' w', Up W 36 8 v' (n + m) (xs ++ news) w' → w.grownBy w' d.ownBlock → K (a.put o.dst v') w') :
    if Region.wanted o (yielded ops a.tmps) = true then Oper.wp Try.prog o a w K Q else E := by
  have hw : Region.wanted o (yielded ops a.tmps) = true := by simp [Region.wanted, hgd]
  rw [if_pos hw]
  obtain ⟨v', w', hr, h2, h3⟩ := app_mac (ty := o.type) hd (hv hd.2) h1 hn
  unfold Oper.wp execOp
  simp only [ho, resolve, invoke, builtin, Sem.run_bind, Sem.run_pure, Result.andThen_ok, List.map_toArray, List.map_cons, List.map_nil, hs, hx, hr]
  exact h v' w' h2 h3

theorem doc_endU {w w2 w5 : World} {q n cap n5 c5 N : Nat} {a a5 : Option Addr} {P' : List Mv} {xs : List Value} (hq : w.heap[q]? = some (docT (.slice a n cap))) (hB2 : Below w.heap.size w w2) (hU : Up w2 36 8 (.slice a5 n5 c5) N xs w5) (hxs : xs = mcells P') (hN : N = P'.length) (hM : ∀ x ∈ P', MacAt x.m x.pv x.bv w) :
    (w5.setCell ⟨q, 0, none⟩ (.slice a5 n5 c5)).heap[q]? = some (docT (.slice a5 n5 c5)) ∧ MRow P' (.slice a5 n5 c5) (w5.setCell ⟨q, 0, none⟩ (.slice a5 n5 c5)) ∧ Turned (fun g => g = q) w (w5.setCell ⟨q, 0, none⟩ (.slice a5 n5 c5)) := by
  have h5 := below_up hB2 hU.2
  have hd5 := (h5.block q (row_lt hq)).trans hq
  have t5 : Turned (fun g => g = q) w5 (w5.setCell ⟨q, 0, none⟩ (.slice a5 n5 c5)) := (Turned.refl (fun g e _ => e ▸ docT_nostr hd5)).grown (grown_setT w5 q 0 _) (fun _ => rfl)
  subst hxs
  refine ⟨(heap_setCell_same w5 q 0 _ _ _ hd5).trans rfl, (mrow_up hU hN fun x hx => (hM x hx).over h5).turn t5, ?_⟩
  exact ((Turned.refl (fun g e _ => e ▸ docT_nostr hq)).below h5).grown (grown_setT w5 q 0 _) (fun _ => rfl)

def RUndPost (w : World) (q : Nat) (P : List Mv) (s : ByteArray) (e : Ending) (w' : World) : Prop :=
  e = .returned (.bool (hereM (nameL P) s)) ∧ ∃ lv' P', nameL P' = delM (nameL P) s ∧ w'.heap[q]? = some (docT lv') ∧ MRow P' lv' w' ∧ Turned (fun g => g = q) w w'

theorem rund_no {w : World} {q : Nat} {lv : Value} {P : List Mv} (hq : w.heap[q]? = some (docT lv)) (hr : MRow P lv w) (s : ByteArray) (hb : hereM (nameL P) s = false) :
    Calls Try.prog 16 #[.pointer (some ⟨q, 0, none⟩), .string s] w (RUndPost w q P s) := by
  obtain ⟨a, n, cap, rfl⟩ := hr.form
  have hat := at_mac hq hr s
  unfold MtAtPost at hat
  obtain ⟨k, hk⟩ : ∃ k, posM (nameL P) s = k := ⟨_, rfl⟩
  rw [hb, hk] at hat
  have HAT := Lib.hid hat
  have HQ := Lib.hid hq
  have HR := Lib.hid hr
  have HD : Hid (delM (nameL P) s = nameL P) := Lib.hid (by rw [delM_is, hb]; rfl)
  unfold RUndPost
  rw [hb]
  clear hq hr hat hb hk
  go_enter Try.func16, Try.ntmps16
  go_wp2_with (go_at_call 29; (with_reducible refine HAT.out.mono ?_); rintro e w1 ⟨rfl, hb1⟩; have HB1 := Lib.hid hb1; clear hb1)
  go_ret
  exact ⟨rfl, _, P, HD.out.symm, (HB1.out.block q (row_lt HQ.out)).trans HQ.out, HR.out.over HB1.out, (Turned.refl (fun g e _ => e ▸ docT_nostr HQ.out)).below HB1.out⟩

set_option maxRecDepth 100000 in
set_option maxHeartbeats 6400000 in
theorem rund_yes {w : World} {q : Nat} {lv : Value} {P : List Mv} (hq : w.heap[q]? = some (docT lv)) (hr : MRow P lv w) (s : ByteArray) (hP : P.length ≤ 100000) (hb : hereM (nameL P) s = true) :
    Calls Try.prog 16 #[.pointer (some ⟨q, 0, none⟩), .string s] w (RUndPost w q P s) := by
  obtain ⟨a, n, cap, rfl⟩ := hr.form
  obtain ⟨hn, hc1, hc2, hz⟩ := hr.len
  have hat := at_mac hq hr s
  unfold MtAtPost at hat
  have hnl : (nameL P).length = n := by unfold nameL; rw [List.length_map]; exact hn.symm
  have hkl : posM (nameL P) s < n := by
    rcases Nat.lt_or_ge (posM (nameL P) s) n with h | h
    · exact h
    · rw [posM_end _ _ (by omega)] at hb
      cases hb
  obtain ⟨k, hk⟩ : ∃ k, posM (nameL P) s = k := ⟨_, rfl⟩
  rw [hb, hk] at hat
  rw [hk] at hkl
  have HD : Hid (delM (nameL P) s = nameL (P.take k ++ P.drop (k + 1))) := Lib.hid (by
    rw [delM_is, hb, hk]
    unfold nameL
    rw [List.map_append, List.map_take, List.map_drop]
    rfl)
  unfold RUndPost
  rw [hb]
  unfold maxLen at hc2
  have HAT := Lib.hid hat
  have HQ := Lib.hid hq
  have HR := Lib.hid hr
  have hql := row_lt hq
  have HN := Lib.hid hn
  have hn5 : n ≤ 100000 := by omega
  have hk0 : (0 : Int) ≤ (k : Int) := by omega
  have hki : (k : Int) ≤ (n : Int) := by omega
  have hkc : (k : Int) ≤ (cap : Int) := by omega
  have hk1 : (0 : Int) ≤ (k : Int) + 1 := by omega
  have hk2 : (k : Int) + 1 ≤ (n : Int) := by omega
  have hk3 : (k : Int) + 1 ≤ (cap : Int) := by omega
  have hk4 : ((k : Int) + 1).toNat = k + 1 := by omega
  have hk5 : IntKind.i64.wrap ((k : Int) + 1) = (k : Int) + 1 := IntWalk.i64_in _ (by omega)
  clear hq hr hat hb hk hn hnl hP hz
  go_enter Try.func16, Try.ntmps16
  go_wp2_with (go_at_call 29; (with_reducible refine HAT.out.mono ?_); rintro e w2 ⟨rfl, hb2⟩; have hD2 := (hb2.block q hql).trans HQ.out; (obtain ⟨t0, tf⟩ := docT_cell hD2); have hq2 := row_lt hD2; have HB2 := Lib.hid hb2; have HD2 := Lib.hid hD2; have R0 := Lib.hid (up_empty w2 36 8); clear hb2 hD2)
  have HONE : Hid (∀ u ∈ mcells (P.take k), u.oneCell' = true) := Lib.hid (fun u hu => mcells_one (P := P.take k) (fun x hx => HR.out.2 x (List.mem_of_mem_take hx)) u hu)
  have HONE3 : Hid (∀ u ∈ mcells (P.drop (k + 1)), u.oneCell' = true) := Lib.hid (fun u hu => mcells_one (P := P.drop (k + 1)) (fun x hx => HR.out.2 x (List.mem_of_mem_drop hx)) u hu)
  have HSRC1 : Hid (∀ X : World, Below w2.heap.size w2 X → Src X (.slice a k cap) k 8 (mcells (P.take k))) := Lib.hid (fun X hX => msrc_take (HR.out.over (below_up HB2.out hX)) (Nat.le_of_lt hkl))
  have HSRC3 : Hid (∀ (A : Option Addr) (X : World), ((cap = k + 1 ∧ A = a) ∨ (cap ≠ k + 1 ∧ A = a.map fun x => x.add ((k + 1) * 8))) → Below w2.heap.size w2 X → Src X (.slice A (n - (k + 1)) (cap - (k + 1))) (n - (k + 1)) 8 (mcells (P.drop (k + 1)))) := Lib.hid (fun A X hA hX => msrc_from (HR.out.over (below_up HB2.out hX)) hkl hA)
  have HC : Hid ((cap = k + 1) ∨ (cap ≠ k + 1)) := Lib.hid (Nat.decEq cap (k + 1) |>.casesOn .inr .inl)
  have hkk : (k : Int) ≤ (k : Int) + 1 := by omega
  rcases HC.out with hck | hck
  · have HS1 : Hid (∀ X : World, Below w2.heap.size w2 X → Src X (.slice a k (k + 1)) k 8 (mcells (P.take k))) := Lib.hid (fun X hX => hck ▸ HSRC1.out X hX)
    have HS3 : Hid (∀ X : World, Below w2.heap.size w2 X → Src X (.slice a (n - (k + 1)) 0) (n - (k + 1)) 8 (mcells (P.drop (k + 1)))) := Lib.hid (fun X hX => by have h := HSRC3.out a X (.inl ⟨hck, rfl⟩) hX; rw [hck, Nat.sub_self] at h; exact h)
    go_wp2_with fail
    go_region_law (first
      | (refine step_macU rfl (.tmp 15) (.tmp 21) rfl w2 (.slice (some ⟨w2.heap.size, 0, none⟩) 0 0) (.slice a k (k + 1)) 0 k [] (mcells (P.take k)) rfl rfl ?_ (HS1.out _) HONE.out (by omega) ?_
         · (repeat first | (with_reducible exact up_empty w2 36 8) | (with_reducible apply Up.drewU)); done
         intro v3 w3 hu3 hg3
         have y3 := bcell hu3.2 t0 hq2
         have tz3 := (docT_cell ((hu3.2.block q hq2).trans HD2.out)).2
         have jq3 : q < w3.heap.size := Nat.lt_of_lt_of_le hq2 hu3.2.size
         have U3 := Lib.hid hu3
         clear hu3 hg3)
      | (refine step_macU rfl (.tmp 22) (.tmp 29) rfl w2 v3 (.slice a (n - (k + 1)) 0) (0 + k) (n - (k + 1)) ([] ++ mcells (P.take k)) (mcells (P.drop (k + 1))) rfl rfl ?_ (HS3.out _) HONE3.out (by omega) ?_
         · (repeat first | (with_reducible exact U3.out) | (with_reducible apply Up.drewU) | (with_reducible apply Up.alloc)); done
         intro v5 w5 hu5 hg5
         simp only [Nat.zero_add, List.nil_append] at hu5
         obtain ⟨a5, c5, rfl, -, -, -⟩ := row_form hu5.1
         have y5 := bcell hu5.2 t0 hq2
         have tz5 := (docT_cell ((hu5.2.block q hq2).trans HD2.out)).2
         have jq5 : q < w5.heap.size := Nat.lt_of_lt_of_le hq2 hu5.2.size
         have U5 := Lib.hid hu5
         clear hu5 hg5))
    all_goals go_wp2
    all_goals go_ret
    all_goals (
      obtain ⟨r1, r2, r3⟩ := doc_endU (P' := P.take k ++ P.drop (k + 1)) HQ.out HB2.out U5.out (mcells_append _ _).symm (by simp only [List.length_append, List.length_take, List.length_drop]; have := HN.out; omega) (fun y hy => by
        rcases List.mem_append.1 hy with h | h
        · exact HR.out.2 y (List.mem_of_mem_take h)
        · exact HR.out.2 y (List.mem_of_mem_drop h))
      exact ⟨rfl, _, _, HD.out.symm, r1, r2, r3⟩)
  · have HS1 : Hid (∀ X : World, Below w2.heap.size w2 X → Src X (.slice a k cap) k 8 (mcells (P.take k))) := Lib.hid (fun X hX => HSRC1.out X hX)
    have HS3 : Hid (∀ X : World, Below w2.heap.size w2 X → Src X (.slice (a.map fun x => x.add ((k + 1) * 8)) (n - (k + 1)) (cap - (k + 1))) (n - (k + 1)) 8 (mcells (P.drop (k + 1)))) := Lib.hid (fun X hX => HSRC3.out _ X (.inr ⟨hck, rfl⟩) hX)
    go_wp2_with fail
    go_region_law (first
      | (refine step_macU rfl (.tmp 15) (.tmp 21) rfl w2 (.slice (some ⟨w2.heap.size, 0, none⟩) 0 0) (.slice a k cap) 0 k [] (mcells (P.take k)) rfl rfl ?_ (HS1.out _) HONE.out (by omega) ?_
         · (repeat first | (with_reducible exact up_empty w2 36 8) | (with_reducible apply Up.drewU)); done
         intro v3 w3 hu3 hg3
         have y3 := bcell hu3.2 t0 hq2
         have tz3 := (docT_cell ((hu3.2.block q hq2).trans HD2.out)).2
         have jq3 : q < w3.heap.size := Nat.lt_of_lt_of_le hq2 hu3.2.size
         have U3 := Lib.hid hu3
         clear hu3 hg3)
      | (refine step_macU rfl (.tmp 22) (.tmp 29) rfl w2 v3 (.slice (a.map fun x => x.add ((k + 1) * 8)) (n - (k + 1)) (cap - (k + 1))) (0 + k) (n - (k + 1)) ([] ++ mcells (P.take k)) (mcells (P.drop (k + 1))) rfl rfl ?_ (HS3.out _) HONE3.out (by omega) ?_
         · (repeat first | (with_reducible exact U3.out) | (with_reducible apply Up.drewU) | (with_reducible apply Up.alloc)); done
         intro v5 w5 hu5 hg5
         simp only [Nat.zero_add, List.nil_append] at hu5
         obtain ⟨a5, c5, rfl, -, -, -⟩ := row_form hu5.1
         have y5 := bcell hu5.2 t0 hq2
         have tz5 := (docT_cell ((hu5.2.block q hq2).trans HD2.out)).2
         have jq5 : q < w5.heap.size := Nat.lt_of_lt_of_le hq2 hu5.2.size
         have U5 := Lib.hid hu5
         clear hu5 hg5))
    all_goals go_wp2
    all_goals go_ret
    all_goals (
      obtain ⟨r1, r2, r3⟩ := doc_endU (P' := P.take k ++ P.drop (k + 1)) HQ.out HB2.out U5.out (mcells_append _ _).symm (by simp only [List.length_append, List.length_take, List.length_drop]; have := HN.out; omega) (fun y hy => by
        rcases List.mem_append.1 hy with h | h
        · exact HR.out.2 y (List.mem_of_mem_take h)
        · exact HR.out.2 y (List.mem_of_mem_drop h))
      exact ⟨rfl, _, _, HD.out.symm, r1, r2, r3⟩)

end Go.Proofs.Ytmghocfkekggaaa
