/-
  Texts of the proof, put together: MtDefY.
-/
import Derived.Test.YtmghocfkekggaaaG48
import Derived.StillTailTactics

/-
  The document's table: a name that is there is defined anew.
-/
namespace Go.Proofs.Ytmghocfkekggaaa
open Go.RowKit Go.Maps

theorem put_at {P : List Mv} {m : Xm} {pv bv : Value} {k : Nat} (hk : posM (nameL P) m.n = k) (hb : hereM (nameL P) m.n = true) : nameL (P.take k ++ ⟨m, pv, bv⟩ :: P.drop (k + 1)) = putM (nameL P) m := by
  rw [putM_is, hk, hb]
  unfold nameL
  rw [List.map_append, List.map_cons, List.map_take, List.map_drop]
  rfl
theorem mcells_mid1 (P : List Mv) (k : Nat) (x : Mv) : [] ++ mcells (P.take k) ++ mcell x ++ mcells (P.drop (k + 1)) = mcells (P.take k ++ x :: P.drop (k + 1)) := by
  rw [mcells_append, List.nil_append, List.append_assoc]
  rfl

set_option maxRecDepth 100000 in
set_option maxHeartbeats 6400000 in
theorem rdef_yes {w : World} {q : Nat} {lv : Value} {P : List Mv} {x : Mv} (hq : w.heap[q]? = some (docT lv)) (hr : MRow P lv w) (hx : MacAt x.m x.pv x.bv w) (hP : P.length ≤ 100000) (hb : hereM (nameL P) x.m.n = true) :
    Calls Try.prog 14 #[.pointer (some ⟨q, 0, none⟩), macV x.m x.pv x.bv] w (RDefPost w q P x) := by
  obtain ⟨a, n, cap, rfl⟩ := hr.form
  obtain ⟨hn, hc1, hc2, hz⟩ := hr.len
  have hnl : (nameL P).length = n := by unfold nameL; rw [List.length_map]; exact hn.symm
  have hkl : posM (nameL P) x.m.n < n := by
    rcases Nat.lt_or_ge (posM (nameL P) x.m.n) n with h | h
    · exact h
    · rw [posM_end _ _ (by omega)] at hb
      cases hb
  unfold maxLen at hc2
  obtain ⟨k, hk⟩ : ∃ k, posM (nameL P) x.m.n = k := ⟨_, rfl⟩
  have HAT : Hid (∀ X : World, Below w.heap.size w X → Calls Try.prog 29 #[.pointer (some ⟨q, 0, none⟩), .string x.m.n] X fun e w' => e = .returned (.tuple #[.int .i64 (k : Nat), .bool true]) ∧ Below X.heap.size X w') := Lib.hid (fun X hX => by
    have := at_mac ((hX.block q (row_lt hq)).trans hq) (hr.over hX) x.m.n
    unfold MtAtPost at this
    rw [hk, hb] at this
    exact this)
  rw [hk] at hkl
  have HQ := Lib.hid hq
  have HR := Lib.hid hr
  have hk0 : (0 : Int) ≤ (k : Int) := by omega
  obtain ⟨y, hy⟩ : ∃ y, P[k]? = some y := ⟨_, List.getElem?_eq_getElem (by omega)⟩
  obtain ⟨ym, yp, yb⟩ := y
  obtain ⟨yg, yo, rfl, hyg, hyc, hya⟩ := hr.get hy
  simp only at hya
  obtain ⟨a3, n3, c3, rfl⟩ := hya.1.form
  obtain ⟨a4, n4, c4, rfl⟩ := hya.2.form
  have hyl := name_get hy
  obtain ⟨m, pv, bv⟩ := x
  simp only at hx hb hk HAT ⊢
  obtain ⟨a1, n1, c1, rfl⟩ := hx.1.form
  obtain ⟨a2, n2, c2, rfl⟩ := hx.2.form
  have HX := Lib.hid hx
  have HYC := Lib.hid hyc
  have HYG := Lib.hid hyg
  obtain ⟨sb, hsb⟩ : ∃ sb, sameM ym m = sb := ⟨_, rfl⟩
  have HDL : Hid (defL (nameL P) m = sb) := Lib.hid (by unfold defL; rw [hb, if_pos rfl, hk, hyl]; exact hsb)
  have HSAME : Hid (∀ X : World, Below w.heap.size w X → Calls Try.prog 30 #[.agg #[.string ym.n, .bool ym.fn, .bool ym.va, .slice a3 n3 c3, .slice a4 n4 c4, .string ym.g, .int .i64 ym.f, .int .i64 ym.t], .agg #[.string m.n, .bool m.fn, .bool m.va, .slice a1 n1 c1, .slice a2 n2 c2, .string m.g, .int .i64 m.f, .int .i64 m.t]] X (BoolNew sb X)) := Lib.hid (fun X hX => hsb ▸ rSame_any (hya.over hX) (hx.over hX))
  have HK := Lib.hid hk
  have HBB := Lib.hid hb
  have hql := row_lt hq
  clear hq hr hx hb hk hy hyc hyg hya hyl hsb
  unfold macV
  go_enter Try.func14, Try.ntmps14
  go_wp2_with fail
  obtain ⟨w1, hw1⟩ : ∃ w1, w.alloc (Obj.cells #[.string m.n, .bool m.fn, .bool m.va, .slice a1 n1 c1, .slice a2 n2 c2, .string m.g, .int .i64 m.f, .int .i64 m.t] 36) = w1 := ⟨_, rfl⟩
  have hB1 : Below w.heap.size w w1 := by rw [← hw1]; exact (Below.refl _ _).alloc (Nat.le_refl _) _
  have hQ1 : w1.heap[w.heap.size]? = some (rObj m (.slice a1 n1 c1) (.slice a2 n2 c2)) := by rw [← hw1]; exact heap_alloc_new w _
  obtain ⟨b0, hb0⟩ : ∃ b0, w.heap.size = b0 := ⟨_, rfl⟩
  rw [hw1]
  have HBL : Hid (w.heap.size ≤ b0) := Lib.hid (by omega)
  have hqb : q ≠ b0 := by omega
  rw [hb0] at hQ1 ⊢
  have HB1 := Lib.hid hB1
  have HQ1 := Lib.hid hQ1
  have HQL := Lib.hid hql
  clear hw1 hb0 hB1 hQ1 hql
  (with_reducible refine (HAT.out _ HB1.out).mono ?_)
  rintro e w2 ⟨rfl, hb2⟩
  have hB2 := below_up HB1.out hb2
  have hQ2 := (hb2.block b0 (row_lt HQ1.out)).trans HQ1.out
  have hD2 := (hB2.block q HQL.out).trans HQ.out
  obtain ⟨t0, tf⟩ := docT_cell hD2
  obtain ⟨e0, e1, e2, e3, e4, e5, e6, e7⟩ := rObj_cells hQ2
  have HB2 := Lib.hid hB2
  have HQ2 := Lib.hid hQ2
  have HD2 := Lib.hid hD2
  have hq2 := row_lt hD2
  have hb2 := row_lt hQ2
  obtain ⟨f0, f1, f2, f3, f4, f5, f6, f7⟩ := HYC.out.next HB2.out HYG.out
  simp only at f0 f1 f2 f3 f4 f5 f6 f7
  clear hB2 hQ2 hD2
  have HN := Lib.hid hn
  have hn5 : n ≤ 100000 := by omega
  have hki : (k : Int) ≤ (n : Int) := by omega
  have hkl2 : (k : Int) < (n : Int) := by omega
  have hkc : (k : Int) ≤ (cap : Int) := by omega
  have hk1 : (0 : Int) ≤ (k : Int) + 1 := by omega
  have hk2 : (k : Int) + 1 ≤ (n : Int) := by omega
  have hk3 : (k : Int) + 1 ≤ (cap : Int) := by omega
  have hk4 : ((k : Int) + 1).toNat = k + 1 := by omega
  have hk5 : IntKind.i64.wrap ((k : Int) + 1) = (k : Int) + 1 := IntWalk.i64_in _ (by omega)
  have hkk : (k : Int) ≤ (k : Int) + 1 := by omega
  have hckn : cap ≠ k := by omega
  clear hn hP hnl hz
  have HONE : Hid (∀ u ∈ mcells (P.take k), u.oneCell' = true) := Lib.hid (fun u hu => mcells_one (P := P.take k) (fun x hx => HR.out.2 x (List.mem_of_mem_take hx)) u hu)
  have HONE3 : Hid (∀ u ∈ mcells (P.drop (k + 1)), u.oneCell' = true) := Lib.hid (fun u hu => mcells_one (P := P.drop (k + 1)) (fun x hx => HR.out.2 x (List.mem_of_mem_drop hx)) u hu)
  have HONE2 : Hid (∀ u ∈ mcell (⟨m, .slice a1 n1 c1, .slice a2 n2 c2⟩ : Mv), u.oneCell' = true) := Lib.hid (fun u hu => mcells_one (P := [⟨m, .slice a1 n1 c1, .slice a2 n2 c2⟩]) (w := w) (fun x hx => by
    rw [List.mem_singleton] at hx
    subst hx
    exact HX.out) u (by simpa [mcells] using hu))
  have HSRC1 : Hid (∀ X : World, Below w.heap.size w X → Src X (.slice (some ⟨yg, yo, none⟩) k cap) k 8 (mcells (P.take k))) := Lib.hid (fun X hX => msrc_take (HR.out.over hX) (Nat.le_of_lt hkl))
  have HSRC3 : Hid (∀ (A : Option Addr) (X : World), ((cap = k + 1 ∧ A = some ⟨yg, yo, none⟩) ∨ (cap ≠ k + 1 ∧ A = (some (⟨yg, yo, none⟩ : Addr)).map fun x => x.add ((k + 1) * 8))) → Below w.heap.size w X → Src X (.slice A (n - (k + 1)) (cap - (k + 1))) (n - (k + 1)) 8 (mcells (P.drop (k + 1)))) := Lib.hid (fun A X hA hX => msrc_from (HR.out.over hX) hkl hA)
  have HC : Hid ((cap = k + 1) ∨ (cap ≠ k + 1)) := Lib.hid (Nat.decEq cap (k + 1) |>.casesOn .inr .inl)
  rcases HC.out with hck | hck
  · go_wp2_with fail
    go_still_tail 8, (by kernel_rfl)
    change wpList _ _ _ _ _ w2.drew
    go_wp2_with (go_at_call 30; (refine (HSAME.out _ HB2.out.drew).mono ?_); rintro e wz ⟨rfl, hb3⟩; have hBz := below_up HB2.out.drew hb3; have hQz := (hb3.block b0 hb2).trans HQ2.out; have hDz := (hb3.block q hq2).trans HD2.out; clear hb3 t0 tf e0 e1 e2 e3 e4 e5 e6 e7 f0 f1 f2 f3 f4 f5 f6 f7 HB2 HQ2 HD2 hq2 hb2; (obtain ⟨tt0, ttf⟩ := docT_cell hDz); (obtain ⟨e0, e1, e2, e3, e4, e5, e6, e7⟩ := rObj_cells hQz); have HBz := Lib.hid hBz; have HQz := Lib.hid hQz; have HDz := Lib.hid hDz; have hqz := row_lt hDz; have hbz := row_lt hQz; clear hBz hQz hDz)
    have R0 := Lib.hid (up_empty wz 36 8)
    have HS1 : Hid (∀ X : World, Below wz.heap.size wz X → Src X (.slice (some ⟨yg, yo, none⟩) k (k + 1)) k 8 (mcells (P.take k))) := Lib.hid (fun X hX => hck ▸ HSRC1.out X (below_up HBz.out hX))
    have HS3 : Hid (∀ X : World, Below wz.heap.size wz X → Src X (.slice (some ⟨yg, yo, none⟩) (n - (k + 1)) 0) (n - (k + 1)) 8 (mcells (P.drop (k + 1)))) := Lib.hid (fun X hX => by have h := HSRC3.out _ X (.inl ⟨hck, rfl⟩) (below_up HBz.out hX); rw [hck, Nat.sub_self] at h; exact h)
    go_region_law (first
      | (refine step_mac rfl (.tmp 40) (.tmp 46) rfl wz (.slice (some ⟨wz.heap.size + 1, 0, none⟩) 0 0) (.slice (some ⟨yg, yo, none⟩) k (k + 1)) 0 k [] (mcells (P.take k)) rfl rfl ?_ (HS1.out _) HONE.out (by omega) ?_
         · (repeat first | (with_reducible exact up_e2) | (with_reducible apply Up.drewM)); done
         intro v3 w3 hu3 hg3
         have HCC : Hid (w3.heap[wz.heap.size]? = some (rObj m (.slice a1 n1 c1) (.slice a2 n2 c2))) := ?_
         rotate_left
         · exact Lib.hid ((hg3.block _ (by simp <;> omega) (by simp [Value.ownBlock])).trans (by (repeat (with_reducible apply box_drew)); exact heap_one wz _ _))
         have y3 := bcell hu3.2 tt0 hqz
         have tz3 := (docT_cell ((hu3.2.block q hqz).trans HDz.out)).2
         (obtain ⟨x30, x31, x32, x33, x34, x35, x36, x37⟩ := rObj_cells ((hu3.2.block b0 hbz).trans HQz.out))
         have jq3 : q < w3.heap.size := Nat.lt_of_lt_of_le hqz hu3.2.size
         have jb3 : b0 < w3.heap.size := Nat.lt_of_lt_of_le hbz hu3.2.size
         have U3 := Lib.hid hu3
         clear hu3 hg3)
      | (refine step_mac rfl (.tmp 40) (.tmp 46) rfl wz (.slice (some ⟨wz.heap.size, 0, none⟩) 0 0) (.slice (some ⟨yg, yo, none⟩) k (k + 1)) 0 k [] (mcells (P.take k)) rfl rfl ?_ (HS1.out _) HONE.out (by omega) ?_
         · (repeat first | (with_reducible exact Up.alloc (up_empty wz 36 8) _) | (with_reducible apply Up.drewM)); done
         intro v3 w3 hu3 hg3
         have HCC : Hid (w3.heap[wz.heap.size + 1]? = some (rObj m (.slice a1 n1 c1) (.slice a2 n2 c2))) := ?_
         rotate_left
         · exact Lib.hid ((hg3.block _ (by simp <;> omega) (by simp [Value.ownBlock])).trans (by (repeat (with_reducible apply box_drew)); exact box_new2 wz _ _ _ _))
         have y3 := bcell hu3.2 tt0 hqz
         have tz3 := (docT_cell ((hu3.2.block q hqz).trans HDz.out)).2
         (obtain ⟨x30, x31, x32, x33, x34, x35, x36, x37⟩ := rObj_cells ((hu3.2.block b0 hbz).trans HQz.out))
         have jq3 : q < w3.heap.size := Nat.lt_of_lt_of_le hqz hu3.2.size
         have jb3 : b0 < w3.heap.size := Nat.lt_of_lt_of_le hbz hu3.2.size
         have U3 := Lib.hid hu3
         clear hu3 hg3)
      | (refine step_mac rfl (.tmp 40) (.tmp 46) rfl wz (.slice (some ⟨wz.heap.size, 0, none⟩) 0 0) (.slice (some ⟨yg, yo, none⟩) k (k + 1)) 0 k [] (mcells (P.take k)) rfl rfl ?_ (HS1.out _) HONE.out (by omega) ?_
         · (repeat first | (with_reducible exact up_empty wz 36 8) | (with_reducible apply Up.drewM)); done
         intro v3 w3 hu3 hg3
         have y3 := bcell hu3.2 tt0 hqz
         have tz3 := (docT_cell ((hu3.2.block q hqz).trans HDz.out)).2
         (obtain ⟨x30, x31, x32, x33, x34, x35, x36, x37⟩ := rObj_cells ((hu3.2.block b0 hbz).trans HQz.out))
         have jq3 : q < w3.heap.size := Nat.lt_of_lt_of_le hqz hu3.2.size
         have jb3 : b0 < w3.heap.size := Nat.lt_of_lt_of_le hbz hu3.2.size
         have U3 := Lib.hid hu3
         clear hu3 hg3)
      | (refine step_mac rfl (.tmp 47) (.tmp 49) rfl wz v3 (.slice (some ⟨wz.heap.size, 0, none⟩) 1 1) (0 + k) 1 ([] ++ mcells (P.take k)) (mcell ⟨m, .slice a1 n1 c1, .slice a2 n2 c2⟩) rfl rfl ?_ (fun _ => src_box ?_) HONE2.out (by omega) ?_
         · (repeat first | (with_reducible exact U3.out) | (with_reducible apply Up.drewM) | (with_reducible apply Up.alloc)); done
         · (repeat (with_reducible apply box_drew)); exact HCC.out
         intro v4 w4 hu4 hg4
         have y4 := bcell hu4.2 tt0 hqz
         have tz4 := (docT_cell ((hu4.2.block q hqz).trans HDz.out)).2
         (obtain ⟨x40, x41, x42, x43, x44, x45, x46, x47⟩ := rObj_cells ((hu4.2.block b0 hbz).trans HQz.out))
         have jq4 : q < w4.heap.size := Nat.lt_of_lt_of_le hqz hu4.2.size
         have jb4 : b0 < w4.heap.size := Nat.lt_of_lt_of_le hbz hu4.2.size
         have U4 := Lib.hid hu4
         clear hu4 hg4)
      | (refine step_mac rfl (.tmp 47) (.tmp 49) rfl wz v3 (.slice (some ⟨wz.heap.size + 1, 0, none⟩) 1 1) (0 + k) 1 ([] ++ mcells (P.take k)) (mcell ⟨m, .slice a1 n1 c1, .slice a2 n2 c2⟩) rfl rfl ?_ (fun _ => src_box ?_) HONE2.out (by omega) ?_
         · (repeat first | (with_reducible exact U3.out) | (with_reducible apply Up.drewM) | (with_reducible apply Up.alloc)); done
         · (repeat (with_reducible apply box_drew)); exact HCC.out
         intro v4 w4 hu4 hg4
         have y4 := bcell hu4.2 tt0 hqz
         have tz4 := (docT_cell ((hu4.2.block q hqz).trans HDz.out)).2
         (obtain ⟨x40, x41, x42, x43, x44, x45, x46, x47⟩ := rObj_cells ((hu4.2.block b0 hbz).trans HQz.out))
         have jq4 : q < w4.heap.size := Nat.lt_of_lt_of_le hqz hu4.2.size
         have jb4 : b0 < w4.heap.size := Nat.lt_of_lt_of_le hbz hu4.2.size
         have U4 := Lib.hid hu4
         clear hu4 hg4)
      | (refine step_mac rfl (.tmp 47) (.tmp 49) rfl wz v3 (.slice (some ⟨w3.heap.size, 0, none⟩) 1 1) (0 + k) 1 ([] ++ mcells (P.take k)) (mcell ⟨m, .slice a1 n1 c1, .slice a2 n2 c2⟩) rfl rfl ?_ (fun _ => src_box ?_) HONE2.out (by omega) ?_
         · (repeat first | (with_reducible exact U3.out) | (with_reducible apply Up.drewM) | (with_reducible apply Up.alloc)); done
         · (repeat (with_reducible apply box_drew)); exact heap_alloc_new _ _
         intro v4 w4 hu4 hg4
         have y4 := bcell hu4.2 tt0 hqz
         have tz4 := (docT_cell ((hu4.2.block q hqz).trans HDz.out)).2
         (obtain ⟨x40, x41, x42, x43, x44, x45, x46, x47⟩ := rObj_cells ((hu4.2.block b0 hbz).trans HQz.out))
         have jq4 : q < w4.heap.size := Nat.lt_of_lt_of_le hqz hu4.2.size
         have jb4 : b0 < w4.heap.size := Nat.lt_of_lt_of_le hbz hu4.2.size
         have U4 := Lib.hid hu4
         clear hu4 hg4)
      | (refine step_mac rfl (.tmp 50) (.tmp 51) rfl wz v4 (.slice (some ⟨yg, yo, none⟩) (n - (k + 1)) 0) (0 + k + 1) (n - (k + 1)) ([] ++ mcells (P.take k) ++ mcell ⟨m, .slice a1 n1 c1, .slice a2 n2 c2⟩) (mcells (P.drop (k + 1))) rfl rfl ?_ (HS3.out _) HONE3.out (by omega) ?_
         · (repeat first | (with_reducible exact U4.out) | (with_reducible apply Up.drewM) | (with_reducible apply Up.alloc)); done
         intro v5 w5 hu5 hg5
         simp only [Nat.zero_add] at hu5
         obtain ⟨a5, c5, rfl, -, -, -⟩ := row_form hu5.1
         have y5 := bcell hu5.2 tt0 hqz
         have tz5 := (docT_cell ((hu5.2.block q hqz).trans HDz.out)).2
         (obtain ⟨x50, x51, x52, x53, x54, x55, x56, x57⟩ := rObj_cells ((hu5.2.block b0 hbz).trans HQz.out))
         have jq5 : q < w5.heap.size := Nat.lt_of_lt_of_le hqz hu5.2.size
         have jb5 : b0 < w5.heap.size := Nat.lt_of_lt_of_le hbz hu5.2.size
         have U5 := Lib.hid hu5
         clear hu5 hg5))
    all_goals go_wp2
    all_goals go_ret
    all_goals (
      obtain ⟨r1, r2, r3⟩ := doc_end (P' := P.take k ++ ⟨m, .slice a1 n1 c1, .slice a2 n2 c2⟩ :: P.drop (k + 1)) HQ.out HBz.out U5.out (mcells_mid1 P k _) (by simp only [List.length_append, List.length_take, List.length_cons, List.length_drop]; have := HN.out; omega) (fun y hy => by
        rcases List.mem_append.1 hy with h | h
        · exact HR.out.2 y (List.mem_of_mem_take h)
        · rcases List.mem_cons.1 h with rfl | h
          · exact HX.out
          · exact HR.out.2 y (List.mem_of_mem_drop h))
      exact ⟨ret_bool HDL.out.symm, _, _, put_at HK.out HBB.out, r1, r2, r3⟩)
  · go_wp2_with fail
    go_still_tail 8, (by kernel_rfl)
    change wpList _ _ _ _ _ w2.drew
    go_wp2_with (go_at_call 30; (refine (HSAME.out _ HB2.out.drew).mono ?_); rintro e wz ⟨rfl, hb3⟩; have hBz := below_up HB2.out.drew hb3; have hQz := (hb3.block b0 hb2).trans HQ2.out; have hDz := (hb3.block q hq2).trans HD2.out; clear hb3 t0 tf e0 e1 e2 e3 e4 e5 e6 e7 f0 f1 f2 f3 f4 f5 f6 f7 HB2 HQ2 HD2 hq2 hb2; (obtain ⟨tt0, ttf⟩ := docT_cell hDz); (obtain ⟨e0, e1, e2, e3, e4, e5, e6, e7⟩ := rObj_cells hQz); have HBz := Lib.hid hBz; have HQz := Lib.hid hQz; have HDz := Lib.hid hDz; have hqz := row_lt hDz; have hbz := row_lt hQz; clear hBz hQz hDz)
    have R0 := Lib.hid (up_empty wz 36 8)
    have HS1 : Hid (∀ X : World, Below wz.heap.size wz X → Src X (.slice (some ⟨yg, yo, none⟩) k cap) k 8 (mcells (P.take k))) := Lib.hid (fun X hX => HSRC1.out X (below_up HBz.out hX))
    have HS3 : Hid (∀ X : World, Below wz.heap.size wz X → Src X (.slice (some ⟨yg, yo + (k + 1) * 8, none⟩) (n - (k + 1)) (cap - (k + 1))) (n - (k + 1)) 8 (mcells (P.drop (k + 1)))) := Lib.hid (fun X hX => by have h := HSRC3.out (some ((⟨yg, yo, none⟩ : Addr).add ((k + 1) * 8))) X (.inr ⟨hck, rfl⟩) (below_up HBz.out hX); rw [addr_off] at h; exact h)
    go_region_law (first
      | (refine step_mac rfl (.tmp 40) (.tmp 46) rfl wz (.slice (some ⟨wz.heap.size + 1, 0, none⟩) 0 0) (.slice (some ⟨yg, yo, none⟩) k cap) 0 k [] (mcells (P.take k)) rfl rfl ?_ (HS1.out _) HONE.out (by omega) ?_
         · (repeat first | (with_reducible exact up_e2) | (with_reducible apply Up.drewM)); done
         intro v3 w3 hu3 hg3
         have HCC : Hid (w3.heap[wz.heap.size]? = some (rObj m (.slice a1 n1 c1) (.slice a2 n2 c2))) := ?_
         rotate_left
         · exact Lib.hid ((hg3.block _ (by simp <;> omega) (by simp [Value.ownBlock])).trans (by (repeat (with_reducible apply box_drew)); exact heap_one wz _ _))
         have y3 := bcell hu3.2 tt0 hqz
         have tz3 := (docT_cell ((hu3.2.block q hqz).trans HDz.out)).2
         (obtain ⟨x30, x31, x32, x33, x34, x35, x36, x37⟩ := rObj_cells ((hu3.2.block b0 hbz).trans HQz.out))
         have jq3 : q < w3.heap.size := Nat.lt_of_lt_of_le hqz hu3.2.size
         have jb3 : b0 < w3.heap.size := Nat.lt_of_lt_of_le hbz hu3.2.size
         have U3 := Lib.hid hu3
         clear hu3 hg3)
      | (refine step_mac rfl (.tmp 40) (.tmp 46) rfl wz (.slice (some ⟨wz.heap.size, 0, none⟩) 0 0) (.slice (some ⟨yg, yo, none⟩) k cap) 0 k [] (mcells (P.take k)) rfl rfl ?_ (HS1.out _) HONE.out (by omega) ?_
         · (repeat first | (with_reducible exact Up.alloc (up_empty wz 36 8) _) | (with_reducible apply Up.drewM)); done
         intro v3 w3 hu3 hg3
         have HCC : Hid (w3.heap[wz.heap.size + 1]? = some (rObj m (.slice a1 n1 c1) (.slice a2 n2 c2))) := ?_
         rotate_left
         · exact Lib.hid ((hg3.block _ (by simp <;> omega) (by simp [Value.ownBlock])).trans (by (repeat (with_reducible apply box_drew)); exact box_new2 wz _ _ _ _))
         have y3 := bcell hu3.2 tt0 hqz
         have tz3 := (docT_cell ((hu3.2.block q hqz).trans HDz.out)).2
         (obtain ⟨x30, x31, x32, x33, x34, x35, x36, x37⟩ := rObj_cells ((hu3.2.block b0 hbz).trans HQz.out))
         have jq3 : q < w3.heap.size := Nat.lt_of_lt_of_le hqz hu3.2.size
         have jb3 : b0 < w3.heap.size := Nat.lt_of_lt_of_le hbz hu3.2.size
         have U3 := Lib.hid hu3
         clear hu3 hg3)
      | (refine step_mac rfl (.tmp 40) (.tmp 46) rfl wz (.slice (some ⟨wz.heap.size, 0, none⟩) 0 0) (.slice (some ⟨yg, yo, none⟩) k cap) 0 k [] (mcells (P.take k)) rfl rfl ?_ (HS1.out _) HONE.out (by omega) ?_
         · (repeat first | (with_reducible exact up_empty wz 36 8) | (with_reducible apply Up.drewM)); done
         intro v3 w3 hu3 hg3
         have y3 := bcell hu3.2 tt0 hqz
         have tz3 := (docT_cell ((hu3.2.block q hqz).trans HDz.out)).2
         (obtain ⟨x30, x31, x32, x33, x34, x35, x36, x37⟩ := rObj_cells ((hu3.2.block b0 hbz).trans HQz.out))
         have jq3 : q < w3.heap.size := Nat.lt_of_lt_of_le hqz hu3.2.size
         have jb3 : b0 < w3.heap.size := Nat.lt_of_lt_of_le hbz hu3.2.size
         have U3 := Lib.hid hu3
         clear hu3 hg3)
      | (refine step_mac rfl (.tmp 47) (.tmp 49) rfl wz v3 (.slice (some ⟨wz.heap.size, 0, none⟩) 1 1) (0 + k) 1 ([] ++ mcells (P.take k)) (mcell ⟨m, .slice a1 n1 c1, .slice a2 n2 c2⟩) rfl rfl ?_ (fun _ => src_box ?_) HONE2.out (by omega) ?_
         · (repeat first | (with_reducible exact U3.out) | (with_reducible apply Up.drewM) | (with_reducible apply Up.alloc)); done
         · (repeat (with_reducible apply box_drew)); exact HCC.out
         intro v4 w4 hu4 hg4
         have y4 := bcell hu4.2 tt0 hqz
         have tz4 := (docT_cell ((hu4.2.block q hqz).trans HDz.out)).2
         (obtain ⟨x40, x41, x42, x43, x44, x45, x46, x47⟩ := rObj_cells ((hu4.2.block b0 hbz).trans HQz.out))
         have jq4 : q < w4.heap.size := Nat.lt_of_lt_of_le hqz hu4.2.size
         have jb4 : b0 < w4.heap.size := Nat.lt_of_lt_of_le hbz hu4.2.size
         have U4 := Lib.hid hu4
         clear hu4 hg4)
      | (refine step_mac rfl (.tmp 47) (.tmp 49) rfl wz v3 (.slice (some ⟨wz.heap.size + 1, 0, none⟩) 1 1) (0 + k) 1 ([] ++ mcells (P.take k)) (mcell ⟨m, .slice a1 n1 c1, .slice a2 n2 c2⟩) rfl rfl ?_ (fun _ => src_box ?_) HONE2.out (by omega) ?_
         · (repeat first | (with_reducible exact U3.out) | (with_reducible apply Up.drewM) | (with_reducible apply Up.alloc)); done
         · (repeat (with_reducible apply box_drew)); exact HCC.out
         intro v4 w4 hu4 hg4
         have y4 := bcell hu4.2 tt0 hqz
         have tz4 := (docT_cell ((hu4.2.block q hqz).trans HDz.out)).2
         (obtain ⟨x40, x41, x42, x43, x44, x45, x46, x47⟩ := rObj_cells ((hu4.2.block b0 hbz).trans HQz.out))
         have jq4 : q < w4.heap.size := Nat.lt_of_lt_of_le hqz hu4.2.size
         have jb4 : b0 < w4.heap.size := Nat.lt_of_lt_of_le hbz hu4.2.size
         have U4 := Lib.hid hu4
         clear hu4 hg4)
      | (refine step_mac rfl (.tmp 47) (.tmp 49) rfl wz v3 (.slice (some ⟨w3.heap.size, 0, none⟩) 1 1) (0 + k) 1 ([] ++ mcells (P.take k)) (mcell ⟨m, .slice a1 n1 c1, .slice a2 n2 c2⟩) rfl rfl ?_ (fun _ => src_box ?_) HONE2.out (by omega) ?_
         · (repeat first | (with_reducible exact U3.out) | (with_reducible apply Up.drewM) | (with_reducible apply Up.alloc)); done
         · (repeat (with_reducible apply box_drew)); exact heap_alloc_new _ _
         intro v4 w4 hu4 hg4
         have y4 := bcell hu4.2 tt0 hqz
         have tz4 := (docT_cell ((hu4.2.block q hqz).trans HDz.out)).2
         (obtain ⟨x40, x41, x42, x43, x44, x45, x46, x47⟩ := rObj_cells ((hu4.2.block b0 hbz).trans HQz.out))
         have jq4 : q < w4.heap.size := Nat.lt_of_lt_of_le hqz hu4.2.size
         have jb4 : b0 < w4.heap.size := Nat.lt_of_lt_of_le hbz hu4.2.size
         have U4 := Lib.hid hu4
         clear hu4 hg4)
      | (refine step_mac rfl (.tmp 50) (.tmp 51) rfl wz v4 (.slice (some ⟨yg, yo + (k + 1) * 8, none⟩) (n - (k + 1)) (cap - (k + 1))) (0 + k + 1) (n - (k + 1)) ([] ++ mcells (P.take k) ++ mcell ⟨m, .slice a1 n1 c1, .slice a2 n2 c2⟩) (mcells (P.drop (k + 1))) rfl rfl ?_ (HS3.out _) HONE3.out (by omega) ?_
         · (repeat first | (with_reducible exact U4.out) | (with_reducible apply Up.drewM) | (with_reducible apply Up.alloc)); done
         intro v5 w5 hu5 hg5
         simp only [Nat.zero_add] at hu5
         obtain ⟨a5, c5, rfl, -, -, -⟩ := row_form hu5.1
         have y5 := bcell hu5.2 tt0 hqz
         have tz5 := (docT_cell ((hu5.2.block q hqz).trans HDz.out)).2
         (obtain ⟨x50, x51, x52, x53, x54, x55, x56, x57⟩ := rObj_cells ((hu5.2.block b0 hbz).trans HQz.out))
         have jq5 : q < w5.heap.size := Nat.lt_of_lt_of_le hqz hu5.2.size
         have jb5 : b0 < w5.heap.size := Nat.lt_of_lt_of_le hbz hu5.2.size
         have U5 := Lib.hid hu5
         clear hu5 hg5))
    all_goals go_wp2
    all_goals go_ret
    all_goals (
      obtain ⟨r1, r2, r3⟩ := doc_end (P' := P.take k ++ ⟨m, .slice a1 n1 c1, .slice a2 n2 c2⟩ :: P.drop (k + 1)) HQ.out HBz.out U5.out (mcells_mid1 P k _) (by simp only [List.length_append, List.length_take, List.length_cons, List.length_drop]; have := HN.out; omega) (fun y hy => by
        rcases List.mem_append.1 hy with h | h
        · exact HR.out.2 y (List.mem_of_mem_take h)
        · rcases List.mem_cons.1 h with rfl | h
          · exact HX.out
          · exact HR.out.2 y (List.mem_of_mem_drop h))
      exact ⟨ret_bool HDL.out.symm, _, _, put_at HK.out HBB.out, r1, r2, r3⟩)

end Go.Proofs.Ytmghocfkekggaaa
