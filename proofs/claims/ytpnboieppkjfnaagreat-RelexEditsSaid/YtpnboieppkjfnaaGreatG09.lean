/-
  Texts of the proof, put together: Cut, CutR.
-/
import Derived.Test.YtpnboieppkjfnaaGreatG08
import Derived.Deep.DeepCutAuto

/-
  cutAt: a tree taken apart at a place.
-/
namespace Go.Proofs.YtpnboieppkjfnaaGreat
open Go.RowKit

/-- A tree of that text has been taken apart at k. -/
def CutMade (B : Nat) (M : Mp) (w : World) (x : List UInt8) (k : Nat) (q : Prop) (e : Ending) (w' : World) : Prop :=
  ∃ (oa ob : Option T) (hd tl : ByteArray) (pa pb : Option Addr) (M' : Mp), e = .returned (.agg #[.pointer pa, .pointer pb, .string hd, .string tl]) ∧ PT M' pa oa ∧ PT M' pb ob ∧
    otext oa ++ hd.data.toList = x.take k ∧ tl.data.toList ++ otext ob = x.drop k ∧ (q → oa = none ∧ ob = none) ∧ St B M w M' w'

theorem extract_take (s : ByteArray) (k : Nat) : (s.extract 0 k).data.toList = s.data.toList.take k := by simp [ByteArray.data_extract]
theorem extract_drop (s : ByteArray) (k : Nat) : (s.extract k s.size).data.toList = s.data.toList.drop k := by
  simp only [ByteArray.data_extract, Array.toList_extract, List.extract_eq_take_drop]
  rw [List.take_of_length_le]
  rw [List.length_drop]
  have e : s.data.toList.length = s.size := by simp
  omega

set_option maxHeartbeats 1600000 in
theorem cut_leaf {B : Nat} {M : Mp} {w : World} (h : Inv B [] M w) {b : Nat} {s : ByteArray} (hb : M b = some (.leaf s)) (k : Nat) (hk : k ≤ s.size) :
    Calls Tryz.prog 64 #[.pointer (some ⟨b, 0, none⟩), .int .i64 (k : Int)] w (CutMade B M w s.data.toList k True) := by
  obtain ⟨c0, c2, -, -⟩ := h.leafCells hb
  have hbw := h.lt hb
  have hlim := (h.full b _ hb).2
  simp only [T.size] at hlim
  unfold lim at hlim
  have bel : Below w.heap.size w (w.alloc (.cells #[.pointer none, .pointer none, .string ⟨#[]⟩, .string ⟨#[]⟩] 132)) := (Below.refl _ w).alloc (Nat.le_refl _) _
  have I0 := Lib.hid (h.below bel)
  have HB := Lib.hid hb
  have H := Lib.hid h
  clear h hb bel
  go_enter Tryz.func64, Tryz.ntmps64
  go_wp2_with (go_at_call 79; refine (isLeaf_any I0.out HB.out).mono ?_; simp only [isLeafB]; rintro e w' ⟨rfl, rfl⟩)
  go_region
  all_goals go_wp2
  all_goals refine bodyPost_ret (v := .agg #[.pointer none, .pointer none, .string (s.extract 0 k), .string (s.extract k s.size)]) (by simp [results, Tryz.results64, go_sem]) rfl ?_
  all_goals exact ⟨none, none, s.extract 0 k, s.extract k s.size, none, none, M, rfl, .inl ⟨rfl, rfl⟩, .inl ⟨rfl, rfl⟩, by rw [extract_take]; rfl, by rw [extract_drop]; simp [otext], fun _ => ⟨rfl, rfl⟩, (St.below H.out (((Below.refl _ w).alloc (Nat.le_refl _) _).drew))⟩

/-- A store into a block of the call's own, that is no node. -/
theorem St.own {B : Nat} {M M' : Mp} {w w' : World} (s : St B M w M' w') {k : Nat} (hk : w.heap.size ≤ k) (hn : M' k = none) (j : Nat) (v : Value) : St B M w M' (w'.setCell ⟨k, j, none⟩ v) := by
  have ne : ∀ i, i ≠ k → (w'.setCell ⟨k, j, none⟩ v).heap[i]? = w'.heap[i]? := fun i hi => Below.heap_setCell _ _ _ _ hi
  have hs : (w'.setCell ⟨k, j, none⟩ v).heap.size = w'.heap.size := by simp [World.setCell]
  refine ⟨s.inv.same (Nat.le_of_eq hs.symm) fun b t hb => ne b (fun e => ?_), s.ext, s.fr.os, s.fr.tape, s.fr.output, by rw [hs]; exact s.fr.size, fun i hi hin => (ne i (by omega)).trans (s.fr.block i hi hin), fun i x hi hx => ?_⟩
  · rw [e, hn] at hb; cases hb
  · rw [World.cell?_of_block (w := w') (ne i (by omega))]; exact s.fr.low i x hi hx

theorem cut_cells {w : World} {b : Nat} {pa pb : Option Addr} {hd tl : ByteArray} (h : w.heap[b]? = some (.cells #[.pointer pa, .pointer pb, .string hd, .string tl] 132 (0, 0))) :
    w.cell? ⟨b, 0, none⟩ = some (.pointer pa) ∧ w.cell? ⟨b, 1, none⟩ = some (.pointer pb) ∧ w.cell? ⟨b, 2, none⟩ = some (.string hd) ∧ w.cell? ⟨b, 3, none⟩ = some (.string tl) ∧
    w.frozen? ⟨b, 0, none⟩ = false ∧ w.frozen? ⟨b, 1, none⟩ = false ∧ w.frozen? ⟨b, 2, none⟩ = false ∧ w.frozen? ⟨b, 3, none⟩ = false := by
  refine ⟨?_, ?_, ?_, ?_, Lib.frozen_of_heap h _, Lib.frozen_of_heap h _, Lib.frozen_of_heap h _, Lib.frozen_of_heap h _⟩ <;> (rw [Lib.cell_of_heap h]; rfl)

/-- A block that is no node stays so, through a step. -/
theorem St.stays {B : Nat} {M M' : Mp} {w w' : World} (s : St B M w M' w') {k : Nat} {o : Obj} (h : w.heap[k]? = some o) (hn : M k = none) : w'.heap[k]? = some o ∧ M' k = none :=
  ⟨(s.fr.block k (lt_of_heap h) hn).trans h, (s.ext k (lt_of_heap h)).trans hn⟩

/-- The result's variable is laid, and handed back. -/
theorem cut_ret {w3 : World} {A : Nat} {pa pb pa0 pb0 : Option Addr} {hd tl hd0 tl0 : ByteArray} (h : w3.heap[A]? = some (.cells #[.pointer pa0, .pointer pb0, .string hd0, .string tl0] 132 (0, 0))) :
    ((((w3.setCell ⟨A, 0, none⟩ (.pointer pa)).setCell ⟨A, 1, none⟩ (.pointer pb)).setCell ⟨A, 2, none⟩ (.string hd)).setCell ⟨A, 3, none⟩ (.string tl)).heap[A]? = some (.cells #[.pointer pa, .pointer pb, .string hd, .string tl] 132 (0, 0)) :=
  heap_set (heap_set (heap_set (heap_set h _) _) _) _

theorem St.own4 {B : Nat} {M M' : Mp} {w w' : World} (s : St B M w M' w') {k : Nat} (hk : w.heap.size ≤ k) (hn : M' k = none) (v0 v1 v2 v3 : Value) :
    St B M w M' ((((w'.setCell ⟨k, 0, none⟩ v0).setCell ⟨k, 1, none⟩ v1).setCell ⟨k, 2, none⟩ v2).setCell ⟨k, 3, none⟩ v3) :=
  (((s.own hk hn 0 v0).own hk hn 1 v1).own hk hn 2 v2).own hk hn 3 v3

/-- The contract, for trees of fewer branches than n. -/
def CBelow (B : Nat) (n : Nat) : Prop :=
  ∀ (t : T), t.nn < n → ∀ (M : Mp) (w : World), Inv B [] M w → ∀ (b : Nat), M b = some t → ∀ k : Nat, k ≤ t.size →
    Calls Tryz.prog 64 #[.pointer (some ⟨b, 0, none⟩), .int .i64 (k : Int)] w (CutMade B M w t.text k (isLeafB t = true))

set_option maxHeartbeats 3200000 in
set_option maxRecDepth 100000 in
theorem cut_node_left {B : Nat} {M : Mp} {w : World} (h : Inv B [] M w) {b : Nat} {l r : T} (hb : M b = some (.node l r)) (ih : CBelow B (T.node l r).nn) (k : Nat) (hk : k < l.size) :
    Calls Tryz.prog 64 #[.pointer (some ⟨b, 0, none⟩), .int .i64 (k : Int)] w (CutMade B M w (l.text ++ r.text) k False) := by
  obtain ⟨bl, br, ml, mr, c0, c1, -, -⟩ := h.nodeCells hb
  obtain ⟨_, _, -, -, -, -, cl, -⟩ := h.cells ml
  have hbw := h.lt hb
  have hblw := h.lt ml
  have hlim := (h.full b _ hb).2
  simp only [T.size] at hlim
  unfold lim at hlim
  have bel : Below w.heap.size w (w.alloc (.cells #[.pointer none, .pointer none, .string ⟨#[]⟩, .string ⟨#[]⟩] 132)) := (Below.refl _ w).alloc (Nat.le_refl _) _
  have I0 := Lib.hid (h.below bel)
  have S0 := Lib.hid (St.below h bel)
  have A0 := Lib.hid (heap_alloc_new w (.cells #[.pointer none, .pointer none, .string ⟨#[]⟩, .string ⟨#[]⟩] 132))
  have N0 := Lib.hid (h.gone (Nat.le_refl w.heap.size))
  have HB := Lib.hid hb
  have H := Lib.hid h
  have IH := Lib.hid ih
  have ML := Lib.hid ml
  have MR := Lib.hid mr
  have HK := Lib.hid hk
  clear h hb bel ih ml mr
  go_enter Tryz.func64, Tryz.ntmps64
  go_wp2_with (go_at_call 79; refine (isLeaf_any I0.out HB.out).mono ?_; simp only [isLeafB]; rintro e w' ⟨rfl, rfl⟩)
  refine (IH.out l (by simp only [T.nn]; omega) M _ I0.out bl ML.out k (by omega)).mono ?_
  rintro e w1 ⟨oa, ob, hd, tl, pa, pb, M1, rfl, qa, qb, x1, x2, -, s1⟩
  have QA := Lib.hid qa
  have QB := Lib.hid qb
  have X1 := Lib.hid x1
  have X2 := Lib.hid x2
  have S1 := Lib.hid s1
  have d1 := (s1.fr.low b 1 (by simp; omega) (by omega)).trans ((World.cell?_alloc_past _ _ _ hbw).trans c1)
  have hbw1 : b < w1.heap.size := s1.inv.lt (s1.keep I0.out HB.out)
  clear qa qb x1 x2 s1
  have hj : osize ob + osize (some r) ≤ lim := by
    have e := congrArg List.length X2.out
    rw [List.length_append, List.length_drop, ← T.size_eq, ← osize_eq] at e
    show osize ob + r.size ≤ lim
    unfold lim
    omega
  have HJ := Lib.hid hj
  clear hj
  go_wp2
  have bel1 : Below w1.heap.size w1 (w1.alloc (.cells #[.pointer pa, .pointer pb, .string hd, .string tl] 132)) := (Below.refl _ w1).alloc (Nat.le_refl _) _
  have T1 := Lib.hid (St.below S1.out.inv bel1)
  have C1 := Lib.hid (heap_alloc_new w1 (.cells #[.pointer pa, .pointer pb, .string hd, .string tl] 132))
  have NC := Lib.hid (S1.out.inv.gone (Nat.le_refl w1.heap.size))
  clear bel1
  go_region_with (go_at_call 80; refine (join_any (B := B) ?_ QB.out (.inr ⟨br, r, rfl, rfl, S1.out.keep I0.out MR.out⟩) HJ.out).mono ?_; exact T1.out.inv.ali rfl; rintro e w2 ⟨oj, pj, M2, rfl, xj, -, qj, s2⟩; have XJ := Lib.hid xj; have QJ := Lib.hid qj; have S2 := Lib.hid (show St B M1 (w1.alloc (.cells #[.pointer pa, .pointer pb, .string hd, .string tl] 132)) M2 w2 from s2.ali rfl rfl rfl rfl); obtain ⟨hC, nC⟩ := S2.out.stays C1.out NC.out; obtain ⟨hA1, nA1⟩ := S1.out.stays A0.out N0.out; obtain ⟨hA, nA⟩ := (T1.out.trans S2.out).stays hA1 nA1; have zk1 := (cut_cells hC).2.2.2.2.2.1; have k1 := (cut_cells hC).2.1; have HA := Lib.hid hA; have HC := Lib.hid hC; have NA := Lib.hid nA; have NC2 := Lib.hid nC; clear hA1 nA1 hA hC nA nC s2 qj xj)
  all_goals (have hne : w1.heap.size ≠ w.heap.size := fun e => by have := S1.out.fr.size; simp at this; omega)
  all_goals (have S3 := Lib.hid ((((S0.out.trans S1.out).trans T1.out).trans S2.out).own (k := w1.heap.size) (by have := S1.out.fr.size; simp at this; omega) NC2.out 1 (.pointer pj)))
  all_goals (have hC3 : (w2.setCell ⟨w1.heap.size, 1, none⟩ (.pointer pj)).heap[w1.heap.size]? = some (.cells #[.pointer pa, .pointer pj, .string hd, .string tl] 132 (0, 0)) := heap_set HC.out _)
  all_goals (have hA3 : (w2.setCell ⟨w1.heap.size, 1, none⟩ (.pointer pj)).heap[w.heap.size]? = some (.cells #[.pointer none, .pointer none, .string ⟨#[]⟩, .string ⟨#[]⟩] 132 (0, 0)) := (Below.heap_setCell _ _ _ _ (fun e => hne e.symm)).trans HA.out)
  all_goals (clear zk1 k1; revert S3 hC3 hA3; generalize w2.setCell ⟨w1.heap.size, 1, none⟩ (.pointer pj) = w3; intro S3 hC3 hA3)
  all_goals (obtain ⟨a0, a1, a2, a3, za0, za1, za2, za3⟩ := cut_cells hA3; obtain ⟨k0, k1, k2, k3, -, -, -, -⟩ := cut_cells hC3; have HA3 := Lib.hid hA3; clear hA3 hC3)
  all_goals go_wp2
  all_goals (have hA4 := cut_ret (pa := pa) (pb := pj) (hd := hd) (tl := tl) HA3.out; have S4 := Lib.hid (S3.out.own4 (Nat.le_refl _) NA.out (.pointer pa) (.pointer pj) (.string hd) (.string tl)); revert hA4 S4; clear a0 a1 a2 a3 za0 za1 za2 za3 k0 k1 k2 k3; generalize ((((w3.setCell ⟨w.heap.size, 0, none⟩ (.pointer pa)).setCell ⟨w.heap.size, 1, none⟩ (.pointer pj)).setCell ⟨w.heap.size, 2, none⟩ (.string hd)).setCell ⟨w.heap.size, 3, none⟩ (.string tl)) = w4; intro hA4 S4; obtain ⟨b0, b1, b2, b3, -, -, -, -⟩ := cut_cells hA4)
  all_goals refine bodyPost_ret (v := .agg #[.pointer pa, .pointer pj, .string hd, .string tl]) (by simp [results, Tryz.results64, go_sem, b0, b1, b2, b3]) rfl ?_
  all_goals exact ⟨oa, oj, hd, tl, pa, pj, M2, rfl, S2.out.pt T1.out.inv QA.out, QJ.out, by rw [X1.out, List.take_append_of_le_length (by rw [← T.size_eq]; omega)], by rw [XJ.out, ← List.append_assoc, X2.out, List.drop_append_of_le_length (by rw [← T.size_eq]; omega)]; rfl, fun h => h.elim, S4.out⟩

end Go.Proofs.YtpnboieppkjfnaaGreat

/-
  cutAt, behind the left part.
-/
namespace Go.Proofs.YtpnboieppkjfnaaGreat
open Go.RowKit

abbrev zeroCut : Obj := .cells #[.pointer none, .pointer none, .string ⟨#[]⟩, .string ⟨#[]⟩] 132

/-- Where the ways meet behind 'c := cutAt(..)'. -/
def CutRel (B : Nat) (M : Mp) (w : World) (x : List UInt8) (k : Nat) (s : Value) (wx : World) : Prop :=
  ∃ (C : Nat) (oa ob : Option T) (hd tl : ByteArray) (pa pb : Option Addr) (M1 : Mp), s = .pointer (some ⟨C, 0, none⟩) ∧ wx.heap[C]? = some (.cells #[.pointer pa, .pointer pb, .string hd, .string tl] 132 (0, 0)) ∧
    wx.heap[w.heap.size]? = some zeroCut ∧ C ≠ w.heap.size ∧ w.heap.size ≤ C ∧ M1 C = none ∧ M1 w.heap.size = none ∧ PT M1 pa oa ∧ PT M1 pb ob ∧
    otext oa ++ hd.data.toList = x.take k ∧ tl.data.toList ++ otext ob = x.drop k ∧ St B M w M1 wx

theorem crel_late {B : Nat} {M M1 : Mp} {w w1 : World} {x : List UInt8} {k : Nat} {oa ob : Option T} {hd tl : ByteArray} {pa pb : Option Addr} (S : St B M w M1 w1) (hA : w1.heap[w.heap.size]? = some zeroCut) (nA : M1 w.heap.size = none)
    (qa : PT M1 pa oa) (qb : PT M1 pb ob) (x1 : otext oa ++ hd.data.toList = x.take k) (x2 : tl.data.toList ++ otext ob = x.drop k) :
    CutRel B M w x k (.pointer (some ⟨w1.heap.size, 0, none⟩)) (w1.alloc (.cells #[.pointer pa, .pointer pb, .string hd, .string tl] 132)) := by
  have bel : Below w1.heap.size w1 (w1.alloc (.cells #[.pointer pa, .pointer pb, .string hd, .string tl] 132)) := (Below.refl _ w1).alloc (Nat.le_refl _) _
  have hlt := lt_of_heap hA
  exact ⟨w1.heap.size, oa, ob, hd, tl, pa, pb, M1, rfl, heap_alloc_new w1 _, (bel.block _ hlt).trans hA, fun e => by omega, by omega, S.inv.gone (Nat.le_refl _), nA, qa, qb, x1, x2, S.trans (St.below S.inv bel)⟩

theorem crel_early {B : Nat} {M M1 : Mp} {w w1 : World} {x : List UInt8} {k C : Nat} {oa ob : Option T} {hd tl : ByteArray} {pa pb : Option Addr} (S : St B M w M1 w1) (hA : w1.heap[w.heap.size]? = some zeroCut) (nA : M1 w.heap.size = none)
    (hC : w1.heap[C]? = some zeroCut) (nC : M1 C = none) (hCA : C = w.heap.size + 1)
    (qa : PT M1 pa oa) (qb : PT M1 pb ob) (x1 : otext oa ++ hd.data.toList = x.take k) (x2 : tl.data.toList ++ otext ob = x.drop k) :
    CutRel B M w x k (.pointer (some ⟨C, 0, none⟩)) ((((w1.setCell ⟨C, 0, none⟩ (.pointer pa)).setCell ⟨C, 1, none⟩ (.pointer pb)).setCell ⟨C, 2, none⟩ (.string hd)).setCell ⟨C, 3, none⟩ (.string tl)) := by
  have ne : w.heap.size ≠ C := by omega
  refine ⟨C, oa, ob, hd, tl, pa, pb, M1, rfl, cut_ret hC, ?_, by omega, by omega, nC, nA, qa, qb, x1, x2, S.own4 (by omega) nC _ _ _ _⟩
  rw [Below.heap_setCell _ _ _ _ ne, Below.heap_setCell _ _ _ _ ne, Below.heap_setCell _ _ _ _ ne, Below.heap_setCell _ _ _ _ ne]
  exact hA

theorem other4 {w1 : World} {C q j : Nat} (ne : q ≠ C) (v0 v1 v2 v3 : Value) : ((((w1.setCell ⟨C, 0, none⟩ v0).setCell ⟨C, 1, none⟩ v1).setCell ⟨C, 2, none⟩ v2).setCell ⟨C, 3, none⟩ v3).cell? ⟨q, j, none⟩ = w1.cell? ⟨q, j, none⟩ := by
  have h : ∀ (w : World) (i : Nat) (v : Value), (w.setCell ⟨C, i, none⟩ v).cell? ⟨q, j, none⟩ = w.cell? ⟨q, j, none⟩ := fun w i v => World.cell?_setCell_other _ _ _ _ (fun e => ne (congrArg Addr.block e).symm)
  rw [h, h, h, h]

set_option maxHeartbeats 800000 in
set_option maxRecDepth 100000 in
theorem cut_node_right {B : Nat} {M : Mp} {w : World} (h : Inv B [] M w) {b : Nat} {l r : T} (hb : M b = some (.node l r)) (ih : CBelow B (T.node l r).nn) (k : Nat) (hk : l.size ≤ k) (hk2 : k ≤ l.size + r.size) :
    Calls Tryz.prog 64 #[.pointer (some ⟨b, 0, none⟩), .int .i64 (k : Int)] w (CutMade B M w (l.text ++ r.text) k False) := by
  obtain ⟨bl, br, ml, mr, c0, c1, -, -⟩ := h.nodeCells hb
  obtain ⟨_, _, -, -, -, -, cl, -⟩ := h.cells ml
  have hbw := h.lt hb
  have hblw := h.lt ml
  have hlim := (h.full b _ hb).2
  simp only [T.size] at hlim
  unfold lim at hlim
  have bel : Below w.heap.size w (w.alloc (.cells #[.pointer none, .pointer none, .string ⟨#[]⟩, .string ⟨#[]⟩] 132)) := (Below.refl _ w).alloc (Nat.le_refl _) _
  have I0 := Lib.hid (h.below bel)
  have S0 := Lib.hid (St.below h bel)
  have A0 := Lib.hid (heap_alloc_new w (.cells #[.pointer none, .pointer none, .string ⟨#[]⟩, .string ⟨#[]⟩] 132))
  have N0 := Lib.hid (h.gone (Nat.le_refl w.heap.size))
  have HB := Lib.hid hb
  have H := Lib.hid h
  have IH := Lib.hid ih
  have ML := Lib.hid ml
  have MR := Lib.hid mr
  have HK := Lib.hid hk
  clear h hb bel ih ml mr
  go_enter Tryz.func64, Tryz.ntmps64
  have bel2 : Below (w.alloc zeroCut).heap.size (w.alloc zeroCut) ((w.alloc zeroCut).alloc zeroCut) := (Below.refl _ _).alloc (Nat.le_refl _) _
  have S00 := Lib.hid (S0.out.trans (St.below I0.out bel2))
  have A00 := Lib.hid ((bel2.block w.heap.size (by simp)).trans A0.out)
  have C00 := Lib.hid (heap_alloc_new (w.alloc zeroCut) zeroCut)
  have NC0 := Lib.hid (I0.out.gone (Nat.le_refl _))
  have hsz : (w.alloc zeroCut).heap.size = w.heap.size + 1 := by simp
  have HSZ := Lib.hid hsz
  clear bel2 hsz
  go_upto_region 9 with (go_at_call 79; refine (isLeaf_any I0.out HB.out).mono ?_; simp only [isLeafB]; rintro e w' ⟨rfl, rfl⟩)
  go_cut [6] (CutRel B M w r.text (k - l.size))
  case first =>
    have nb1 : ¬ b = w.heap.size + 1 := by omega
    have nb2 : ¬ w.heap.size + 1 = b := by omega
    have nl1 : ¬ bl = w.heap.size + 1 := by omega
    have nl2 : ¬ w.heap.size + 1 = bl := by omega
    have hw : IntKind.i64.wrap ((k : Int) - (l.size : Int)) = ((k - l.size : Nat) : Int) := (IntWalk.i64_in _ (by omega)).trans (by omega)
    go_region_held3 (fun w' => w'.cell? ⟨b, 0, none⟩ = some (.pointer (some ⟨bl, 0, none⟩)) ∧ w'.cell? ⟨b, 1, none⟩ = some (.pointer (some ⟨br, 0, none⟩)) ∧ w'.cell? ⟨bl, 3, none⟩ = some (.int .i64 (l.size : Int)))
      (go_keep)
      (first
        | (go_at_call 64; refine (IH.out r (by simp only [T.nn]; omega) M _ ?_ br MR.out (k - l.size) (by omega)).mono ?_; (first | (with_reducible exact I0.out.drew) | (with_reducible exact S00.out.inv.drew)); rintro e w1 ⟨oa, ob, hd, tl, pa, pb, M1, rfl, qa, qb, x1, x2, -, s1⟩; have QA := Lib.hid qa; have QB := Lib.hid qb; have X1 := Lib.hid x1; have X2 := Lib.hid x2; (first | (have s2 : St B M (w.alloc zeroCut) M1 w1 := (by with_reducible exact s1.of_drew); obtain ⟨hA1, nA1⟩ := s2.stays A0.out N0.out; have S1 := Lib.hid (S0.out.trans s2); have HA1 := Lib.hid hA1; have NA1 := Lib.hid nA1; clear s2 hA1 nA1) | (have s2 : St B M ((w.alloc zeroCut).alloc zeroCut) M1 w1 := (by with_reducible exact s1.of_drew); obtain ⟨hA1, nA1⟩ := s2.stays A00.out N0.out; obtain ⟨hC1, nC1⟩ := s2.stays C00.out NC0.out; rw [HSZ.out] at hC1 nC1; obtain ⟨k0, k1, k2, k3, z0, z1, z2, z3⟩ := cut_cells hC1; have S1 := Lib.hid (S00.out.trans s2); have HA1 := Lib.hid hA1; have NA1 := Lib.hid nA1; have HC1 := Lib.hid hC1; have NC1 := Lib.hid nC1; clear s2 hA1 nA1 hC1 nC1)); have d0 := (S1.out.fr.low b 0 hbw (by omega)).trans c0; have d1 := (S1.out.fr.low b 1 hbw (by omega)).trans c1; have dl := (S1.out.fr.low bl 3 hblw (by omega)).trans cl; have hbw1 : b < w1.heap.size := Nat.lt_of_lt_of_le hbw S1.out.fr.size; have hblw1 : bl < w1.heap.size := Nat.lt_of_lt_of_le hblw S1.out.fr.size; clear qa qb x1 x2 s1))
    all_goals (go_wp2_with fail; go_meet)
    all_goals first
      | exact crel_late S1.out HA1.out NA1.out QA.out QB.out X1.out X2.out
      | exact crel_early S1.out HA1.out NA1.out HC1.out NC1.out rfl QA.out QB.out X1.out X2.out
  case rest =>
    obtain ⟨C, oa, ob, hd, tl, pa, pb, M1, rfl, hC, hA, hne, hCw, nC, nA, qa, qb, x1, x2, s1⟩ := hcut
    have e0 := (s1.fr.low b 0 hbw (by omega)).trans c0
    have m1 := s1.keep H.out ML.out
    have hj : osize (some l) + osize oa ≤ lim := by
      have e := congrArg List.length x1
      rw [List.length_append, List.length_take, ← T.size_eq, ← osize_eq] at e
      show l.size + osize oa ≤ lim
      unfold lim
      omega
    obtain ⟨k0, -, -, -, z0, -, -, -⟩ := cut_cells hC
    have HJ := Lib.hid hj
    have HC := Lib.hid hC
    have HA := Lib.hid hA
    have NC := Lib.hid nC
    have NA := Lib.hid nA
    have QA := Lib.hid qa
    have QB := Lib.hid qb
    have X1 := Lib.hid x1
    have X2 := Lib.hid x2
    have S1 := Lib.hid s1
    have M1L := Lib.hid m1
    have HNE := Lib.hid hne
    clear hj hC hA nC nA qa qb x1 x2 s1 m1 hne
    go_wp2
    go_region_with (go_at_call 80; refine (join_any (B := B) ?_ (.inr ⟨bl, l, rfl, rfl, M1L.out⟩) QA.out HJ.out).mono ?_; (with_reducible exact S1.out.inv.drew); rintro e w2 ⟨oj, pj, M2, rfl, xj, -, qj, s2⟩; have XJ := Lib.hid xj; have QJ := Lib.hid qj; have S2 := Lib.hid s2.of_drew; obtain ⟨hC2, nC2⟩ := S2.out.stays HC.out NC.out; obtain ⟨hA2, nA2⟩ := S2.out.stays HA.out NA.out; have zk0 := (cut_cells hC2).2.2.2.2.1; have k0' := (cut_cells hC2).1; have HA2 := Lib.hid hA2; have HC2 := Lib.hid hC2; have NA2 := Lib.hid nA2; have NC2 := Lib.hid nC2; clear hA2 nA2 hC2 nC2 s2 qj xj)
    all_goals (have S3 := Lib.hid ((S1.out.trans S2.out).own (k := C) hCw NC2.out 0 (.pointer pj)))
    all_goals (have hC3 : (w2.setCell ⟨C, 0, none⟩ (.pointer pj)).heap[C]? = some (.cells #[.pointer pj, .pointer pb, .string hd, .string tl] 132 (0, 0)) := heap_set HC2.out _)
    all_goals (have hA3 : (w2.setCell ⟨C, 0, none⟩ (.pointer pj)).heap[w.heap.size]? = some zeroCut := (Below.heap_setCell _ _ _ _ (fun e => HNE.out e.symm)).trans HA2.out)
    all_goals (clear zk0 k0'; revert S3 hC3 hA3; generalize w2.setCell ⟨C, 0, none⟩ (.pointer pj) = w3; intro S3 hC3 hA3)
    all_goals (obtain ⟨a0, a1, a2, a3, za0, za1, za2, za3⟩ := cut_cells hA3; obtain ⟨y0, y1, y2, y3, -, -, -, -⟩ := cut_cells hC3; have HA3 := Lib.hid hA3; clear hA3 hC3)
    all_goals go_wp2
    all_goals (have hA4 := cut_ret (pa := pj) (pb := pb) (hd := hd) (tl := tl) HA3.out; have S4 := Lib.hid (S3.out.own4 (Nat.le_refl _) NA2.out (.pointer pj) (.pointer pb) (.string hd) (.string tl)); revert hA4 S4; clear a0 a1 a2 a3 za0 za1 za2 za3 y0 y1 y2 y3; generalize ((((w3.setCell ⟨w.heap.size, 0, none⟩ (.pointer pj)).setCell ⟨w.heap.size, 1, none⟩ (.pointer pb)).setCell ⟨w.heap.size, 2, none⟩ (.string hd)).setCell ⟨w.heap.size, 3, none⟩ (.string tl)) = w4; intro hA4 S4; obtain ⟨b0, b1, b2, b3, -, -, -, -⟩ := cut_cells hA4)
    all_goals refine bodyPost_ret (v := .agg #[.pointer pj, .pointer pb, .string hd, .string tl]) (by simp [results, Tryz.results64, go_sem, b0, b1, b2, b3]) rfl ?_
    all_goals exact ⟨oj, ob, hd, tl, pj, pb, M2, rfl, QJ.out, S2.out.pt S1.out.inv QB.out, by rw [XJ.out, List.append_assoc, X1.out, List.take_append, List.take_of_length_le (l := l.text) (by rw [← T.size_eq]; omega), ← T.size_eq]; rfl, by rw [X2.out, List.drop_append, List.drop_of_length_le (l := l.text) (by rw [← T.size_eq]; omega), ← T.size_eq]; rfl, fun h => h.elim, S4.out⟩

end Go.Proofs.YtpnboieppkjfnaaGreat
