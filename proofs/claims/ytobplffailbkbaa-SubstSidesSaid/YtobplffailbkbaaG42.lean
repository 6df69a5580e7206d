/-
  Texts of the proof, put together: SuAl, SuBo.
-/
import Derived.Test.YtobplffailbkbaaG24
import Derived.Test.YtobplffailbkbaaG21
import Derived.Test.YtobplffailbkbaaG30
import Derived.Test.YtobplffailbkbaaG31

/-
  What awake asks of subst, over lists.
-/
namespace Go.Proofs.Ytobplffailbkbaa
open Go.RowKit Go.Maps

theorem aw11_t : lexT ⟨#[70, 40, 97, 44, 98, 41, 32, 97, 35, 35, 98, 32, 35, 97, 32, 98]⟩ = [awX 1 ⟨#[70]⟩ false 0 1, awX 5 ⟨#[40]⟩ false 1 2, awX 1 ⟨#[97]⟩ false 2 3, awX 5 ⟨#[44]⟩ false 3 4, awX 1 ⟨#[98]⟩ false 4 5, awX 5 ⟨#[41]⟩ false 5 6, awX 1 ⟨#[97]⟩ true 7 8, awX 5 ⟨#[35, 35]⟩ false 8 10, awX 1 ⟨#[98]⟩ false 10 11, awX 5 ⟨#[35]⟩ true 12 13, awX 1 ⟨#[97]⟩ false 13 14, awX 1 ⟨#[98]⟩ true 15 16] := by rfl
def aw11M : Xm := ⟨⟨#[70]⟩, true, false, [⟨#[97]⟩, ⟨#[98]⟩], [awX 1 ⟨#[97]⟩ false 7 8, awX 5 ⟨#[35, 35]⟩ false 8 10, awX 1 ⟨#[98]⟩ false 10 11, awX 5 ⟨#[35]⟩ true 12 13, awX 1 ⟨#[97]⟩ false 13 14, awX 1 ⟨#[98]⟩ true 15 16], fB, 0, 1⟩
theorem aw11_p : parseL (lexT ⟨#[70, 40, 97, 44, 98, 41, 32, 97, 35, 35, 98, 32, 35, 97, 32, 98]⟩) = .inl aw11M := by
  rw [aw11_t]
  simp [parseL, headL, rowL, isX_eq, awX, resB, parB, memB, misL, illX, bareL, pasteX_eq, hashX_eq, isPar, aw11M]
theorem aw11_x : lexT ⟨#[120]⟩ = [awX 1 ⟨#[120]⟩ false 0 1] := by rfl
theorem aw11_1 : lexT ⟨#[49]⟩ = [awX 2 ⟨#[49]⟩ false 0 1] := by rfl
theorem aw11_X : lexT ⟨#[88]⟩ = [awX 1 ⟨#[88]⟩ false 0 1] := by rfl
theorem aw11_2 : lexT ⟨#[50]⟩ = [awX 2 ⟨#[50]⟩ false 0 1] := by rfl
def aw11A : List (List Xt) := [[awX 1 ⟨#[120]⟩ false 0 1], [awX 2 ⟨#[49]⟩ false 0 1]]
def aw11B : List (List Xt) := [[awX 1 ⟨#[88]⟩ false 0 1], [awX 2 ⟨#[50]⟩ false 0 1]]
theorem aw11_b (s : Xs) : (textT (bodyL aw11M aw11A aw11B [s]).1 = [120, 49, 32, 34, 120, 34, 32, 50] ∧ (bodyL aw11M aw11A aw11B [s]).2.1.length = 3) ∧ (bodyL aw11M aw11A aw11B [s]).2.2.length = 0 := by
  refine ⟨⟨?_, ?_⟩, ?_⟩ <;> kernel_rfl

end Go.Proofs.Ytobplffailbkbaa

/-
  A body of a macro: the project's bodyOf, walked.
-/
namespace Go.Proofs.Ytobplffailbkbaa
open Go.RowKit Go.Maps

theorem idx_snoc (x s : ByteArray) : ∀ (l : List ByteArray) (k : Int), 0 ≤ k → idxI x (l ++ [s]) k = if 0 ≤ idxI x l k then idxI x l k else if s = x then k + l.length else -1
  | [], k, _ => by
    show idxI x [s] k = _
    unfold idxI
    simp only [idxI]
    by_cases h : x = s
    · subst h
      simp
    · have h' : ¬ s = x := fun e => h e.symm
      simp [h, h']
  | y :: l, k, hk => by
    show idxI x (y :: (l ++ [s])) k = _
    unfold idxI
    by_cases h : x = y
    · rw [if_pos h, if_pos h, if_pos hk]
    · rw [if_neg h, if_neg h, idx_snoc x s l (k + 1) (by omega)]
      by_cases h2 : 0 ≤ idxI x l (k + 1)
      · rw [if_pos h2, if_pos h2]
      · rw [if_neg h2, if_neg h2]
        by_cases h3 : s = x
        · rw [if_pos h3, if_pos h3, List.length_cons]
          omega
        · rw [if_neg h3, if_neg h3]
theorem says_nil {D : DataW Unit} (h : ∀ x : ByteArray, Maps.has D (.string x.data.toList) = false) : Says D [] := fun x => ⟨by rw [h x]; rfl, fun e => absurd e (by simp [idxI])⟩
theorem Says.there {D : DataW Unit} {l : List ByteArray} {s : ByteArray} (h : Says D l) (hs : 0 ≤ idxI s l 0) : Says D (l ++ [s]) := by
  intro x
  have e : idxI x (l ++ [s]) 0 = idxI x l 0 := by
    rw [idx_snoc x s l 0 (by omega)]
    by_cases h1 : 0 ≤ idxI x l 0
    · rw [if_pos h1]
    · rw [if_neg h1]
      by_cases h2 : s = x
      · subst h2
        exact absurd hs h1
      · rw [if_neg h2, idxI_neg h1]
  rw [e]
  exact h x
theorem Says.more {D : DataW Unit} {l : List ByteArray} {s : ByteArray} (h : Says D l) (hm : IsMap D) (hs : ¬ 0 ≤ idxI s l 0) : Says (D.put (.string s.data.toList) (.lit (.int .i64 (l.length : Int)))) (l ++ [s]) := by
  intro x
  rw [idx_snoc x s l 0 (by omega)]
  by_cases h2 : s = x
  · subst h2
    rw [if_neg hs, if_pos rfl, has_put_same hm (by simp [WideAt.IsKeyLit]), atKey_put_same hm (by simp [WideAt.IsKeyLit])]
    refine ⟨?_, fun _ => ?_⟩
    · simp
    · simp
  · have hne : Lit.string x.data.toList ≠ Lit.string s.data.toList := lit_diff (fun e => h2 e.symm)
    rw [if_neg h2, has_put_other hne, atKey_put_other hne]
    by_cases h1 : 0 ≤ idxI x l 0
    · rw [if_pos h1]
      exact h x
    · rw [if_neg h1]
      have := h x
      rw [idxI_neg h1] at this
      exact this

def macObj (m : Xm) (pv bv : Value) : Obj := .cells #[.string m.n, .bool m.fn, .bool m.va, pv, bv, .string m.g, .int .i64 m.f, .int .i64 m.t] 45 (0, 0)
/-- Ahead of each turn: the three boxes and the map. -/
structure Bo (W : World) (m : Xm) (pv bv : Value) (b1 b2 b3 mb i : Nat) (w : World) : Prop where
  mac : w.heap[b1]? = some (macObj m pv bv)
  res : w.heap[b2]? = some (bodyObj (.slice none 0 0) none (.slice none 0 0) (.slice none 0 0) (.slice none 0 0))
  box : w.heap[b3]? = some (bodyObj bv (some mb) (.slice none 0 0) (.slice none 0 0) (.slice none 0 0))
  map : ∃ D, w.ownsMap Try.prog 9 nbElem mb i D ∧ Says D (m.ps.take i)
  low : Below W.heap.size W w
  far : W.heap.size ≤ b1 ∧ W.heap.size ≤ b2 ∧ W.heap.size ≤ b3 ∧ W.heap.size ≤ mb
def BofPost (W : World) (m : Xm) (bv : Value) (e : Ending) (w' : World) : Prop := ∃ mo, e = .returned (.agg #[bv, .map mo, (.slice none 0 0), (.slice none 0 0), (.slice none 0 0)]) ∧ PlacesIs m mo w' ∧ Below W.heap.size W w'
theorem bo_start (W : World) (m : Xm) (pv bv : Value) : Bo W m pv bv W.heap.size (W.heap.size + 1) (W.heap.size + 1 + 1) (W.heap.size + 1 + 1 + 1) 0 ((((W.alloc (macObj m pv bv)).alloc (bodyObj (.slice none 0 0) none (.slice none 0 0) (.slice none 0 0) (.slice none 0 0))).alloc (bodyObj bv (some (W.heap.size + 1 + 1 + 1)) (.slice none 0 0) (.slice none 0 0) (.slice none 0 0))).alloc (.map #[] 0)) := by
  have s1 : (W.alloc (macObj m pv bv)).heap.size = W.heap.size + 1 := by simp
  have s2 : ((W.alloc (macObj m pv bv)).alloc (bodyObj (.slice none 0 0) none (.slice none 0 0) (.slice none 0 0) (.slice none 0 0))).heap.size = W.heap.size + 1 + 1 := by simp
  have s3 : (((W.alloc (macObj m pv bv)).alloc (bodyObj (.slice none 0 0) none (.slice none 0 0) (.slice none 0 0) (.slice none 0 0))).alloc (bodyObj bv (some (W.heap.size + 1 + 1 + 1)) (.slice none 0 0) (.slice none 0 0) (.slice none 0 0))).heap.size = W.heap.size + 1 + 1 + 1 := by simp
  have up4 : ∀ k, k < W.heap.size + 1 + 1 + 1 → _ := fun k hk => Below.heap_alloc (((W.alloc (macObj m pv bv)).alloc (bodyObj (.slice none 0 0) none (.slice none 0 0) (.slice none 0 0) (.slice none 0 0))).alloc (bodyObj bv (some (W.heap.size + 1 + 1 + 1)) (.slice none 0 0) (.slice none 0 0) (.slice none 0 0))) (.map #[] 0) k (by rw [s3]; exact hk)
  have up3 : ∀ k, k < W.heap.size + 1 + 1 → _ := fun k hk => Below.heap_alloc ((W.alloc (macObj m pv bv)).alloc (bodyObj (.slice none 0 0) none (.slice none 0 0) (.slice none 0 0) (.slice none 0 0))) (bodyObj bv (some (W.heap.size + 1 + 1 + 1)) (.slice none 0 0) (.slice none 0 0) (.slice none 0 0)) k (by rw [s2]; exact hk)
  have up2 : ∀ k, k < W.heap.size + 1 → _ := fun k hk => Below.heap_alloc (W.alloc (macObj m pv bv)) (bodyObj (.slice none 0 0) none (.slice none 0 0) (.slice none 0 0) (.slice none 0 0)) k (by rw [s1]; exact hk)
  have n2 := heap_alloc_new (W.alloc (macObj m pv bv)) (bodyObj (.slice none 0 0) none (.slice none 0 0) (.slice none 0 0) (.slice none 0 0))
  have n3 := heap_alloc_new ((W.alloc (macObj m pv bv)).alloc (bodyObj (.slice none 0 0) none (.slice none 0 0) (.slice none 0 0) (.slice none 0 0))) (bodyObj bv (some (W.heap.size + 1 + 1 + 1)) (.slice none 0 0) (.slice none 0 0) (.slice none 0 0))
  rw [s1] at n2
  rw [s2] at n3
  refine ⟨(up4 _ (by omega)).trans ((up3 _ (by omega)).trans ((up2 _ (by omega)).trans (heap_alloc_new W _))), (up4 _ (by omega)).trans ((up3 _ (by omega)).trans n2), (up4 _ (by omega)).trans n3, ⟨.map [], ?_, ?_⟩, (below_three W _ _ _).alloc (by rw [s3]; omega) _, ⟨Nat.le_refl _, by omega, by omega, by omega⟩⟩
  · have := World.ownsMap_made (((W.alloc (macObj m pv bv)).alloc (bodyObj (.slice none 0 0) none (.slice none 0 0) (.slice none 0 0) (.slice none 0 0))).alloc (bodyObj bv (some (W.heap.size + 1 + 1 + 1)) (.slice none 0 0) (.slice none 0 0) (.slice none 0 0))) Try.prog 9 nbElem
    rw [s3] at this
    exact this.mono (Nat.le_refl _)
  · rw [List.take_zero]
    exact says_nil fun x => rfl
theorem Bo.cells {W : World} {m : Xm} {pv bv : Value} {b1 b2 b3 mb i : Nat} {w : World} (h : Bo W m pv bv b1 b2 b3 mb i w) : w.cell? ⟨b3, 0, none⟩ = some bv ∧ w.cell? ⟨b3, 1, none⟩ = some (.map (some mb)) ∧ w.cell? ⟨b3, 2, none⟩ = some (.slice none 0 0) ∧ w.cell? ⟨b3, 3, none⟩ = some (.slice none 0 0) ∧ w.cell? ⟨b3, 4, none⟩ = some (.slice none 0 0) ∧
    w.cell? ⟨b2, 0, none⟩ = some (.slice none 0 0) ∧ w.cell? ⟨b2, 1, none⟩ = some (.map none) ∧ w.cell? ⟨b2, 2, none⟩ = some (.slice none 0 0) ∧ w.cell? ⟨b2, 3, none⟩ = some (.slice none 0 0) ∧ w.cell? ⟨b2, 4, none⟩ = some (.slice none 0 0) ∧ ∀ j, w.frozen? ⟨b2, j, none⟩ = false := by
  have h3 := h.box
  have h2 := h.res
  unfold bodyObj at h3 h2
  refine ⟨?_, ?_, ?_, ?_, ?_, ?_, ?_, ?_, ?_, ?_, fun j => Lib.frozen_of_heap h2 _⟩
  all_goals first | (rw [Lib.cell_of_heap h3]; rfl) | (rw [Lib.cell_of_heap h2]; rfl)
theorem Bo.look {W : World} {m : Xm} {pv bv : Value} {b1 b2 b3 mb i : Nat} {w : World} (h : Bo W m pv bv b1 b2 b3 mb i w) (s : ByteArray) (hs : s.size ≤ maxLen) : ∃ c, (Instr.lookup 74 (.map (some mb)) (.string s) true).run Try.prog w = .ok (.tuple #[.int .i64 c, .bool (decide (0 ≤ idxI s (m.ps.take i) 0))]) w := by
  obtain ⟨D, hD, hM⟩ := h.map
  obtain ⟨v, ps, hr, hval⟩ := hD.look_ok keyStr Try.underlying74 (zeroI w) (zd := .lit (.int .i64 0)) (zp := []) rfl (keyOfS s hs)
  obtain ⟨c, rfl, hc⟩ := nbElem_inv hval
  rw [(hM s).1] at hr
  exact ⟨c, hr⟩
theorem take_snoc {l : List ByteArray} {i : Nat} {s : ByteArray} (h : l[i]? = some s) : l.take (i + 1) = l.take i ++ [s] := by rw [List.take_add_one, h]; rfl
theorem Bo.there {W : World} {m : Xm} {pv bv : Value} {b1 b2 b3 mb i : Nat} {w : World} (h : Bo W m pv bv b1 b2 b3 mb i w) {s : ByteArray} (hs : m.ps[i]? = some s) (h0 : 0 ≤ idxI s (m.ps.take i) 0) : Bo W m pv bv b1 b2 b3 mb (i + 1) w := by
  obtain ⟨D, hD, hM⟩ := h.map
  exact ⟨h.mac, h.res, h.box, ⟨D, hD.mono (Nat.le_succ _), by rw [take_snoc hs]; exact hM.there h0⟩, h.low, h.far⟩
theorem Bo.more {W : World} {m : Xm} {pv bv : Value} {b1 b2 b3 mb i : Nat} {w w' : World} (h : Bo W m pv bv b1 b2 b3 mb i w) {D : DataW Unit} (hM : Says D (m.ps.take i)) (hI : IsMap D) {s : ByteArray} (hs : m.ps[i]? = some s) (h0 : ¬ 0 ≤ idxI s (m.ps.take i) 0) (h1 : w'.ownsMap Try.prog 9 nbElem mb (i + 1) (D.put (.string s.data.toList) (.lit (.int .i64 (i : Int))))) (g : w.grownBy w' (some mb)) : Bo W m pv bv b1 b2 b3 mb (i + 1) w' := by
  obtain ⟨D', ⟨es, c, hmb, -⟩, -⟩ := h.map
  have ne : ∀ {k : Nat} {cs : Array Value} {e : TypeId}, w.heap[k]? = some (.cells cs e (0, 0)) → some k ≠ some mb := fun hk e => by
    rw [Option.some.inj e, hmb] at hk
    cases hk
  have hlen : (m.ps.take i).length = i := by
    have := (List.getElem?_eq_some_iff.1 hs).1
    rw [List.length_take]
    omega
  refine ⟨(g.block _ (row_lt h.mac) (ne h.mac)).trans h.mac, (g.block _ (row_lt h.res) (ne h.res)).trans h.res, (g.block _ (row_lt h.box) (ne h.box)).trans h.box, ⟨_, h1, ?_⟩, h.low.grown g h.low.size (fun k hk => by cases hk; exact h.far.2.2.2), h.far⟩
  rw [take_snoc hs]
  have := hM.more hI h0
  rw [hlen] at this
  exact this

theorem Bo.done {W : World} {m : Xm} {pv bv : Value} {b1 b2 b3 mb i : Nat} {w : World} (h : Bo W m pv bv b1 b2 b3 mb i w) (hf : m.fn = true) (hi : m.ps.length ≤ i) : ∃ X, ((((w.setCell ⟨b2, 0, none⟩ bv).setCell ⟨b2, 1, none⟩ (.map (some mb))).setCell ⟨b2, 2, none⟩ (.slice none 0 0)).setCell ⟨b2, 3, none⟩ (.slice none 0 0)).setCell ⟨b2, 4, none⟩ (.slice none 0 0) = X ∧
    (X.cell? ⟨b2, 0, none⟩ = some bv ∧ X.cell? ⟨b2, 1, none⟩ = some (.map (some mb)) ∧ X.cell? ⟨b2, 2, none⟩ = some (.slice none 0 0) ∧ X.cell? ⟨b2, 3, none⟩ = some (.slice none 0 0) ∧ X.cell? ⟨b2, 4, none⟩ = some (.slice none 0 0)) ∧ PlacesIs m (some mb) X ∧ Below W.heap.size W X := by
  obtain ⟨D, hD, hM⟩ := h.map
  rw [List.take_of_length_le hi] at hM
  have hr := h.res
  unfold bodyObj at hr
  have hne : mb ≠ b2 := fun e => by
    obtain ⟨es, c, hmb, -⟩ := hD
    rw [e, hr] at hmb
    cases hmb
  have h0 : (w.setCell ⟨b2, 0, none⟩ bv).heap[b2]? = some (.cells #[bv, .map none, (.slice none 0 0), (.slice none 0 0), (.slice none 0 0)] 76 (0, 0)) := (heap_setCell_same _ _ 0 _ _ _ hr).trans rfl
  have h1 := (heap_setCell_same _ _ 1 _ _ (.map (some mb)) h0).trans rfl
  have h2 := (heap_setCell_same _ _ 2 _ _ (.slice none 0 0) h1).trans rfl
  have h3 := (heap_setCell_same _ _ 3 _ _ (.slice none 0 0) h2).trans rfl
  have h4 := (heap_setCell_same _ _ 4 _ _ (.slice none 0 0) h3).trans rfl
  refine ⟨_, rfl, ⟨?_, ?_, ?_, ?_, ?_⟩, ⟨hf, D, i, ((((hD.setCell (a := ⟨b2, 0, none⟩) hne _).setCell (a := ⟨b2, 1, none⟩) hne _).setCell (a := ⟨b2, 2, none⟩) hne _).setCell (a := ⟨b2, 3, none⟩) hne _).setCell (a := ⟨b2, 4, none⟩) hne _, hM⟩, ((((h.low.setCell (p := ⟨b2, 0, none⟩) h.far.2.1 _).setCell (p := ⟨b2, 1, none⟩) h.far.2.1 _).setCell (p := ⟨b2, 2, none⟩) h.far.2.1 _).setCell (p := ⟨b2, 3, none⟩) h.far.2.1 _).setCell (p := ⟨b2, 4, none⟩) h.far.2.1 _⟩ <;> (rw [Lib.cell_of_heap h4]; rfl)

set_option maxRecDepth 100000 in
set_option maxHeartbeats 6400000 in
theorem bodyof_any {m : Xm} {pv bv : Value} {W : World} (h : MacAt m pv bv W) (hz : ∀ s ∈ m.ps, s.size ≤ maxLen) : Calls Try.prog 30 #[macV m pv bv] W (BofPost W m bv) := by
  obtain ⟨pa, pn, pc, rfl⟩ := h.1.form
  obtain ⟨ba, bn, bc, rfl⟩ := h.2.form
  unfold macV
  cases hf : m.fn with
  | false =>
    have HF := Lib.hid hf
    clear h hz hf
    go_enter Try.func30, Try.ntmps30
    go_wp2
    exact bodyPost_ret (v := .agg #[.slice ba bn bc, .map none, (.slice none 0 0), (.slice none 0 0), (.slice none 0 0)]) (by simp [results, Try.results30, go_sem]) rfl ⟨none, rfl, HF.out, below_three W _ _ _⟩
  | true =>
    have HF := Lib.hid hf
    have hmk := @run_makeMap Try.prog
    have hB := bo_start W m (.slice pa pn pc) (.slice ba bn bc)
    have HM := Lib.hid h.1
    obtain ⟨hpn, hp1, hp2⟩ := h.1.len
    have HPN := Lib.hid hpn
    have HZ := Lib.hid hz
    unfold macObj bodyObj at hB
    rw [hf] at hB
    unfold maxLen at hp2
    clear h hz hf hpn
    go_enter Try.func30, Try.ntmps30
    go_wp2
    obtain ⟨W4, hW4⟩ : ∃ W4, (((W.alloc (.cells #[.string m.n, .bool true, .bool m.va, .slice pa pn pc, .slice ba bn bc, .string m.g, .int .i64 m.f, .int .i64 m.t] 45)).alloc (.cells #[(.slice none 0 0), .map none, (.slice none 0 0), (.slice none 0 0), (.slice none 0 0)] 76)).alloc (.cells #[.slice ba bn bc, .map (some (W.heap.size + 1 + 1 + 1)), (.slice none 0 0), (.slice none 0 0), (.slice none 0 0)] 76)).alloc (.map #[] 0) = W4 := ⟨_, rfl⟩
    rw [hW4] at hB ⊢
    obtain ⟨b2, hb2⟩ : ∃ b, W.heap.size + 1 = b := ⟨_, rfl⟩
    obtain ⟨b3, hb3⟩ : ∃ b, W.heap.size + 1 + 1 = b := ⟨_, rfl⟩
    obtain ⟨mb, hmb⟩ : ∃ b, W.heap.size + 1 + 1 + 1 = b := ⟨_, rfl⟩
    rw [hmb, hb3, hb2] at hB ⊢
    clear hW4 hb2 hb3 hmb hmk
    go_loopw [20] (fun i wr => ∃ k : Nat, i = .int .i64 (k : Int) ∧ k ≤ pn ∧ Bo W m (.slice pa pn pc) (.slice ba bn bc) W.heap.size b2 b3 mb k wr) (fun i _ => pn - (intOf i).toNat)
    case atStart => exact ⟨0, rfl, Nat.zero_le _, hB⟩
    case round =>
      obtain ⟨k, rfl, hk, hBk⟩ := hrel
      have HB := Lib.hid hBk
      obtain ⟨c0, c1, c2, c3, c4, z0, z1, z2, z3, z4, zf⟩ := hBk.cells
      clear hB hBk
      by_cases hlt : k < pn
      · obtain ⟨s, hs⟩ : ∃ s, m.ps[k]? = some s := ⟨_, List.getElem?_eq_getElem (by rw [← HPN.out]; exact hlt)⟩
        have hss := HZ.out s (List.mem_of_getElem? hs)
        obtain ⟨g, o, rfl, hg, hc⟩ := HM.out.get hs
        have hcs := bcell HB.out.low hc hg
        obtain ⟨c, hlook⟩ := HB.out.look s hss
        have HS := Lib.hid hs
        have hkI : (k : Int) < (pn : Int) := by omega
        have hk0 : (0 : Int) ≤ (k : Int) := by omega
        by_cases h0 : 0 ≤ idxI s (m.ps.take k) 0
        · rw [decide_eq_true h0] at hlook
          have HN := Lib.hid (HB.out.there HS.out h0)
          clear h0 hs hc hg
          go_wp2
          go_roundw
          case rel => exact ⟨k + 1, by go_num, hlt, HN.out⟩
          case measure => simp [intOf]; omega
        · rw [decide_eq_false h0] at hlook
          have HKEY := Lib.hid (keyOfS s hss)
          obtain ⟨D, hD, hM⟩ := HB.out.map
          have HD := Lib.hid hD
          have HN := Lib.hid (fun (w' : World) h1 g => HB.out.more (w' := w') hM hD.isMap HS.out h0 h1 g)
          clear h0 hs hc hg hD hM
          go_wp2_with (at_mapUpdate; refine wpList_mapUpdate_own _ rfl _ _ _ 74 rfl 9 3 keyStr Try.underlying74 nbElem mb k D rfl HD.out (by unfold maxLen; omega) _ _ (.string s.data.toList) rfl rfl HKEY.out (.lit (.int .i64 (k : Int))) [] rfl ?_; intro w3 hown3 hgrow3; have HN3 := Lib.hid (HN.out w3 hown3 hgrow3); clear hown3 hgrow3)
          go_roundw
          case rel => exact ⟨k + 1, by go_num, hlt, HN3.out⟩
          case measure => simp [intOf]; omega
      · have hkI : ¬ (k : Int) < (pn : Int) := by omega
        obtain rfl : k = pn := by omega
        obtain ⟨X, hX, ⟨y0, y1, y2, y3, y4⟩, hP, hL⟩ := HB.out.done HF.out (by rw [← HPN.out]; omega)
        go_wp2
        exact bodyPost_ret (v := .agg #[.slice ba bn bc, .map (some mb), (.slice none 0 0), (.slice none 0 0), (.slice none 0 0)]) (by simp [results, Try.results30, go_sem, y0, y1, y2, y3, y4]) rfl ⟨some mb, rfl, hP, hL⟩

end Go.Proofs.Ytobplffailbkbaa
