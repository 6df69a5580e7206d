/-
  Texts of the proof, put together: GcEnd, GcClose.
-/
import Derived.Test.YtlnlpahmfpjjdaaDoorG23
import Derived.IntWalk

/-
  The builder's end, walked.
-/
namespace Go.Proofs.YtlnlpahmfpjjdaaDoor
open Go.RowKit

def EndPost (W : World) (bb d : Nat) (F1 : List (Fr × Fv)) (g f : Fr) (oa oc ca cn : Nat) (codes : List Int) (e : Ending) (w' : World) : Prop :=
  e = .returned (.tuple #[]) ∧ ∃ c' y', Bld W bb c' (d + 2) (F1 ++ [({ g with cu := g.cu ++ [frItem f] }, y')]) oa oc ca cn codes w'

section
variable {W : World} {bb : Nat} {c : Col} {d : Nat} {F1 : List (Fr × Fv)} {g f : Fr} {y x : Fv} {oa oc ca cn : Nat} {codes : List Int} {w : World}

set_option maxRecDepth 100000 in
set_option maxHeartbeats 6400000 in
theorem end_any (h : Bld W bb c d ((F1 ++ [(g, y)]) ++ [(f, x)]) oa oc ca cn codes w) (hd : d ≤ 300000) :
    Calls Tryd.prog 50 #[.pointer (some ⟨bb, 0, none⟩)] w (EndPost W bb d F1 g f oa oc ca cn codes) := by
  have HI := Lib.hid h.inner
  have HB := Lib.hid h
  have hf := h.fr (F1 := []) rfl
  have hkd : x.kd = 2 := hf.kd (by simp)
  have hcap := h.cap
  unfold maxLen at hcap
  obtain ⟨m, hm⟩ : ∃ m, (F1 ++ [(g, y)]).length = m := ⟨_, rfl⟩
  have hlen : ((F1 ++ [(g, y)]) ++ [(f, x)]).length = m + 1 := by rw [List.length_append, hm]; rfl
  rw [hlen] at hcap
  obtain ⟨hc1, hc2⟩ := hcap
  have HM := Lib.hid hm
  have HC : Hid (∀ X : World, Below w.heap.size w X → X.cell? ⟨oa, m * 4, none⟩ = some (.int .i64 2) ∧ X.cell? ⟨oa, m * 4 + 1, none⟩ = some (.int .i64 (f.ln : Int)) ∧ X.cell? ⟨oa, m * 4 + 2, none⟩ = some (.slice (some ⟨x.ab, 0, none⟩) (x.A.length + 1) x.ac)) := Lib.hid (fun X b => by
    have hX := HB.out.over b
    rw [← HM.out]
    exact ⟨hkd ▸ hX.cell (F1 := []) rfl (i := 0) (by omega) rfl, hX.cell (F1 := []) rfl (i := 1) (by omega) rfl, hX.cell (F1 := []) rfl (i := 2) (by omega) rfl⟩)
  have H0 : Hid (∀ X : World, Below w.heap.size w X → X.cell? ⟨bb, 0, none⟩ = some (.slice (some ⟨oa, 0, none⟩) (m + 1) oc) ∧ X.frozen? ⟨bb, 0, none⟩ = false) := Lib.hid (fun X b => by
    have hX := HB.out.over b
    have := hX.b0
    rw [List.length_append, HM.out] at this
    exact ⟨this, frozen_of_row X bb 0 _ _ hX.box⟩)
  have HD := Lib.hid hd
  rw [hm] at HI
  clear h hf hkd hm hlen hd
  go_enter Tryd.func50, Tryd.ntmps50
  go_wp2_with (go_at_call 75; (with_reducible refine HI.out.mono ?_); rintro e w1 ⟨rfl, hb⟩; have HB1 := Lib.hid hb; (obtain ⟨q0, q1, q2⟩ := HC.out _ hb); clear hb)
  clear q0 q1 q2
  obtain ⟨bx, hbx⟩ : ∃ bx, w1.heap.size = bx := ⟨_, rfl⟩
  have HBX := Lib.hid hbx
  obtain ⟨wd, hwd⟩ : ∃ wd, (w1.alloc (.cells #[.int .i64 2, .int .i64 (f.ln : Int), .slice (some ⟨x.ab, 0, none⟩) (x.A.length + 1) x.ac] 66)).drew = wd := ⟨_, rfl⟩
  have HBW : Hid (Below w1.heap.size w1 wd) := Lib.hid (hwd ▸ ((Below.refl _ _).alloc (Nat.le_refl _) _).drew)
  have HBD : Hid (Below w.heap.size w wd) := Lib.hid (below_up HB1.out HBW.out)
  have HX : Hid (wd.heap[bx]? = some (.cells #[.int .i64 2, .int .i64 (f.ln : Int), .slice (some ⟨x.ab, 0, none⟩) (x.A.length + 1) x.ac] 66 (0, 0))) := Lib.hid (by rw [← hwd, ← hbx]; exact heap_alloc_new w1 _)
  rw [hbx]
  clear hbx
  have HSW := (H0.out _ HBD.out).1
  have z0 := (H0.out _ HBD.out).2
  have hwm : IntKind.i64.wrap (m : Int) = (m : Int) := IntWalk.i64_in _ (by omega)
  have hm0 : (0 : Int) ≤ (m : Int) := by omega
  have hmo : (m : Int) ≤ (oc : Int) := by omega
  refine region_anyT (S := fun w' => w'.cell? ⟨bb, 0, none⟩ = some (.slice (some ⟨oa, 0, none⟩) (m + 1) oc)) 14 (by kernel_rfl) ?_
  rw [hwd]
  refine anyT_take 0 [12, 13, 14] (v := ?_) rfl (by kernel_rfl) (fun _ _ _ h => h) (Or.inl ⟨by kernel_rfl, ?_⟩) HSW ?_
  rotate_left
  · (intro w hSw; go_simp; (try with_reducible rfl))
  (try simp only [Act.put]); (try simp only [List.setIfInBounds_toArray]); (try simp only [List.set_cons_succ]); (try simp only [List.set_cons_zero])
  refine anyT_take 1 [2, 3, 4, 11, 12, 13, 14] (v := ?_) rfl (by kernel_rfl) (fun _ _ _ h => h) (Or.inl ⟨by kernel_rfl, ?_⟩) HSW ?_
  rotate_left
  · (intro w hSw; go_simp; (try with_reducible rfl))
  (try simp only [Act.put]); (try simp only [List.setIfInBounds_toArray]); (try simp only [List.set_cons_succ]); (try simp only [List.set_cons_zero])
  refine anyT_take 2 [3, 4, 11, 12, 13, 14] (v := ?_) rfl (by kernel_rfl) (fun _ _ _ h => h) (Or.inl ⟨by kernel_rfl, ?_⟩) HSW ?_
  rotate_left
  · (intro w hSw; go_simp; (try with_reducible rfl))
  (try simp only [Act.put]); (try simp only [List.setIfInBounds_toArray]); (try simp only [List.set_cons_succ]); (try simp only [List.set_cons_zero])
  refine anyT_take 3 [4, 11, 12, 13, 14] (v := ?_) rfl (by kernel_rfl) (fun _ _ _ h => h) (Or.inl ⟨by kernel_rfl, ?_⟩) HSW ?_
  rotate_left
  · (intro w hSw; go_simp; (try with_reducible rfl))
  (try simp only [Act.put]); (try simp only [List.setIfInBounds_toArray]); (try simp only [List.set_cons_succ]); (try simp only [List.set_cons_zero])
  refine anyT_take 4 [11, 12, 13, 14] (v := ?_) rfl (by kernel_rfl) (fun _ _ _ h => h) (Or.inl ⟨by kernel_rfl, ?_⟩) HSW ?_
  rotate_left
  · (intro w hSw; go_simp; (try with_reducible rfl))
  (try simp only [Act.put]); (try simp only [List.setIfInBounds_toArray]); (try simp only [List.set_cons_succ]); (try simp only [List.set_cons_zero])
  refine anyT_take 5 [6, 7, 8, 9, 10, 11, 12, 13, 14] (v := ?_) rfl (by kernel_rfl) (fun _ _ _ h => h) (Or.inl ⟨by kernel_rfl, ?_⟩) HSW ?_
  rotate_left
  · (intro w hSw; go_simp; (try with_reducible rfl))
  (try simp only [Act.put]); (try simp only [List.setIfInBounds_toArray]); (try simp only [List.set_cons_succ]); (try simp only [List.set_cons_zero])
  refine anyT_take 6 [7, 8, 9, 10, 11, 12, 13, 14] (v := ?_) rfl (by kernel_rfl) (fun _ _ _ h => h) (Or.inl ⟨by kernel_rfl, ?_⟩) HSW ?_
  rotate_left
  · (intro w hSw; go_simp; (try with_reducible rfl))
  (try simp only [Act.put]); (try simp only [List.setIfInBounds_toArray]); (try simp only [List.set_cons_succ]); (try simp only [List.set_cons_zero])
  refine anyT_take 7 [8, 9, 10, 11, 12, 13, 14] (v := ?_) rfl (by kernel_rfl) (fun _ _ _ h => h) (Or.inl ⟨by kernel_rfl, ?_⟩) HSW ?_
  rotate_left
  · (intro w hSw; go_simp; (try with_reducible rfl))
  (try simp only [Act.put]); (try simp only [List.setIfInBounds_toArray]); (try simp only [List.set_cons_succ]); (try simp only [List.set_cons_zero])
  refine anyT_take 8 [9, 10, 11, 12, 13, 14] (v := ?_) rfl (by kernel_rfl) (fun _ _ _ h => h) (Or.inl ⟨by kernel_rfl, ?_⟩) HSW ?_
  rotate_left
  · (intro w hSw; go_simp; (try with_reducible rfl))
  (try simp only [Act.put]); (try simp only [List.setIfInBounds_toArray]); (try simp only [List.set_cons_succ]); (try simp only [List.set_cons_zero])
  refine anyT_take 9 [10, 11, 12, 13, 14] (v := ?_) rfl (by kernel_rfl) (fun _ _ _ h => h) (Or.inl ⟨by kernel_rfl, ?_⟩) HSW ?_
  rotate_left
  · (intro w hSw; go_simp; (try with_reducible rfl))
  (try simp only [Act.put]); (try simp only [List.setIfInBounds_toArray]); (try simp only [List.set_cons_succ]); (try simp only [List.set_cons_zero])
  refine anyT_take 10 [11, 12, 13, 14] (v := ?_) rfl (by kernel_rfl) (fun _ _ _ h => h) (Or.inl ⟨by kernel_rfl, ?_⟩) HSW ?_
  rotate_left
  · (intro w hSw; go_simp; (try with_reducible rfl))
  (try simp only [Act.put]); (try simp only [List.setIfInBounds_toArray]); (try simp only [List.set_cons_succ]); (try simp only [List.set_cons_zero])
  refine anyT_take 11 [12, 13, 14] (v := ?_) rfl (by kernel_rfl) (fun _ _ _ h => h) (Or.inl ⟨by kernel_rfl, ?_⟩) HSW ?_
  rotate_left
  · (intro w hSw; go_simp; (try with_reducible rfl))
  (try simp only [Act.put]); (try simp only [List.setIfInBounds_toArray]); (try simp only [List.set_cons_succ]); (try simp only [List.set_cons_zero])
  refine anyT_take 12 [13, 14] (v := ?_) rfl (by kernel_rfl) (fun _ _ _ h => h) (Or.inl ⟨by kernel_rfl, ?_⟩) HSW ?_
  rotate_left
  · (intro w hSw; go_simp; (try with_reducible rfl))
  (try simp only [Act.put]); (try simp only [List.setIfInBounds_toArray]); (try simp only [List.set_cons_succ]); (try simp only [List.set_cons_zero])
  refine anyT_take 13 [14] (v := ?_) rfl (by kernel_rfl) (fun _ _ _ h => h) (Or.inl ⟨by kernel_rfl, ?_⟩) HSW ?_
  rotate_left
  · (intro w hSw; go_simp; (try with_reducible rfl))
  (try simp only [Act.put]); (try simp only [List.setIfInBounds_toArray]); (try simp only [List.set_cons_succ]); (try simp only [List.set_cons_zero])
  refine anyT_step 14 (by kernel_rfl) rfl (fun K hK => ?_)
  go_simp
  refine hK.out _ _ (fun h => absurd rfl h) ?_
  clear hK K
  (try simp only [Act.put]); (try simp only [List.setIfInBounds_toArray]); (try simp only [List.set_cons_succ]); (try simp only [List.set_cons_zero])
  refine anyT_done (by kernel_rfl) ?_ _
  clear HSW z0 hwm hm0 hmo
  obtain ⟨c', hp, hq⟩ := (HB.out.over HBD.out).pop
  rw [HM.out] at hp hq
  obtain ⟨w3, hw3⟩ : ∃ w3, wd.setCell ⟨bb, 0, none⟩ (.slice (some ⟨oa, 0, none⟩) m oc) = w3 := ⟨_, rfl⟩
  have hne : bx ≠ bb := by
    have h1 := (HB.out.over HB1.out).lt
    have h2 := HBX.out
    omega
  have HX3 : Hid (w3.heap[bx]? = some (.cells #[.int .i64 2, .int .i64 (f.ln : Int), .slice (some ⟨x.ab, 0, none⟩) (x.A.length + 1) x.ac] 66 (0, 0))) := Lib.hid (by rw [← hw3]; exact (heap_setCell_other wd ⟨bb, 0, none⟩ bx _ hne).trans HX.out)
  rw [hw3] at hp hq
  have e35 : 3 * m + 2 = 3 * F1.length + 5 := by have h := HM.out; simp at h; omega
  rw [e35] at hq
  have hA := add_any (it := frItem f) hp (by have := HD.out; omega) hq
  have HA : Hid (Calls Tryd.prog 74 #[.pointer (some ⟨bb, 0, none⟩), .agg #[.int .i64 2, .int .i64 (f.ln : Int), .slice (some ⟨x.ab, 0, none⟩) (x.A.length + 1) x.ac]] w3 (AddPost W bb (d + 1) F1 g (frItem f) oa oc ca cn codes)) := Lib.hid hA
  have e0 : w3.cell? ⟨bx, 0, none⟩ = some (.int .i64 2) := by rw [Lib.cell_of_heap HX3.out]; rfl
  have e1 : w3.cell? ⟨bx, 1, none⟩ = some (.int .i64 (f.ln : Int)) := by rw [Lib.cell_of_heap HX3.out]; rfl
  have e2 : w3.cell? ⟨bx, 2, none⟩ = some (.slice (some ⟨x.ab, 0, none⟩) (x.A.length + 1) x.ac) := by rw [Lib.cell_of_heap HX3.out]; rfl
  rw [hw3]
  clear hw3 hp hq hA hne e35
  go_wp2_with (go_at_call 74; (with_reducible refine HA.out.mono ?_); rintro e w4 ⟨rfl, hh⟩; have HF := Lib.hid hh; clear hh)
  go_end0
  obtain ⟨c2, y2, hh⟩ := HF.out
  exact ⟨rfl, c2, y2, hh⟩
end

end Go.Proofs.YtlnlpahmfpjjdaaDoor

/-
  The builder's close, walked.
-/
namespace Go.Proofs.YtlnlpahmfpjjdaaDoor
open Go.RowKit

section
variable {W : World} {bb : Nat} {c : Col} {d : Nat} {F : List (Fr × Fv)} {F1 : List (Fr × Fv)} {g f : Fr} {y x : Fv} {oa oc ca cn : Nat} {codes : List Int} {w : World}

set_option maxRecDepth 100000 in
set_option maxHeartbeats 6400000 in
theorem close_no (h : Bld W bb c d F oa oc ca cn codes w) {i : Nat} (hi : i < cn) (h0 : F.length = 1) :
    Calls Tryd.prog 73 #[.pointer (some ⟨bb, 0, none⟩), .int .i64 (i : Int)] w (ToldPost W bb d F oa oc ca cn (codes.set i 12)) := by
  have HB := Lib.hid h
  have hcn := h.clen.2
  unfold maxLen at hcn
  have b1 := h.b1
  obtain ⟨z, -, hz, hfz⟩ := h.code hi
  have HW : Hid (Calls Tryd.prog 49 #[.pointer (some ⟨bb, 0, none⟩)] w (BoolIs false w)) := Lib.hid (by
    have := h.within
    rw [h0] at this
    exact this)
  clear h h0
  go_enter Tryd.func73, Tryd.ntmps73
  go_wp2_with (go_at_call 49; (with_reducible refine HW.out.mono ?_); rintro e w2 ⟨rfl, rfl⟩)
  go_end0
  exact ⟨rfl, c, HB.out.tell i 12⟩

set_option maxRecDepth 100000 in
set_option maxHeartbeats 6400000 in
theorem close_yes (h : Bld W bb c d ((F1 ++ [(g, y)]) ++ [(f, x)]) oa oc ca cn codes w) (hd : d ≤ 300000) (i : Int) (hi : f.ln < cn) :
    Calls Tryd.prog 73 #[.pointer (some ⟨bb, 0, none⟩), .int .i64 i] w (EndPost W bb d F1 g f oa oc ca cn (codes.set f.ln 0)) := by
  have HB := Lib.hid h
  have hcn := h.clen.2
  unfold maxLen at hcn
  obtain ⟨m, hm⟩ : ∃ m, (F1 ++ [(g, y)]).length = m := ⟨_, rfl⟩
  have HI : Hid (∀ X : World, Below w.heap.size w X → Calls Tryd.prog 75 #[.pointer (some ⟨bb, 0, none⟩)] X (PtrNew ⟨oa, m * 4, none⟩ X)) := Lib.hid (fun X b => hm ▸ (h.over b).inner)
  have HW : Hid (Calls Tryd.prog 49 #[.pointer (some ⟨bb, 0, none⟩)] w (BoolIs true w)) := Lib.hid (by
    have := h.within
    rw [show decide (1 < ((F1 ++ [(g, y)]) ++ [(f, x)]).length) = true from by simp] at this
    exact this)
  have HSY : Hid (∀ X : World, Below w.heap.size w X → X.cell? ⟨bb, 1, none⟩ = some (.slice (some ⟨ca, 0, none⟩) cn cn) ∧ X.cell? ⟨oa, m * 4 + 1, none⟩ = some (.int .i64 (f.ln : Int))) := Lib.hid (fun X b => by
    have hX := h.over b
    rw [← hm]
    exact ⟨hX.b1, hX.cell (F1 := []) rfl (i := 1) (by omega) rfl⟩)
  have HD := Lib.hid hd
  have hl0 : (0 : Int) ≤ (f.ln : Int) := by omega
  have hl1 : (f.ln : Int) < (cn : Int) := by omega
  clear h hm hd
  go_enter Tryd.func73, Tryd.ntmps73
  go_wp2_with (go_at_call 49; (with_reducible refine HW.out.mono ?_); rintro e w2 ⟨rfl, rfl⟩)
  obtain ⟨wd, hwd⟩ : ∃ wd, w.drew = wd := ⟨_, rfl⟩
  have HBD : Hid (Below w.heap.size w wd) := Lib.hid (hwd ▸ (Below.refl _ _).drew)
  have HSW := HSY.out _ HBD.out
  refine region_anyT (S := fun w' => w'.cell? ⟨bb, 1, none⟩ = some (.slice (some ⟨ca, 0, none⟩) cn cn) ∧ w'.cell? ⟨oa, m * 4 + 1, none⟩ = some (.int .i64 (f.ln : Int))) 11 (by kernel_rfl) ?_
  rw [hwd]
  refine anyT_take 0 [1, 2, 3, 10, 11] (v := ?_) rfl (by kernel_rfl) (fun _ _ _ h => h) (Or.inl ⟨by kernel_rfl, ?_⟩) HSW ?_
  rotate_left
  · (intro w hSw; obtain ⟨hs0, hs1⟩ := hSw; go_simp; (try with_reducible rfl))
  (try simp only [Act.put]); (try simp only [List.setIfInBounds_toArray]); (try simp only [List.set_cons_succ]); (try simp only [List.set_cons_zero])
  refine anyT_take 1 [2, 3, 10, 11] (v := ?_) rfl (by kernel_rfl) (fun _ _ _ h => h) (Or.inl ⟨by kernel_rfl, ?_⟩) HSW ?_
  rotate_left
  · (intro w hSw; obtain ⟨hs0, hs1⟩ := hSw; go_simp; (try with_reducible rfl))
  (try simp only [Act.put]); (try simp only [List.setIfInBounds_toArray]); (try simp only [List.set_cons_succ]); (try simp only [List.set_cons_zero])
  refine anyT_take 2 [3, 10, 11] (v := ?_) rfl (by kernel_rfl) (fun _ _ _ h => h) (Or.inl ⟨by kernel_rfl, ?_⟩) HSW ?_
  rotate_left
  · (intro w hSw; obtain ⟨hs0, hs1⟩ := hSw; go_simp; (try with_reducible rfl))
  (try simp only [Act.put]); (try simp only [List.setIfInBounds_toArray]); (try simp only [List.set_cons_succ]); (try simp only [List.set_cons_zero])
  refine anyT_take 3 [10, 11] (v := ?_) rfl (by kernel_rfl) (fun _ _ _ h => h) (Or.inl ⟨by kernel_rfl, ?_⟩) HSW ?_
  rotate_left
  · (intro w hSw; obtain ⟨hs0, hs1⟩ := hSw; go_simp; (try with_reducible rfl))
  (try simp only [Act.put]); (try simp only [List.setIfInBounds_toArray]); (try simp only [List.set_cons_succ]); (try simp only [List.set_cons_zero])
  refine anyT_take 4 [5, 6, 7, 8, 9, 10, 11] (v := ?_) rfl (by kernel_rfl) (fun _ _ _ h => h) (Or.inl ⟨by kernel_rfl, ?_⟩) HSW ?_
  rotate_left
  · (intro w hSw; obtain ⟨hs0, hs1⟩ := hSw; go_simp; (try with_reducible rfl))
  (try simp only [Act.put]); (try simp only [List.setIfInBounds_toArray]); (try simp only [List.set_cons_succ]); (try simp only [List.set_cons_zero])
  refine anyT_step 5 (by kernel_rfl) rfl (fun K hK => ?_)
  go_simp
  go_at_call 75
  (with_reducible refine (HI.out _ HBD.out).mono ?_)
  rintro e w5 ⟨rfl, hb⟩
  have HB5 : Hid (Below w.heap.size w w5) := Lib.hid (below_up HBD.out hb)
  have HSW := HSY.out _ HB5.out
  obtain ⟨z, -, hz, hfz⟩ := (HB.out.over HB5.out).code hi
  clear hb
  try go_wp2_with fail
  refine hK.out _ _ (fun _ => HSW) ?_
  clear hK K
  (try simp only [Act.put]); (try simp only [List.setIfInBounds_toArray]); (try simp only [List.set_cons_succ]); (try simp only [List.set_cons_zero])
  refine anyT_take 6 [7, 8, 9, 10, 11] (v := ?_) rfl (by kernel_rfl) (fun _ _ _ h => h) (Or.inl ⟨by kernel_rfl, ?_⟩) HSW ?_
  rotate_left
  · (intro w hSw; obtain ⟨hs0, hs1⟩ := hSw; go_simp; (try with_reducible rfl))
  (try simp only [Act.put]); (try simp only [List.setIfInBounds_toArray]); (try simp only [List.set_cons_succ]); (try simp only [List.set_cons_zero])
  refine anyT_take 7 [8, 9, 10, 11] (v := ?_) rfl (by kernel_rfl) (fun _ _ _ h => h) (Or.inl ⟨by kernel_rfl, ?_⟩) HSW ?_
  rotate_left
  · (intro w hSw; obtain ⟨hs0, hs1⟩ := hSw; go_simp; (try with_reducible rfl))
  (try simp only [Act.put]); (try simp only [List.setIfInBounds_toArray]); (try simp only [List.set_cons_succ]); (try simp only [List.set_cons_zero])
  refine anyT_take 8 [9, 10, 11] (v := ?_) rfl (by kernel_rfl) (fun _ _ _ h => h) (Or.inl ⟨by kernel_rfl, ?_⟩) HSW ?_
  rotate_left
  · (intro w hSw; obtain ⟨hs0, hs1⟩ := hSw; go_simp; (try with_reducible rfl))
  (try simp only [Act.put]); (try simp only [List.setIfInBounds_toArray]); (try simp only [List.set_cons_succ]); (try simp only [List.set_cons_zero])
  refine anyT_take 9 [10, 11] (v := ?_) rfl (by kernel_rfl) (fun _ _ _ h => h) (Or.inl ⟨by kernel_rfl, ?_⟩) HSW ?_
  rotate_left
  · (intro w hSw; obtain ⟨hs0, hs1⟩ := hSw; go_simp; (try with_reducible rfl))
  (try simp only [Act.put]); (try simp only [List.setIfInBounds_toArray]); (try simp only [List.set_cons_succ]); (try simp only [List.set_cons_zero])
  refine anyT_take 10 [11] (v := ?_) rfl (by kernel_rfl) (fun _ _ _ h => h) (Or.inl ⟨by kernel_rfl, ?_⟩) HSW ?_
  rotate_left
  · (intro w hSw; obtain ⟨hs0, hs1⟩ := hSw; go_simp; (try with_reducible rfl))
  (try simp only [Act.put]); (try simp only [List.setIfInBounds_toArray]); (try simp only [List.set_cons_succ]); (try simp only [List.set_cons_zero])
  refine anyT_step 11 (by kernel_rfl) rfl (fun K hK => ?_)
  go_simp
  refine hK.out _ _ (fun h => absurd rfl h) ?_
  clear hK K
  (try simp only [Act.put]); (try simp only [List.setIfInBounds_toArray]); (try simp only [List.set_cons_succ]); (try simp only [List.set_cons_zero])
  refine anyT_done (by kernel_rfl) ?_ _
  clear HSW
  have HE := Lib.hid (end_any ((HB.out.over HB5.out).tell f.ln 0) HD.out)
  go_wp2_with (go_at_call 50; (with_reducible refine HE.out.mono ?_); rintro e w6 ⟨rfl, hh⟩; have HF := Lib.hid hh; clear hh)
  go_end0
  exact ⟨rfl, HF.out⟩
end

end Go.Proofs.YtlnlpahmfpjjdaaDoor
