/-
  Texts of the proof, put together: GcBeg, GcNext, GcAdd.
-/
import Derived.Test.YtlnlpahmfpjjdaaDoorG22
import Derived.Test.YtlnlpahmfpjjdaaDoorG07

/-
  The builder's begin, walked.
-/
namespace Go.Proofs.YtlnlpahmfpjjdaaDoor
open Go.RowKit

theorem Bld.code {W : World} {bb : Nat} {c : Col} {d : Nat} {F : List (Fr × Fv)} {oa oc ca cn : Nat} {codes : List Int} {w : World} (h : Bld W bb c d F oa oc ca cn codes w) {i : Nat} (hi : i < cn) : ∃ z : Int, codes[i]? = some z ∧ w.cell? ⟨ca, i, none⟩ = some (.int .i64 z) ∧ w.frozen? ⟨ca, i, none⟩ = false := by
  have hl := h.clen.1
  refine ⟨codes[i]'(by omega), List.getElem?_eq_getElem (by omega), ?_, own_freeX h.cod.1 _⟩
  have := h.cod.1.cellAt i (by omega)
  rw [this]
  unfold ivals
  rw [List.getElem?_map, List.getElem?_eq_getElem (by omega)]
  rfl

def BegPost (W : World) (bb d : Nat) (F : List (Fr × Fv)) (i ca cn : Nat) (codes : List Int) (e : Ending) (w' : World) : Prop :=
  e = .returned (.tuple #[]) ∧ ∃ c' oa' oc' x', Bld W bb c' (d + 1) (F ++ [(newFr i, x')]) oa' oc' ca cn (codes.set i 13) w'

set_option maxRecDepth 100000 in
set_option maxHeartbeats 6400000 in
theorem begin_any {W : World} {bb : Nat} {c : Col} {d : Nat} {F : List (Fr × Fv)} {oa oc ca cn : Nat} {codes : List Int} {w : World} (h : Bld W bb c d F oa oc ca cn codes w) (hd : d ≤ 400000) {i : Nat} (hi : i < cn) :
    Calls Tryd.prog 71 #[.pointer (some ⟨bb, 0, none⟩), .int .i64 (i : Int)] w (BegPost W bb d F i ca cn codes) := by
  have HB := Lib.hid h
  have b1 := h.b1
  obtain ⟨z, -, hz, hfz⟩ := h.code hi
  have hcn := h.clen.2
  unfold maxLen at hcn
  have HD := Lib.hid hd
  obtain ⟨n, hn⟩ : ∃ n, F.length = n := ⟨_, rfl⟩
  have HN := Lib.hid hn
  clear h hd
  have HT := Lib.hid (HB.out.tell i 13)
  have b0 := HT.out.b0
  rw [hn] at b0
  have hsz : (w.setCell ⟨ca, i, none⟩ (.int .i64 13)).heap.size = w.heap.size := by simp [World.setCell]
  have HSZ := Lib.hid hsz
  have HE : Hid (∃ v' w', (Builtin.append_ #[118, 118] 118 #[.slice (some ⟨oa, 0, none⟩) n oc, .slice (some ⟨w.heap.size + 1, 0, none⟩) 1 1]).run Tryd.prog (((w.setCell ⟨ca, i, none⟩ (.int .i64 13)).alloc (.cells #[.int .i64 (i : Int), .slice none 0 0] 68)).alloc (.cells #[.int .i64 2, .int .i64 (i : Int), .slice (some ⟨w.heap.size, 0, none⟩) 1 1, .bool false] 117)) = .ok v' w' ∧ ∃ b n cap, v' = .slice (some ⟨b, 0, none⟩) n cap ∧ Begun W bb d F i w.heap.size ca cn (codes.set i 13) b n cap w') := Lib.hid (by
    have hA := heap_alloc_new (w.setCell ⟨ca, i, none⟩ (.int .i64 13)) (.cells #[.int .i64 (i : Int), .slice none 0 0] 68)
    have hT := heap_alloc_new ((w.setCell ⟨ca, i, none⟩ (.int .i64 13)).alloc (.cells #[.int .i64 (i : Int), .slice none 0 0] 68)) (.cells #[.int .i64 2, .int .i64 (i : Int), .slice (some ⟨w.heap.size, 0, none⟩) 1 1, .bool false] 117)
    rw [World.size_alloc] at hT
    rw [HSZ.out] at hA hT
    have h1 := HT.out.over ((Below.refl _ _).alloc (Nat.le_refl _) (.cells #[.int .i64 (i : Int), .slice none 0 0] 68))
    have h2 := h1.over ((Below.refl _ _).alloc (Nat.le_refl _) (.cells #[.int .i64 2, .int .i64 (i : Int), .slice (some ⟨w.heap.size, 0, none⟩) 1 1, .bool false] 117))
    have h3 := HT.out.recol (c1 := fun g => if g = w.heap.size then 3 * F.length + 3 else c g) (fun g hg => if_neg (by rw [HSZ.out] at hg; omega))
    have h4 := (h3.over ((Below.refl _ _).alloc (Nat.le_refl _) (.cells #[.int .i64 (i : Int), .slice none 0 0] 68))).over ((Below.refl _ _).alloc (Nat.le_refl _) (.cells #[.int .i64 2, .int .i64 (i : Int), .slice (some ⟨w.heap.size, 0, none⟩) 1 1, .bool false] 117))
    rw [← HN.out]
    refine as_value (h4.begin HD.out i (g := w.heap.size) ?_ (if_pos rfl) HB.out.bel.size (src_row hT rfl rfl))
    exact (heap_alloc_old _ _ (by rw [World.size_alloc, HSZ.out]; omega)).trans hA)
  clear hsz hn
  go_enter Tryd.func71, Tryd.ntmps71
  go_wp2_with (at_builtin; refine wpList_append_ex rfl (.tmp 14) (.tmp 21) 118 rfl _ HE.out ?_; rintro v' w3 ⟨b4, n4, c4, rfl, hp⟩; obtain ⟨v8, hv8⟩ := Option.ne_none_iff_exists'.1 hp.1; have hf8 := hp.2.1; have HP := Lib.hid hp.2.2; clear hp)
  go_end0
  obtain ⟨c', hh⟩ := HP.out
  exact ⟨rfl, c', _, _, _, hh⟩

end Go.Proofs.YtlnlpahmfpjjdaaDoor

/-
  The builder's next, walked.
-/
namespace Go.Proofs.YtlnlpahmfpjjdaaDoor
open Go.RowKit

section
variable {W : World} {bb : Nat} {c : Col} {d : Nat} {F0 : List (Fr × Fv)} {f : Fr} {x : Fv} {oa oc ca cn : Nat} {codes : List Int} {w : World}

theorem Bld.inner (h : Bld W bb c d (F0 ++ [(f, x)]) oa oc ca cn codes w) : Calls Tryd.prog 75 #[.pointer (some ⟨bb, 0, none⟩)] w (PtrNew ⟨oa, F0.length * 4, none⟩ w) := by
  have h0 := h.b0
  have hcp := h.cap
  rw [show (F0 ++ [(f, x)]).length = F0.length + 1 from by simp] at h0 hcp
  exact inner_any h0 hcp.1 hcp.2
theorem Bld.within {F : List (Fr × Fv)} (h : Bld W bb c d F oa oc ca cn codes w) : Calls Tryd.prog 49 #[.pointer (some ⟨bb, 0, none⟩)] w (BoolIs (decide (1 < F.length)) w) := within_any h.b0

def ToldPost (W : World) (bb d : Nat) (F : List (Fr × Fv)) (oa oc ca cn : Nat) (codes : List Int) (e : Ending) (w' : World) : Prop := e = .returned (.tuple #[]) ∧ ∃ c', Bld W bb c' d F oa oc ca cn codes w'

set_option maxRecDepth 100000 in
set_option maxHeartbeats 6400000 in
theorem next_no (h : Bld W bb c d (F0 ++ [(f, x)]) oa oc ca cn codes w) {i : Nat} (hi : i < cn) (last : Bool) (hno : F0 = [] ∨ f.en = true) :
    Calls Tryd.prog 72 #[.pointer (some ⟨bb, 0, none⟩), .int .i64 (i : Int), .bool last] w (ToldPost W bb d (F0 ++ [(f, x)]) oa oc ca cn (codes.set i 12)) := by
  have HI := Lib.hid h.inner
  have HB := Lib.hid h
  have hcn := h.clen.2
  unfold maxLen at hcn
  by_cases h0 : F0 = []
  · have HW : Hid (∀ X : World, Below w.heap.size w X → Calls Tryd.prog 49 #[.pointer (some ⟨bb, 0, none⟩)] X (BoolIs false X)) := Lib.hid (fun X b => by
      have := (HB.out.over b).within
      rw [h0] at this
      exact this)
    clear h hno h0
    go_enter Tryd.func72, Tryd.ntmps72
    go_wp2_with (first
      | (go_at_call 75; (with_reducible refine HI.out.mono ?_); rintro e w1 ⟨rfl, hb⟩; have HB1 := Lib.hid hb; have b1 := (HB.out.over hb).b1; (obtain ⟨z, -, hz, hfz⟩ := (HB.out.over hb).code hi); clear hb)
      | (go_at_call 49; (with_reducible refine (HW.out _ HB1.out).mono ?_); rintro e w2 ⟨rfl, rfl⟩))
    go_end0
    exact ⟨rfl, c, (HB.out.over HB1.out).tell i 12⟩
  · have hen : f.en = true := hno.resolve_left h0
    have HW : Hid (∀ X : World, Below w.heap.size w X → Calls Tryd.prog 49 #[.pointer (some ⟨bb, 0, none⟩)] X (BoolIs true X)) := Lib.hid (fun X b => by
      have := (HB.out.over b).within
      rw [show decide (1 < (F0 ++ [(f, x)]).length) = true from by have := List.length_pos_iff.2 h0; simp; omega] at this
      exact this)
    have HC : Hid (∀ X : World, Below w.heap.size w X → X.cell? ⟨oa, F0.length * 4 + 3, none⟩ = some (.bool true)) := Lib.hid (fun X b => hen ▸ (HB.out.over b).cell (F1 := []) rfl (i := 3) (by omega) rfl)
    clear h hno h0 hen
    go_enter Tryd.func72, Tryd.ntmps72
    go_wp2_with (first
      | (go_at_call 75; (with_reducible refine HI.out.mono ?_); rintro e w1 ⟨rfl, hb⟩; have HB1 := Lib.hid hb; have b1 := (HB.out.over hb).b1; have b3 := HC.out _ hb; (obtain ⟨z, -, hz, hfz⟩ := (HB.out.over hb).code hi); clear hb)
      | (go_at_call 49; (with_reducible refine (HW.out _ HB1.out).mono ?_); rintro e w2 ⟨rfl, rfl⟩))
    go_end0
    exact ⟨rfl, c, (HB.out.over HB1.out).tell i 12⟩

def GNextP (W : World) (bb d : Nat) (F0 : List (Fr × Fv)) (f : Fr) (i : Nat) (last : Bool) (oa oc ca cn : Nat) (codes : List Int) (e : Ending) (w' : World) : Prop :=
  e = .returned (.tuple #[]) ∧ ∃ c' x', Bld W bb c' (d + 1) (F0 ++ [({ f with dn := f.dn ++ [((f.la : Int), f.cu)], la := i, cu := [], en := last }, x')]) oa oc ca cn codes w'

set_option maxRecDepth 100000 in
set_option maxHeartbeats 6400000 in
theorem next_yes (h : Bld W bb c d (F0 ++ [(f, x)]) oa oc ca cn codes w) (hd : d ≤ 400000) {i : Nat} (last : Bool) (h0 : F0 ≠ []) (hen : f.en = false) :
    Calls Tryd.prog 72 #[.pointer (some ⟨bb, 0, none⟩), .int .i64 (i : Int), .bool last] w (GNextP W bb d F0 f i last oa oc ca cn codes) := by
  have HI := Lib.hid h.inner
  have HB := Lib.hid h
  have HD := Lib.hid hd
  have HW : Hid (∀ X : World, Below w.heap.size w X → Calls Tryd.prog 49 #[.pointer (some ⟨bb, 0, none⟩)] X (BoolIs true X)) := Lib.hid (fun X b => by
    have := (HB.out.over b).within
    rw [show decide (1 < (F0 ++ [(f, x)]).length) = true from by have := List.length_pos_iff.2 h0; simp; omega] at this
    exact this)
  have HC : Hid (∀ X : World, Below w.heap.size w X → X.cell? ⟨oa, F0.length * 4 + 3, none⟩ = some (.bool false) ∧ X.frozen? ⟨oa, F0.length * 4 + 3, none⟩ = false) := Lib.hid (fun X b => ⟨hen ▸ (HB.out.over b).cell (F1 := []) rfl (i := 3) (by omega) rfl, own_freeX (HB.out.over b).opn.1 _⟩)
  have HA : Hid (∀ X : World, Below w.heap.size w X → (X.setCell ⟨oa, F0.length * 4 + 3, none⟩ (.bool last)).cell? ⟨oa, F0.length * 4 + 2, none⟩ = some (.slice (some ⟨x.ab, 0, none⟩) (x.A.length + 1) x.ac)) := Lib.hid (fun X b => ((HB.out.over b).last last).cell (F1 := []) rfl (i := 2) (by omega) rfl)
  have HP : Hid (∀ X : World, Below w.heap.size w X → ∃ v' w', (Builtin.append_ #[64, 64] 64 #[.slice (some ⟨x.ab, 0, none⟩) (x.A.length + 1) x.ac, .slice (some ⟨X.heap.size, 0, none⟩) 1 1]).run Tryd.prog ((X.setCell ⟨oa, F0.length * 4 + 3, none⟩ (.bool last)).alloc (.cells #[.int .i64 (i : Int), .slice none 0 0] 68)) = .ok v' w' ∧ ∃ b n cap, v' = .slice (some ⟨b, 0, none⟩) n cap ∧ Armed W bb d F0 { f with en := last } i oa oc ca cn codes b n cap w') := Lib.hid (fun X b => by
    have h1 := (HB.out.over b).last last
    have hA := heap_alloc_new (X.setCell ⟨oa, F0.length * 4 + 3, none⟩ (.bool last)) (.cells #[.int .i64 (i : Int), .slice none 0 0] 68)
    have hsz : (X.setCell ⟨oa, F0.length * 4 + 3, none⟩ (.bool last)).heap.size = X.heap.size := by simp [World.setCell]
    rw [hsz] at hA
    exact as_value ((h1.over ((Below.refl _ _).alloc (Nat.le_refl _) (.cells #[.int .i64 (i : Int), .slice none 0 0] 68))).arm HD.out i (src_row hA rfl rfl)))
  clear h h0 hen hd
  go_enter Tryd.func72, Tryd.ntmps72
  go_wp2_with (first
    | (go_at_call 75; (with_reducible refine HI.out.mono ?_); rintro e w1 ⟨rfl, hb⟩; have HB1 := Lib.hid hb; (obtain ⟨b3, f3⟩ := HC.out _ hb); have b4 := HA.out _ hb; clear hb)
    | (go_at_call 49; (with_reducible refine (HW.out _ HB1.out).mono ?_); rintro e w2 ⟨rfl, rfl⟩)
    | (at_builtin; refine wpList_append_ex rfl (.tmp 33) (.tmp 36) 64 rfl _ (HP.out _ HB1.out) ?_; rintro v' w3 ⟨b5, n5, c5, rfl, hp⟩; obtain ⟨v8, hv8⟩ := Option.ne_none_iff_exists'.1 hp.1; have hf8 := hp.2.1; have HQ := Lib.hid hp.2.2; clear hp))
  go_end0
  obtain ⟨c', x', hh⟩ := HQ.out
  exact ⟨rfl, c', x', hh⟩
end

end Go.Proofs.YtlnlpahmfpjjdaaDoor

/-
  The builder's add: an item more in the innermost arm.
-/
namespace Go.Proofs.YtlnlpahmfpjjdaaDoor
open Go.RowKit

/-- What add leaves. -/
def AddPost (W : World) (bb : Nat) (d : Nat) (F0 : List (Fr × Fv)) (f : Fr) (it : Itm) (oa oc ca cn : Nat) (codes : List Int) (e : Ending) (w' : World) : Prop :=
  e = .returned (.tuple #[]) ∧ ∃ c' x', Bld W bb c' (d + 1) (F0 ++ [({ f with cu := f.cu ++ [it] }, x')]) oa oc ca cn codes w'

set_option maxRecDepth 100000 in
set_option maxHeartbeats 6400000 in
theorem add_any {W : World} {bb : Nat} {c : Col} {d : Nat} {F0 : List (Fr × Fv)} {f : Fr} {x : Fv} {oa oc ca cn : Nat} {codes : List Int} {w : World} (h : Bld W bb c d (F0 ++ [(f, x)]) oa oc ca cn codes w) (hd : d ≤ 400000) {it : Itm} {aa : Option Addr} {an ac : Nat}
    (hq : ArmsP (fun g => c g = 3 * F0.length + 5) (ItsP (fun g => c g = 3 * F0.length + 5) d) it.arms (.slice aa an ac) w) :
    Calls Tryd.prog 74 #[.pointer (some ⟨bb, 0, none⟩), .agg #[.int .i64 it.k, .int .i64 it.line, .slice aa an ac]] w (AddPost W bb d F0 f it oa oc ca cn codes) := by
  have h := h.fresh
  have hq := hq.turn (fun l v h => itsP_turn ((Chg.fresh 0 c w).turn (by omega)) d l v h) ((Chg.fresh 0 c w).turn (by omega))
  have hnew : freshC c w w.heap.size = 0 := freshC_new c (Nat.le_refl _)
  generalize freshC c w = c at h hq hnew
  have HB := Lib.hid h
  have HQ := Lib.hid hq
  have HL := Lib.hid h.lt
  have hfr := h.fr (F1 := []) rfl
  have HF := Lib.hid hfr
  have HFP : Hid (x.P.length ≤ 400000) := Lib.hid (by have := hfr.fp; omega)
  obtain ⟨i1, hi1, hz10, hz11, hz12⟩ := info_parts Tryd.infoItmG
  have HI1 : Hid (Tryd.prog.info? 66 = some i1 ∧ i1.zero = some (.agg #[.int .i64 0, .int .i64 0, .slice none 0 0]) ∧ i1.size = 3 ∧ i1.bytes = 40) := Lib.hid ⟨hi1, hz10, hz11, hz12⟩
  clear h hq hd hfr hi1 hz10 hz11 hz12
  have ba : Below w.heap.size w (w.alloc (.cells #[.int .i64 it.k, .int .i64 it.line, .slice aa an ac] 66)) := (Below.refl _ _).alloc (Nat.le_refl _) _
  have HX1 : Hid ((w.alloc (.cells #[.int .i64 it.k, .int .i64 it.line, .slice aa an ac] 66)).heap[w.heap.size]? = some (.cells #[.int .i64 it.k, .int .i64 it.line, .slice aa an ac] 66 (0, 0))) := Lib.hid (heap_alloc_new w _)
  have HBA := Lib.hid ba
  obtain ⟨bx, hbx⟩ : ∃ bx, w.heap.size = bx := ⟨_, rfl⟩
  have HBX := Lib.hid hbx
  have HNEW : Hid (c bx = 0) := Lib.hid (hbx ▸ hnew)
  clear hnew
  have HIT : Hid (∀ X : World, Below (w.alloc (.cells #[.int .i64 it.k, .int .i64 it.line, .slice aa an ac] 66)).heap.size (w.alloc (.cells #[.int .i64 it.k, .int .i64 it.line, .slice aa an ac] 66)) X → Calls Tryd.prog 51 #[.pointer (some ⟨bb, 0, none⟩)] X (PtrNew ⟨x.ab, x.A.length * 2 + 1, none⟩ X)) := Lib.hid (fun X b => by
    have hX := (HB.out.over HBA.out).over b
    have h0 := hX.b0
    have hcp := hX.cap
    rw [show (F0 ++ [(f, x)]).length = F0.length + 1 from by simp] at h0 hcp
    have hcl : X.cell? ⟨oa, F0.length * 4 + 2, none⟩ = some (.slice (some ⟨x.ab, 0, none⟩) (x.A.length + 1) x.ac) := hX.cell (F1 := []) rfl (i := 2) (by omega) rfl
    have hac := (hX.fr (F1 := []) rfl).acap
    exact its_any h0 hcp.1 hcp.2 hcl hac.1 hac.2 hX.olt)
  clear ba
  go_enter Tryd.func74, Tryd.ntmps74
  go_wp2_with (go_at_call 51; (with_reducible refine (HIT.out _ (Below.refl _ _)).mono ?_); rintro e w1 ⟨rfl, hb⟩; have HB1 := Lib.hid hb; clear hb)
  obtain ⟨wd, hwd⟩ : ∃ wd, w1.drew = wd := ⟨_, rfl⟩
  have HBD : Hid (Below (w.alloc (.cells #[.int .i64 it.k, .int .i64 it.line, .slice aa an ac] 66)).heap.size (w.alloc (.cells #[.int .i64 it.k, .int .i64 it.line, .slice aa an ac] 66)) wd) := Lib.hid (hwd ▸ HB1.out.drew)
  have HSY : Hid (∀ Y : World, Below (w.alloc (.cells #[.int .i64 it.k, .int .i64 it.line, .slice aa an ac] 66)).heap.size (w.alloc (.cells #[.int .i64 it.k, .int .i64 it.line, .slice aa an ac] 66)) Y → Y.cell? ⟨x.ab, x.A.length * 2 + 1, none⟩ = some (.slice x.ia x.im x.ic) ∧ Y.cell? ⟨bx, 0, none⟩ = some (.int .i64 it.k) ∧ Y.cell? ⟨bx, 1, none⟩ = some (.int .i64 it.line) ∧ Y.cell? ⟨bx, 2, none⟩ = some (.slice aa an ac)) := Lib.hid (fun Y b => by
    have hY := ((HB.out.over HBA.out).over b).fr (F1 := []) rfl
    have hX : Y.heap[bx]? = some (.cells #[.int .i64 it.k, .int .i64 it.line, .slice aa an ac] 66 (0, 0)) := by
      have := HX1.out
      rw [HBX.out] at this
      exact (b.block bx (by rw [← HBX.out]; simp)).trans this
    exact ⟨hY.slot.1, by rw [Lib.cell_of_heap hX]; rfl, by rw [Lib.cell_of_heap hX]; rfl, by rw [Lib.cell_of_heap hX]; rfl⟩)
  have HSW := HSY.out _ HBD.out
  clear hbx
  refine region_anyT (S := fun w' => w'.cell? ⟨x.ab, x.A.length * 2 + 1, none⟩ = some (.slice x.ia x.im x.ic) ∧ w'.cell? ⟨bx, 0, none⟩ = some (.int .i64 it.k) ∧ w'.cell? ⟨bx, 1, none⟩ = some (.int .i64 it.line) ∧ w'.cell? ⟨bx, 2, none⟩ = some (.slice aa an ac)) 8 (by kernel_rfl) ?_
  rw [hwd]
  refine anyT_take 0 [7, 8] (v := ?_) rfl (by kernel_rfl) (fun _ _ _ h => h) (Or.inl ⟨by kernel_rfl, ?_⟩) HSW ?_
  rotate_left
  · (intro w hSw; obtain ⟨hs0, hs1, hs2, hs3⟩ := hSw; go_simp; (try with_reducible rfl))
  (try simp only [Act.put]); (try simp only [List.setIfInBounds_toArray]); (try simp only [List.set_cons_succ]); (try simp only [List.set_cons_zero])
  refine anyT_take 1 [2, 3, 6, 7, 8] (v := ?_) rfl (by kernel_rfl) (fun _ _ _ h => h) (Or.inl ⟨by kernel_rfl, ?_⟩) HSW ?_
  rotate_left
  · (intro w hSw; obtain ⟨hs0, hs1, hs2, hs3⟩ := hSw; go_simp; (try with_reducible rfl))
  (try simp only [Act.put]); (try simp only [List.setIfInBounds_toArray]); (try simp only [List.set_cons_succ]); (try simp only [List.set_cons_zero])
  refine anyT_take 2 [3, 6, 7, 8] (v := ?_) rfl (by kernel_rfl) (fun _ _ _ h => h) (Or.inl ⟨by kernel_rfl, ?_⟩) HSW ?_
  rotate_left
  · (intro w hSw; obtain ⟨hs0, hs1, hs2, hs3⟩ := hSw; go_simp; (try with_reducible rfl))
  (try simp only [Act.put]); (try simp only [List.setIfInBounds_toArray]); (try simp only [List.set_cons_succ]); (try simp only [List.set_cons_zero])
  refine anyT_take 3 [6, 7, 8] (v := ?_) rfl (by kernel_rfl) (fun _ _ _ h => h) (Or.inl ⟨by kernel_rfl, ?_⟩) HSW ?_
  rotate_left
  · (intro w hSw; obtain ⟨hs0, hs1, hs2, hs3⟩ := hSw; go_simp; (try with_reducible rfl))
  (try simp only [Act.put]); (try simp only [List.setIfInBounds_toArray]); (try simp only [List.set_cons_succ]); (try simp only [List.set_cons_zero])
  refine anyT_take 4 [5, 6, 7, 8] (v := ?_) rfl (by kernel_rfl) (fun _ _ _ h => h) (Or.inl ⟨by kernel_rfl, ?_⟩) HSW ?_
  rotate_left
  · (intro w hSw; obtain ⟨hs0, hs1, hs2, hs3⟩ := hSw; go_simp; (try with_reducible rfl))
  (try simp only [Act.put]); (try simp only [List.setIfInBounds_toArray]); (try simp only [List.set_cons_succ]); (try simp only [List.set_cons_zero])
  refine anyT_step 5 (by kernel_rfl) rfl (fun K hK => ?_)
  go_simp
  have hb6 : Below wd.heap.size wd (wd.alloc (.cells #[.int .i64 it.k, .int .i64 it.line, .slice aa an ac] 66)) := (Below.refl _ _).alloc (Nat.le_refl _) _
  have HB6 := Lib.hid (below_up HBD.out hb6)
  have HBL6 := Lib.hid (((HB.out.over HBA.out).over HBD.out).over hb6)
  have HQ6 := Lib.hid (HQ.out.turn (fun l v h => itsP_turn ((Chg.below 0 c (below_up HBA.out (below_up HBD.out hb6))).turn (by omega)) d l v h) ((Chg.below 0 c (below_up HBA.out (below_up HBD.out hb6))).turn (by omega)))
  have HSRC : Hid (Src (wd.alloc (.cells #[.int .i64 it.k, .int .i64 it.line, .slice aa an ac] 66)) (.slice (some ⟨wd.heap.size, 0, none⟩) 1 1) 1 3 (icell (it, .slice aa an ac))) := Lib.hid (src_row (heap_alloc_new _ _) rfl rfl)
  have HSW := HSY.out _ HB6.out
  have HSY7 : Hid (∀ (c' : Col) (Y : World), Chg (3 * F0.length + 3 + 1) c c' (wd.alloc (.cells #[.int .i64 it.k, .int .i64 it.line, .slice aa an ac] 66)) Y → Y.cell? ⟨x.ab, x.A.length * 2 + 1, none⟩ = some (.slice x.ia x.im x.ic) ∧ Y.cell? ⟨bx, 0, none⟩ = some (.int .i64 it.k) ∧ Y.cell? ⟨bx, 1, none⟩ = some (.int .i64 it.line) ∧ Y.cell? ⟨bx, 2, none⟩ = some (.slice aa an ac)) := Lib.hid (fun c' Y s => by
    obtain ⟨q0, q1, q2, q3⟩ := HSY.out _ HB6.out
    have hY := (HBL6.out.fr (F1 := []) rfl)
    have hn : ∀ o u, (wd.alloc (.cells #[.int .i64 it.k, .int .i64 it.line, .slice aa an ac] 66)).cell? ⟨bx, o, none⟩ = some u → Y.cell? ⟨bx, o, none⟩ = some u := fun o u hu => (World.cell?_of_block (s.block bx (block_lt_of_cell hu) (by rw [HNEW.out]; omega))).trans hu
    exact ⟨(hY.arm.chg s (by omega) (by omega) |>.row.1.cellAt (x.A.length * 2 + 1) (by omega)).trans (by rw [List.getElem?_append_right (by rw [acells_len]; omega), acells_len, show x.A.length * 2 + 1 - x.A.length * 2 = 1 from by omega]; rfl), hn _ _ q1, hn _ _ q2, hn _ _ q3⟩)
  clear hb6
  refine hK.out _ _ (fun _ => HSW) ?_
  clear hK K
  (try simp only [Act.put]); (try simp only [List.setIfInBounds_toArray]); (try simp only [List.set_cons_succ]); (try simp only [List.set_cons_zero])
  refine anyT_step 6 (by kernel_rfl) rfl (fun K hK => ?_)
  refine step_ex rfl (.tmp 10) (.tmp 12) 42 rfl _ _ _ rfl rfl (LevAt.push Tryd.underlying42 HI1.out.1 HI1.out.2.1 HI1.out.2.2.1 HI1.out.2.2.2 (HBL6.out.fr (F1 := []) rfl).lev HQ6.out HSRC.out (Nat.le_trans HFP.out (by omega)) HBL6.out.bel.size) ?_
  intro b4 n4 cap4 w7 hp
  obtain ⟨c7, hl7, hs7, hb7⟩ := hp
  have HL7 := Lib.hid hl7
  have HS7 := Lib.hid hs7
  have HB7 := Lib.hid hb7
  have HSW := HSY7.out _ _ hs7
  have k7 : w7.cell? ⟨x.ab, x.A.length * 2 + 1, none⟩ = some (.slice x.ia x.im x.ic) := HSW.1
  have z7 : w7.frozen? ⟨x.ab, x.A.length * 2 + 1, none⟩ = false := own_freeX ((HBL6.out.fr (F1 := []) rfl).arm.chg hs7 (by omega) (by omega)).row.1 _
  clear hl7 hs7 hb7
  refine hK.out _ _ (fun _ => HSW) ?_
  clear hK K
  (try simp only [Act.put]); (try simp only [List.setIfInBounds_toArray]); (try simp only [List.set_cons_succ]); (try simp only [List.set_cons_zero])
  refine anyT_take 7 [8] (v := ?_) rfl (by kernel_rfl) (fun _ _ _ h => h) (Or.inl ⟨by kernel_rfl, ?_⟩) HSW ?_
  rotate_left
  · (intro w hSw; obtain ⟨hs0, hs1, hs2, hs3⟩ := hSw; go_simp; (try with_reducible rfl))
  (try simp only [Act.put]); (try simp only [List.setIfInBounds_toArray]); (try simp only [List.set_cons_succ]); (try simp only [List.set_cons_zero])
  refine anyT_step 8 (by kernel_rfl) rfl (fun K hK => ?_)
  go_simp
  refine hK.out _ _ (fun h => absurd rfl h) ?_
  clear hK K
  (try simp only [Act.put]); (try simp only [List.setIfInBounds_toArray]); (try simp only [List.set_cons_succ]); (try simp only [List.set_cons_zero])
  refine anyT_done (by kernel_rfl) ?_ _
  have HFIN := Lib.hid (HBL6.out.add HL7.out HS7.out HB7.out)
  go_wp2
  go_end0
  exact ⟨rfl, _, _, HFIN.out⟩

end Go.Proofs.YtlnlpahmfpjjdaaDoor
