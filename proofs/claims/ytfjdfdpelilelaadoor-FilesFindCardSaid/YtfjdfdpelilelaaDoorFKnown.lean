/-
  known: what is known of a path, from now on if nothing was.
-/
import Derived.Test.YtfjdfdpelilelaaDoorFAt
import Derived.Test.YtfjdfdpelilelaaDoorGrow
import Derived.Deep.RegionHeld3
import Derived.Deep.AppendLies
import Derived.OwnWalk
namespace Go.Proofs.YtfjdfdpelilelaaDoor
open Go.RowKit

theorem map_is (b : Nat) (w : World) : Sem.run Tryd.prog (binOp BinOp.eql 57 (Value.map (some b)) (Value.map none)) w = .ok (.bool false) w := by kernel_rfl
theorem map_isnt (w : World) : Sem.run Tryd.prog (binOp BinOp.eql 57 (Value.map none) (Value.map none)) w = .ok (.bool true) w := by kernel_rfl

/-- What is kept, from the new block on: old memory, the block, and the map. -/
structure Pre (w : World) (o : Obj) (mb n : Nat) (D : DataW Unit) (X : World) : Prop where
  below : Below w.heap.size w X
  new : X.heap[w.heap.size]? = some o
  own : X.ownsMap Tryd.prog 9 fileElem mb n D

theorem Pre.drew {w X : World} {o : Obj} {mb n : Nat} {D : DataW Unit} (h : Pre w o mb n D X) : Pre w o mb n D X.drew := ⟨h.below.drew, h.new, h.own⟩
theorem Pre.lt {w X : World} {o : Obj} {mb n : Nat} {D : DataW Unit} (h : Pre w o mb n D X) : w.heap.size < X.heap.size := lt_of_heap h.new
theorem Pre.start {w : World} {o : Obj} {mb n : Nat} {D : DataW Unit} (h : w.ownsMap Tryd.prog 9 fileElem mb n D) : Pre w o mb n D (w.alloc o) :=
  ⟨(Below.refl _ _).alloc (Nat.le_refl _) _, heap_alloc_new w o, h.alloc o⟩
theorem Pre.next {w X Y : World} {o : Obj} {mb n : Nat} {D : DataW Unit} (h : Pre w o mb n D X) (b : Below X.heap.size X Y) : Pre w o mb n D Y :=
  ⟨h.below.trans (b.mono h.below.size), (b.block _ h.lt).trans h.new, h.own.kept (row := none) ⟨b.os, b.tape, b.output, b.size, fun k hk _ => b.block k hk⟩ (by simp)⟩
theorem Pre.cell {w X : World} {o : Obj} {mb n : Nat} {D : DataW Unit} (h : Pre w o mb n D X) {g j : Nat} {u : Value} (hg : g < w.heap.size) (hc : w.cell? ⟨g, j, none⟩ = some u) : X.cell? ⟨g, j, none⟩ = some u := (h.below.cell (p := ⟨g, j, none⟩) hg).trans hc

theorem clone_pre {w X : World} {o : Obj} {mb n : Nat} {D : DataW Unit} (h : Pre w o mb n D X) (s : ByteArray) (hs : s.size ≤ 1000000) :
    Calls Tryd.prog 26 #[.string s] X fun e w' => e = .returned (.string s) ∧ Pre w o mb n D w' :=
  (clone_any s X hs).mono fun _ _ ⟨he, hb⟩ => ⟨he, h.next hb⟩

def KnownPost (B : Nat) (M : Mp) (w : World) (p : Nat) (t : Tab) (c : Nat) (l : List UInt8) (e : Ending) (w' : World) : Prop :=
  ∃ b m, e = .returned (.pointer (some ⟨b, 0, none⟩)) ∧ w.heap.size ≤ b ∧ (t.mb = some m ∨ w.heap.size ≤ m) ∧ FT B M w' p (t.add l b m) c ∧ Ks (mine p t) M w M w'

theorem known_end {B : Nat} {M : Mp} {w X Y : World} {p : Nat} {t : Tab} {c : Nat} (h : FT B M w p t c) {mb n : Nat} {D : DataW Unit} (hmb : t.mb = some mb) {l : List UInt8} (hl : t.ent l = none) (hs : l.length ≤ 1000000) (hfew : t.ents.length < 1000000)
    (hat : ∀ l, D.atKey (.string l) .nil = entData (t.ent l)) (hhas : ∀ l, Maps.has D (.string l) = (t.ent l).isSome) (hn : n = t.ents.length)
    (hp : Pre w (fileObj ⟨l, w.heap.size, none, 0⟩) mb n D X) (hput : Y.ownsMap Tryd.prog 9 fileElem mb (n + 1) (D.put (.string l) (.lit (.int .i64 (w.heap.size : Int))))) (hg : X.grownBy Y (some mb)) :
    KnownPost B M w p t c l (.returned (.pointer (some ⟨w.heap.size, 0, none⟩))) Y := by
  refine ⟨w.heap.size, mb, rfl, Nat.le_refl _, .inl hmb, h.added hmb l hl hs hfew hp.below (Nat.le_refl _) hp.new hp.own hat hhas hn hput hg, ?_⟩
  have b := hp.below
  refine ⟨hg.os.trans b.os, hg.tape.trans b.tape, hg.output.trans b.output, Nat.le_trans b.size hg.size, fun _ _ => rfl, fun k hk _ hkS => (hg.block k (Nat.lt_of_lt_of_le hk b.size) fun e => hkS ?_).trans (b.block k hk)⟩
  simp only [Option.some.injEq] at e
  subst e
  simp [mine, hmb]

set_option maxHeartbeats 800000 in
set_option maxRecDepth 100000 in
theorem known_mapped {B : Nat} {M : Mp} {w : World} {p : Nat} {t : Tab} {c : Nat} (h : FT B M w p t c) (s : ByteArray) (hs : s.size ≤ 1000000) {mb : Nat} (hmb : t.mb = some mb) (hl : t.ent s.data.toList = none) (hfew : t.ents.length < 1000000) :
    Calls Tryd.prog 29 #[.pointer (some ⟨p, 0, none⟩), .string s] w (KnownPost B M w p t c s.data.toList) := by
  obtain ⟨c1, -, -, -⟩ := h.tblCells
  have hk := h.look s hs
  rw [hl, hmb] at hk
  rw [hmb] at c1
  simp only [entPtr, Option.map_none] at hk
  have hm := h.map
  unfold MapAt at hm
  rw [hmb] at hm
  simp only at hm
  obtain ⟨D, hown, hat, hhas⟩ := hm
  have hpl : p < w.heap.size := by obtain ⟨ds, h1, _⟩ := h.tbl; exact lt_of_heap h1
  have P0 := Lib.hid (Pre.start (o := .cells #[.pointer none, .int .i64 0] 78 (0, 0)) hown)
  have HE := Lib.hid (fun X Y (hp : Pre w (.cells #[.pointer none, .int .i64 0] 78 (0, 0)) mb t.ents.length D X) => known_end (X := X) (Y := Y) h hmb hl (by simpa using hs) hfew hat hhas rfl hp)
  have hlen := h.few.1
  generalize t.ents.length = n at P0 HE hlen
  have HS := Lib.hid hs
  have HNE : Hid (some p ≠ some mb) := Lib.hid (by
    obtain ⟨ds, h1, _⟩ := h.tbl
    obtain ⟨es, clock, h2, _⟩ := hown
    intro e
    cases e
    rw [h1] at h2
    cases h2)
  have HK := Lib.hid (show keyOf Tryd.prog 9 (.string s) = some (.string s.data.toList) from WideMaps.keyOf_string_mk Tryd.underlying9 (by unfold maxLen; omega))
  clear h hl hmb hown hat hhas hs hfew
  have d1 := P0.out.cell hpl c1
  have hnil := map_is mb w
  go_enter Tryd.func29, Tryd.ntmps29
  go_wp2
  go_region_held3 (fun w' => w'.cell? ⟨p, 1, none⟩ = some (.map (some mb)))
    (first | go_keep)
    (first
      | (go_at_call 26; refine (clone_pre (w := w) (o := .cells #[.pointer none, .int .i64 0] 78 (0, 0)) (mb := mb) (n := n) (D := D) ?_ s HS.out).mono ?_
         · (repeat (with_reducible apply Pre.drew)); (with_reducible exact P0.out)
         rintro e w3 ⟨rfl, h3⟩
         have k3 := h3.cell hpl c1
         obtain ⟨w4, hr4, hput, hgrow⟩ := h3.own.update strKeyed Tryd.underlying57 (by unfold maxLen; omega) HK.out (fileElem_mk w.heap.size)
         have k4 := hgrow.cell k3 HNE.out
         have P3 := Lib.hid h3
         have HP := Lib.hid hput
         have HG := Lib.hid hgrow
         clear h3 hput hgrow))
  all_goals go_wp2
  all_goals go_ret
  all_goals exact HE.out _ _ P3.out HP.out HG.out


theorem mapped_ks {M : Mp} {w : World} {p : Nat} (t : Tab) : Ks (mine p t) M w M ((w.alloc (.map #[] 0)).setCell ⟨p, 1, none⟩ (.map (some w.heap.size))) :=
  ((Ks.refl (mine p t) M w).below ((Below.refl _ w).alloc (Nat.le_refl _) _)).trans ((One.setCell (w.alloc (.map #[] 0)) p 1 (.map (some w.heap.size))).ks (S := mine p t) (by simp [mine])) fun _ hj _ => hj

theorem known_lift {B : Nat} {M : Mp} {w : World} {p : Nat} {t : Tab} {c : Nat} (hes : t.ents = []) {l : List UInt8} {e : Ending} {w' : World}
    (h : KnownPost B M ((w.alloc (.map #[] 0)).setCell ⟨p, 1, none⟩ (.map (some w.heap.size))) p { t with mb := some w.heap.size } c l e w') : KnownPost B M w p t c l e w' := by
  obtain ⟨b, m, he, hb, hm, hf, hk⟩ := h
  have hk0 := mapped_ks (M := M) (w := w) (p := p) t
  refine ⟨b, m, he, Nat.le_trans hk0.size hb, .inr ?_, hf, hk0.trans hk fun j hj hlt => ?_⟩
  · rcases hm with hm | hm
    · cases hm
      exact Nat.le_refl _
    · exact Nat.le_trans hk0.size hm
  · simp only [mine, hes, List.map_nil, List.append_nil, Option.toList_some, List.mem_cons, List.not_mem_nil, or_false] at hj
    rcases hj with rfl | rfl
    · simp [mine]
    · omega

set_option maxRecDepth 100000 in
set_option maxHeartbeats 800000 in
theorem known_fresh {B : Nat} {M : Mp} {w : World} {p : Nat} {t : Tab} {c : Nat} (h : FT B M w p t c) (s : ByteArray) (hs : s.size ≤ 1000000) (hmb : t.mb = none) :
    Calls Tryd.prog 29 #[.pointer (some ⟨p, 0, none⟩), .string s] w (KnownPost B M w p t c s.data.toList) := by
  obtain ⟨hF, hes⟩ := h.mapped hmb
  obtain ⟨c1, -, f1, -⟩ := h.tblCells
  rw [hmb] at c1
  have hpl : p < w.heap.size := by obtain ⟨ds, h1, _⟩ := h.tbl; exact lt_of_heap h1
  have hL := fun e w' => known_lift (B := B) (M := M) (w := w) (p := p) (c := c) hes (l := s.data.toList) (e := e) (w' := w')
  have hpast := World.setCell_alloc_past (w := w) (.map #[] 0) p 1 (.map (some w.heap.size)) hpl
  rw [hpast] at hF hL
  obtain ⟨W, hW⟩ : ∃ W, (w.setCell ⟨p, 1, none⟩ (.map (some w.heap.size))).alloc (.map #[] 0) = W := ⟨_, rfl⟩
  clear hpast
  have hl : ({ t with mb := some w.heap.size } : Tab).ent s.data.toList = none := by
    unfold Tab.ent
    simp only [hes]
    rfl
  have hm := hF.map
  unfold MapAt at hm
  simp only at hm
  obtain ⟨D, hown, hat, hhas⟩ := hm
  have hne : some p ≠ some w.heap.size := by simp only [ne_eq, Option.some.injEq]; omega
  have hk := hF.look s hs
  rw [hl] at hk
  simp only [entPtr, Option.map_none] at hk
  rw [hW] at hF hown hk hL
  have e1 : W.cell? ⟨p, 1, none⟩ = some (.map (some w.heap.size)) := hF.tblCells.1
  have hplW : p < W.heap.size := by obtain ⟨ds, h1, _⟩ := hF.tbl; exact lt_of_heap h1
  have P0 := Lib.hid (Pre.start (o := .cells #[.pointer none, .int .i64 0] 78 (0, 0)) hown)
  have HE := Lib.hid (fun X Y (hp : Pre W (.cells #[.pointer none, .int .i64 0] 78 (0, 0)) w.heap.size ({ t with mb := some w.heap.size } : Tab).ents.length D X) a b => hL _ _ (known_end (X := X) (Y := Y) hF rfl hl (by simpa using hs) (by simp [hes]) hat hhas rfl hp a b))
  have hlen : ({ t with mb := some w.heap.size } : Tab).ents.length ≤ 1000000 := hF.few.1
  generalize ({ t with mb := some w.heap.size } : Tab).ents.length = n at P0 HE hlen
  have HS := Lib.hid hs
  have HNE := Lib.hid hne
  have HK := Lib.hid (show keyOf Tryd.prog 9 (.string s) = some (.string s.data.toList) from WideMaps.keyOf_string_mk Tryd.underlying9 (by unfold maxLen; omega))
  have hnil := map_isnt w
  have hmk := @run_makeMap Tryd.prog
  have HW := Lib.hid hW
  have d1 := P0.out.cell hplW e1
  clear hF hl hmb hown hat hhas hs hes hL h hne hW
  go_enter Tryd.func29, Tryd.ntmps29
  go_upto_region 3 with (fail)
  rw [HW.out]
  have hn2 := map_is w.heap.size W
  go_wp2
  go_region_held3 (fun w' => w'.cell? ⟨p, 1, none⟩ = some (.map (some w.heap.size)))
    (first | go_keep)
    (first
      | (go_at_call 26; refine (clone_pre (w := W) (o := .cells #[.pointer none, .int .i64 0] 78 (0, 0)) (mb := w.heap.size) (n := n) (D := D) ?_ s HS.out).mono ?_
         · (repeat (with_reducible apply Pre.drew)); (with_reducible exact P0.out)
         rintro e w3 ⟨rfl, h3⟩
         have k3 := h3.cell hplW e1
         obtain ⟨w4, hr4, hput, hgrow⟩ := h3.own.update strKeyed Tryd.underlying57 (by unfold maxLen; omega) HK.out (fileElem_mk W.heap.size)
         have k4 := hgrow.cell k3 HNE.out
         have P3 := Lib.hid h3
         have HP := Lib.hid hput
         have HG := Lib.hid hgrow
         clear h3 hput hgrow))
  all_goals go_wp2
  all_goals go_ret
  all_goals exact HE.out _ _ P3.out HP.out HG.out

theorem known_any {B : Nat} {M : Mp} {w : World} {p : Nat} {t : Tab} {c : Nat} (h : FT B M w p t c) (s : ByteArray) (hs : s.size ≤ 1000000) (hl : t.ent s.data.toList = none) (hfew : t.ents.length < 1000000) :
    Calls Tryd.prog 29 #[.pointer (some ⟨p, 0, none⟩), .string s] w (KnownPost B M w p t c s.data.toList) := by
  cases hmb : t.mb with
  | none => exact known_fresh h s hs hmb
  | some mb => exact known_mapped h s hs hmb hl hfew

/-- known, of a path that was. -/
theorem known_old {B : Nat} {M : Mp} {w : World} {p : Nat} {t : Tab} {c : Nat} (h : FT B M w p t c) (s : ByteArray) (hs : s.size ≤ 1000000) {e : Ent} (he : t.ent s.data.toList = some e) :
    Calls Tryd.prog 29 #[.pointer (some ⟨p, 0, none⟩), .string s] w fun x w' => x = .returned (.pointer (some ⟨e.blk, 0, none⟩)) ∧ w = w' := by
  obtain ⟨c1, -, -, -⟩ := h.tblCells
  have hk := h.look s hs
  rw [he] at hk
  simp only [entPtr, Option.map_some] at hk
  have hm := h.map
  unfold MapAt at hm
  cases hmb : t.mb with
  | none =>
    rw [hmb] at hm
    simp only at hm
    unfold Tab.ent at he
    rw [hm] at he
    cases he
  | some mb =>
    rw [hmb] at hk c1
    have hnil := map_is mb w
    clear h he hmb hm
    go_enter Tryd.func29, Tryd.ntmps29
    go_wp2
    go_ret
    exact ⟨rfl, rfl⟩

end Go.Proofs.YtfjdfdpelilelaaDoor
