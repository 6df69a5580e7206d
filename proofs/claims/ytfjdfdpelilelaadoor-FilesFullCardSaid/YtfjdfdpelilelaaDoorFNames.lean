/-
  Names: all paths that are there, sorted.
-/
import Derived.Test.YtfjdfdpelilelaaDoorFNew
import Derived.Sort.OwnSorted
import Derived.Sort.KeysCollected
import Derived.Laws.IdiomRangeMap
import Derived.LoopN
namespace Go.Proofs.YtfjdfdpelilelaaDoor
open Go.RowKit Go.Maps Go.Sort

/-- The step of a range over the map: a path, and the block that is known of it. -/
theorem wpList_next_files {w : World} {ops : Array Oper} {rest : List Oper} {o : Oper} {a : Act} {Q : Exit → Act → World → Prop} (hg : o.guard = none) (it : Operand) (hop : o.op = Op.next it false)
    (mb r n : Nat) (D : DataW Unit) (ent : List UInt8 → Option Ent) (hent : ∀ l, D.atKey (.string l) .nil = entData (ent l)) (hhas : ∀ l, has D (.string l) = (ent l).isSome) (left : Lit → Bool) (cnt : Nat) (hit : a.eval it = .pointer (some ⟨r, 0, none⟩)) (h : w.ranges Tryd.prog 9 fileElem mb r n D left cnt)
    (hDone : (∀ kl, left kl = false) → wpList Tryd.prog ops Q rest (a.put o.dst (.tuple #[.bool false])) w)
    (hMore : ∀ (x : List UInt8) (e : Ent) (w' : World) (cnt' : Nat), ent x = some e → left (.string x) = true → w'.ranges Tryd.prog 9 fileElem mb r n D (fun z => left z && !z.sameKey (.string x)) cnt' → cnt' < cnt →
      w.grownBy w' (some r) → (Instr.entry (.pointer (some ⟨r, 0, none⟩))).run Tryd.prog w' = .ok (.tuple #[.string ⟨x.toArray⟩, .pointer (some ⟨e.blk, 0, none⟩)]) w' → wpList Tryd.prog ops Q rest (a.put o.dst (.tuple #[.bool true, .string ⟨x.toArray⟩, .pointer (some ⟨e.blk, 0, none⟩)])) w') :
    wpList Tryd.prog ops Q (o :: rest) a w := by
  refine wpList_next_ranges w hg it hop 9 strKeyed fileElem (fun l : List UInt8 => Value.string ⟨l.toArray⟩) (fun c : Option Nat => Value.pointer (c.map fun b => ⟨b, 0, none⟩))
    (fun key kl hk => by obtain ⟨x, hx, _⟩ := Maps.keyOf_str Tryd.underlying9 hk; exact ⟨x, hx⟩) (fun v y hv => by obtain ⟨c, hc, _⟩ := fileElem_inv hv; exact ⟨c, hc⟩) mb r n D left cnt hit h (fun _ hl => hDone hl) ?_
  intro x c kl y w' cnt' hkey hlk hv hat hrg hlt hgr _ hen
  obtain ⟨x', hx', rfl, _⟩ := Maps.keyOf_str Tryd.underlying9 hkey
  have hxx : x = x' := encStr_inj (show Go.Proofs.encStr x = Go.Proofs.encStr x' from hx')
  subst hxx
  have h1 := hat .nil
  rw [hent] at h1
  have hne : ent x ≠ none := fun he => by
    have hh : has D (.string x) = true := has_true_of_atKey hat
    rw [hhas, he] at hh
    cases hh
  cases he : ent x with
  | none => exact absurd he hne
  | some e =>
    rw [he] at h1
    obtain ⟨d', hd', hy'⟩ := fileElem_inv hv
    have hd2 : (c.map fun b => (⟨b, 0, none⟩ : Addr)) = (some e.blk).map fun b => (⟨b, 0, none⟩ : Addr) := by
      simp only [Value.pointer.injEq] at hd'
      rw [hd']
      cases d' with
      | none => rw [hy'] at h1; cases h1
      | some b =>
        rw [hy'] at h1
        simp only [entData, DataW.lit.injEq, Lit.int.injEq, true_and] at h1
        have : e.blk = b := by omega
        rw [this]
    have hm := hMore x e w' cnt' he hlk hrg hlt hgr
    rw [hd2] at hen ⊢
    exact hm hen

/-- The paths met so far: those that are there, and no longer to come. -/
def Met (t : Tab) (left : Lit → Bool) (ss : List (List UInt8)) : Prop := ss.Nodup ∧ ∀ x, x ∈ ss ↔ ((t.file x).isSome = true ∧ left (.string x) = false)

theorem Met.start (t : Tab) (left : Lit → Bool) (h : ∀ l, left (.string l) = (t.ent l).isSome) : Met t left [] := ⟨List.nodup_nil, fun x => by
  rw [h x]
  unfold Tab.file
  cases t.ent x <;> simp⟩

theorem Met.step {t : Tab} {left : Lit → Bool} {ss : List (List UInt8)} (h : Met t left ss) {x : List UInt8} (hl : left (.string x) = true) (hf : (t.file x).isSome = true) : Met t (fun z => left z && !z.sameKey (.string x)) (ss ++ [x]) := by
  have hnew : x ∉ ss := fun hx => by have := ((h.2 x).1 hx).2; rw [hl] at this; cases this
  refine ⟨List.nodup_append.2 ⟨h.1, by simp, fun a ha b hb => by simp at hb; subst hb; exact fun e => hnew (e ▸ ha)⟩, fun y => ?_⟩
  by_cases hy : y = x
  · subst hy; simp [hf, Lit.sameKey]
  · simp [h.2 y, hy, Lit.sameKey]

theorem Met.skip {t : Tab} {left : Lit → Bool} {ss : List (List UInt8)} (h : Met t left ss) {x : List UInt8} (hf : t.file x = none) : Met t (fun z => left z && !z.sameKey (.string x)) ss := by
  refine ⟨h.1, fun y => ?_⟩
  by_cases hy : y = x
  · subst hy; simp [h.2 y, hf]
  · simp [h.2 y, hy, Lit.sameKey]

theorem Met.perm {t : Tab} (hn : (t.ents.map (·.path)).Nodup) {left : Lit → Bool} {ss : List (List UInt8)} (h : Met t left ss) (hl : ∀ k, left k = false) : ss.Perm t.there := by
  refine (List.perm_ext_iff_of_nodup h.1 ?_).2 fun x => ?_
  · unfold Tab.there
    exact hn.sublist (List.filter_sublist.map _)
  · rw [h.2 x, hl]
    unfold Tab.there
    simp only [and_true, List.mem_map, List.mem_filter]
    constructor
    · intro hf
      obtain ⟨y, hy⟩ := Option.isSome_iff_exists.1 hf
      obtain ⟨e, he, hx, -⟩ := Tab.file_some hy
      obtain ⟨h1, h2⟩ := Tab.ent_path he
      exact ⟨e, ⟨h2, by rw [hx]; rfl⟩, h1⟩
    · rintro ⟨e, ⟨he, hx⟩, rfl⟩
      unfold Tab.file
      rw [Tab.ent_of hn he]
      exact hx

/-- What Names gives. -/
def NamesPost (w : World) (t : Tab) (e : Ending) (w' : World) : Prop :=
  ∃ a n cap, e = .returned (.slice a n cap) ∧ n = t.count ∧ OwnStrs w.heap.size (.slice a n cap) (t.there.mergeSort fun x y => decide (x ≤ y)) w' ∧ Below w.heap.size w w'

def NamesRel (w : World) (t : Tab) (mb n : Nat) (D : DataW Unit) (v : Value) (wr : World) : Prop :=
  ∃ left cnt ss, wr.ranges Tryd.prog 9 fileElem mb w.heap.size n D left cnt ∧ OwnStrs w.heap.size v ss wr ∧ Below w.heap.size w wr ∧ Met t left ss ∧ ss.length + cnt ≤ n

set_option maxRecDepth 100000 in
set_option maxHeartbeats 1600000 in
theorem names_mapped {B : Nat} {M : Mp} {w : World} {p : Nat} {t : Tab} {c : Nat} (h : FT B M w p t c) {mb : Nat} (hmb : t.mb = some mb) :
    Calls Tryd.prog 16 #[.pointer (some ⟨p, 0, none⟩)] w (NamesPost w t) := by
  obtain ⟨i0, hi, hz0, hz1, hz2⟩ := info_parts Tryd.infoStr
  obtain ⟨c1, -, -, -⟩ := h.tblCells
  have hm := h.map
  unfold MapAt at hm
  rw [hmb] at c1 hm
  simp only at hm
  obtain ⟨D, hown, hat, hhas⟩ := hm
  have hmlt := hown.lt
  have hfew := h.few.1
  have HCell := Lib.hid (fun x e (he : t.ent x = some e) => (show w.cell? ⟨e.blk, 0, none⟩ = some (.pointer (txtPtr (t.file x))) ∧ e.blk < w.heap.size from
    ⟨by rw [(h.fileCells he).1]; unfold Tab.file; rw [he]; rfl, lt_of_heap (h.file e (h.ent_mem he))⟩))
  have HP := Lib.hid h.paths
  have HAT := Lib.hid hat
  have HHAS := Lib.hid hhas
  have HST := Lib.hid (Met.start t (has D) hhas)
  have hsz : Maps.size D ≤ t.ents.length := hown.size_le
  have HSZ := Lib.hid hsz
  have HFEW := Lib.hid hfew
  clear h hmb hat hhas hsz hfew
  generalize hn : t.ents.length = n at hown HSZ HFEW
  clear hn
  go_enter Tryd.func16, Tryd.ntmps16
  go_wp2_with (at_range; refine wpList_range_own _ rfl _ 57 rfl 9 61 strKeyed Tryd.underlying57 fileElem mb n D rfl hown ?_; intro w0 hrg0 hg0 hs0)
  go_frame
  have HR0 := Lib.hid hrg0
  have HG0 := Lib.hid hg0
  clear hrg0 hg0 hs0
  go_loopw [3] (NamesRel w t mb n D) (fun _ wr => wr.rangeLeft mb w.heap.size)
  case atStart => exact ⟨_, _, [], HR0.out, World.ownsRow_nil _ _ _ _, (Below.refl _ _).grown HG0.out (Nat.le_refl _) (fun j hj => by cases hj), HST.out, by simpa using HSZ.out⟩
  case round =>
    obtain ⟨left, cnt, ss, hrg, hrow, hbel, hmet, hcs⟩ := hrel
    have HRG := Lib.hid hrg
    have HROW := Lib.hid hrow
    have HBEL := Lib.hid hbel
    have HMET := Lib.hid hmet
    have hcs2 := hcs
    have HCS := Lib.hid hcs
    clear hrg hrow hbel hmet hcs hcs2
    go_wp2_with (at_next; refine wpList_next_files rfl _ rfl mb w.heap.size n D t.ent HAT.out HHAS.out left cnt rfl HRG.out ?_ ?_)
    · intro hl0
      have hperm := HMET.out.perm HP.out hl0
      have hlen : ss.length = t.count := by rw [← Tab.there_length]; exact hperm.length_eq
      have hsort : (ss.mergeSort fun x y => decide (x ≤ y)) = t.there.mergeSort fun x y => decide (x ≤ y) := mergeSort_of_perm hperm
      have hrow := HROW.out
      rcases hrow.2 with ⟨rfl, h0⟩ | ⟨g, cap, cur, rfl, hbase, hb, h1, h2, h3, h4⟩
      · have hss : ss = [] := List.eq_nil_of_length_eq_zero h0
        subst hss
        have hfin : NamesPost w t (.returned (.slice none 0 0)) wr := by
          refine ⟨none, 0, 0, rfl, hlen, ?_, HBEL.out⟩
          rw [← hsort, List.mergeSort_nil]
          exact World.ownsRow_nil _ _ _ _
        have HF := Lib.hid hfin
        have HC := Lib.hid (Tryd.slices_Sort_string_none none 0 wr)
        clear hfin hrow hsort hlen hperm hl0 h0
        go_wp2_with (go_at_call 37; refine HC.out.mono ?_; rintro e w' ⟨rfl, rfl⟩)
        go_ret
        exact HF.out
      · have hgl : g < wr.heap.size := (Array.getElem?_eq_some_iff.1 hb).1
        have hc := Tryd.slices_Sort_string g 0 cap ss wr (holds_of_block hb (by have h := h4; rw [Nat.mul_one] at h; exact h)) hgl (by have := HCS.out; have := HFEW.out; omega)
        have hfin : ∀ w', (∃ n os, w' = grow (putRow Go.Proofs.encStr (Sort.ahead wr n) g 0 (ss.mergeSort fun x y => decide (x ≤ y)).toArray) os) → NamesPost w t (.returned (.slice (some ⟨g, 0, none⟩) ss.length cap)) w' := by
          rintro w' ⟨nn, os, rfl⟩
          have ho := ownsRow_sorted (n := nn) (os := os) (ss := ss) (ts := ss.mergeSort fun x y => decide (x ≤ y)) (by simp) hbase hb h1 h2 h3
          refine ⟨_, _, _, rfl, hlen, ?_, HBEL.out.grown (grownBy_sorted _) HBEL.out.size (fun j hj => by cases hj; exact hbase)⟩
          rw [← hsort]
          unfold OwnStrs
          rw [List.length_mergeSort]
          exact ho
        have HC := Lib.hid hc
        have HF := Lib.hid hfin
        clear hc hfin hrow hb h4 h3 h2 h1 hsort hlen hperm hl0 hgl hbase
        go_wp2_with (go_at_call 37; refine HC.out.mono ?_; rintro e w' ⟨rfl, hw⟩; have HW := Lib.hid hw; clear hw)
        go_ret
        exact HF.out _ HW.out
    · intro x e w2 cnt2 hex hlk hrg2 hlt hg2 hen
      have hbel2 : Below w.heap.size w w2 := HBEL.out.grown hg2 HBEL.out.size (fun j hj => by cases hj; exact Nat.le_refl _)
      obtain ⟨hc0, hbl⟩ := HCell.out x e hex
      have hc2 := (hbel2.cell (p := ⟨e.blk, 0, none⟩) hbl).trans hc0
      have hrow2 : OwnStrs w.heap.size _ ss w2 := World.ownsRow.kept HROW.out hg2 (Or.inr (row_ne_iter HROW.out HRG.out).symm)
      have HB2 := Lib.hid hbel2
      have HR2 := Lib.hid hrow2
      have HG2 := Lib.hid hrg2
      have HLT := Lib.hid hlt
      have HLK := Lib.hid hlk
      clear hc0 hbel2 hrow2 hrg2 hlt hlk hg2 hex
      cases hf : t.file x with
      | none =>
        rw [hf] at hc2
        simp only [txtPtr, Option.map_none] at hc2
        have hm2 := HMET.out.skip hf
        have HM2 := Lib.hid hm2
        clear hm2 hf
        go_wp2
        go_roundw
        case rel => exact ⟨_, cnt2, ss, HG2.out, HR2.out, HB2.out, HM2.out, by have := HCS.out; have := HLT.out; omega⟩
        case measure => rw [HG2.out.left_eq, HRG.out.left_eq]; exact HLT.out
      | some y =>
        rw [hf] at hc2
        simp only [txtPtr, Option.map_some] at hc2
        have hm2 := HMET.out.step HLK.out (x := x) (by rw [hf]; rfl)
        have HM2 := Lib.hid hm2
        clear hm2 hf
        go_wp2_with (at_builtin; refine wpList_append_own _ rfl _ _ 22 rfl w.heap.size 9 i0 (.string ⟨#[]⟩) 1 16 Tryd.underlying22 hi hz0 hz1 hz2 rfl (by decide) _ _ _ rfl (World.ownsRow.alloc HR2.out _) ⟨w2.heap.size, 0, none⟩ 1 1 [.string ⟨x.toArray⟩] rfl rfl ?c1 ?c2 ?c3 ?c4 ?c5 ?_)
        case c1 =>
          intro j u hj
          match j, hj with
          | 0, hj => simp at hj; subst hj; simp [Addr.add]
        case c2 => intro u hu; simp at hu; subst hu; rfl
        case c3 => have := HCS.out; have := HFEW.out; unfold maxLen; omega
        case c4 => have := HCS.out; have := HFEW.out; omega
        case c5 => have := HB2.out.size; simp; omega
        intro v' w3 hown' hgrow _
        have hrg3 := (HG2.out.alloc (.cells #[.string ⟨x.toArray⟩] 9)).kept hgrow (row_ne_low HR2.out hmlt) (row_ne_iter HR2.out HG2.out)
        have hbel3 : Below w.heap.size w w3 := (HB2.out.alloc HB2.out.size _).grown hgrow (by have := HB2.out.size; simp; omega) (fun g hg => (World.ownsRow.lt HR2.out g hg).1)
        have HO' := Lib.hid (own_put (x := x) hown')
        have HG3 := Lib.hid hrg3
        have HB3 := Lib.hid hbel3
        clear hown' hgrow hrg3 hbel3
        go_wp2
        go_roundw
        case rel => exact ⟨_, cnt2, ss ++ [x], HG3.out, HO'.out, HB3.out, HM2.out, by have := HCS.out; have := HLT.out; simp; omega⟩
        case measure => rw [HG3.out.left_eq, HRG.out.left_eq]; exact HLT.out

set_option maxRecDepth 100000 in
theorem names_fresh {B : Nat} {M : Mp} {w : World} {p : Nat} {t : Tab} {c : Nat} (h : FT B M w p t c) (hmb : t.mb = none) :
    Calls Tryd.prog 16 #[.pointer (some ⟨p, 0, none⟩)] w (NamesPost w t) := by
  obtain ⟨c1, -, -, -⟩ := h.tblCells
  have hm := h.map
  unfold MapAt at hm
  rw [hmb] at c1 hm
  simp only at hm
  have hfin : NamesPost w t (.returned (.slice none 0 0)) (w.alloc (.mapIter none 0 #[] 0)) := by
    refine ⟨none, 0, 0, rfl, ?_, ?_, (Below.refl _ _).alloc (Nat.le_refl _) _⟩
    · unfold Tab.count
      rw [hm]
      rfl
    · unfold Tab.there
      rw [hm, List.filter_nil, List.map_nil, List.mergeSort_nil]
      exact World.ownsRow_nil _ _ _ _
  have HF := Lib.hid hfin
  have HC := Lib.hid (Tryd.slices_Sort_string_none none 0 (w.alloc (.mapIter none 0 #[] 0)))
  have hrg := run_range_nilMap (P := Tryd.prog) w 57 9 61 Tryd.underlying57
  have hnx : ∀ ty, (Instr.next (.pointer (some ⟨w.heap.size, 0, none⟩)) false ty).run Tryd.prog (w.alloc (.mapIter none 0 #[] 0)) = _ := fun ty => run_next_nilMap w ty 0 0 #[]
  clear hfin hm hmb h
  go_enter Tryd.func16, Tryd.ntmps16
  go_wp2
  refine wp_loop_rounds 1 ?_
  rw [rounds_succ]
  go_wp2_with (go_at_call 37; refine HC.out.mono ?_; rintro e w' ⟨rfl, rfl⟩)
  go_ret
  exact HF.out

theorem names_any {B : Nat} {M : Mp} {w : World} {p : Nat} {t : Tab} {c : Nat} (h : FT B M w p t c) :
    Calls Tryd.prog 16 #[.pointer (some ⟨p, 0, none⟩)] w (NamesPost w t) := by
  cases hmb : t.mb with
  | none => exact names_fresh h hmb
  | some mb => exact names_mapped h hmb

end Go.Proofs.YtfjdfdpelilelaaDoor
