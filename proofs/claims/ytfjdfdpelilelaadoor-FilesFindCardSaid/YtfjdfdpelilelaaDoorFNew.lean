/-
  New: a table of no files, that looks into a few directories.
-/
import Derived.Test.YtfjdfdpelilelaaDoorFCreate
namespace Go.Proofs.YtfjdfdpelilelaaDoor
open Go.RowKit

/-- A list of texts, as a walk reads it. -/
def StrsAt (a : Option Addr) (xs : List (List UInt8)) (w : World) : Prop := ∀ i x, xs[i]? = some x → ∃ ad, a = some ad ∧ ad.block < w.heap.size ∧ w.cell? (ad.add i) = some (.string ⟨x.toArray⟩)

theorem add_block (a : Addr) (i : Nat) : (a.add i).block = a.block := by unfold Addr.add; split <;> rfl

theorem StrsAt.later {a : Option Addr} {xs : List (List UInt8)} {w w' : World} (h : StrsAt a xs w) (hb : Below w.heap.size w w') : StrsAt a xs w' := by
  intro i x hx
  obtain ⟨ad, h1, h2, h3⟩ := h i x hx
  exact ⟨ad, h1, Nat.lt_of_lt_of_le h2 hb.size, (hb.cell (by rw [add_block]; exact h2)).trans h3⟩

/-- A table on its way: its directories so far. -/
structure NewSt (W : World) (v : Value) (xs : List (List UInt8)) (X : World) : Prop where
  below : Below W.heap.size W X
  tbl : X.heap[W.heap.size]? = some (tblObj v none 0)
  own : OwnStrs W.heap.size v xs X

theorem NewSt.drew {W X : World} {v : Value} {xs : List (List UInt8)} (h : NewSt W v xs X) : NewSt W v xs X.drew := ⟨h.below.drew, h.tbl, h.own⟩
theorem NewSt.lt {W X : World} {v : Value} {xs : List (List UInt8)} (h : NewSt W v xs X) : W.heap.size < X.heap.size := lt_of_heap h.tbl
theorem NewSt.next {W X Y : World} {v : Value} {xs : List (List UInt8)} (h : NewSt W v xs X) (b : Below X.heap.size X Y) : NewSt W v xs Y :=
  ⟨h.below.trans (b.mono h.below.size), (b.block _ h.lt).trans h.tbl, World.ownsRow.kept (row := none) h.own ⟨b.os, b.tape, b.output, b.size, fun k hk _ => b.block k hk⟩ (by cases hv : v.ownBlock with
    | none => exact .inl rfl
    | some k => exact .inr (by simp))⟩
theorem NewSt.alloc {W X : World} {v : Value} {xs : List (List UInt8)} (h : NewSt W v xs X) (o : Obj) : NewSt W v xs (X.alloc o) := h.next ((Below.refl _ _).alloc (Nat.le_refl _) o)
theorem NewSt.cell {W X : World} {v : Value} {xs : List (List UInt8)} (h : NewSt W v xs X) : X.cell? ⟨W.heap.size, 0, none⟩ = some v ∧ X.frozen? ⟨W.heap.size, 0, none⟩ = false := by
  have h1 := h.tbl
  unfold tblObj at h1
  exact ⟨by rw [Lib.cell_of_heap h1]; rfl, Lib.frozen_of_heap h1 _⟩

theorem clone_st {W X : World} {v : Value} {xs : List (List UInt8)} (h : NewSt W v xs X) (s : ByteArray) (hs : s.size ≤ 1000000) :
    Calls Tryd.prog 26 #[.string s] X fun e w' => e = .returned (.string s) ∧ NewSt W v xs w' :=
  (clone_any s X hs).mono fun _ _ ⟨he, hb⟩ => ⟨he, h.next hb⟩

theorem valid_st {W X : World} {v : Value} {xs : List (List UInt8)} (h : NewSt W v xs X) (s : ByteArray) (hs : s.size ≤ 1000) :
    Calls Tryd.prog 25 #[.string s] X fun e w' => e = .returned (.bool (validB s.data.toList)) ∧ NewSt W v xs w' :=
  (pValid_any s X hs).mono fun _ _ ⟨he, hb⟩ => ⟨he, h.next hb⟩

/-- The new list, ahead of its store. -/
structure NewMid (W : World) (v v' : Value) (ys : List (List UInt8)) (X : World) : Prop where
  below : Below W.heap.size W X
  tbl : X.heap[W.heap.size]? = some (tblObj v none 0)
  own : OwnStrs W.heap.size v' ys X

theorem NewMid.cell {W X : World} {v v' : Value} {ys : List (List UInt8)} (h : NewMid W v v' ys X) : X.cell? ⟨W.heap.size, 0, none⟩ = some v ∧ X.frozen? ⟨W.heap.size, 0, none⟩ = false := by
  have h1 := h.tbl
  unfold tblObj at h1
  exact ⟨by rw [Lib.cell_of_heap h1]; rfl, Lib.frozen_of_heap h1 _⟩

theorem NewMid.done {W X : World} {v v' : Value} {ys : List (List UInt8)} (h : NewMid W v v' ys X) : NewSt W v' ys (X.setCell ⟨W.heap.size, 0, none⟩ v') := by
  have h1 := h.tbl
  have ho := One.setCell X W.heap.size 0 v'
  refine ⟨h.below.setCell (Nat.le_refl _) _, ?_, h.own.same (ho.on h1 _ fun o hz => kof_ne hz (kof_tbl v none 0) (by decide))⟩
  unfold tblObj at h1
  rw [heap_setCell_same h1]
  rfl

theorem step_grow {ops : Array Oper} {o : Oper} {a : Act} {w : World} {K : Act → World → Prop} {Q : Exit → Act → World → Prop} {E : Prop} (hgd : o.guard = none) (s x : Operand)
    (ho : o.op = .call { callee := .builtin .append, args := #[s, x], argTypes := #[22, 22] })
    (W : World) (d : Value) (out : List (List UInt8)) (c : ByteArray) (gs : Nat) (hs : a.eval s = d) (hx : a.eval x = .slice (some ⟨gs, 0, none⟩) 1 1) (hst : NewSt W d out w) (hc : w.cell? ⟨gs, 0, none⟩ = some (.string c)) (hlen : out.length ≤ 2000000)
    (h : ∀ g n cap w', NewMid W d (.slice (some ⟨g, 0, none⟩) n cap) (out ++ [c.data.toList]) w' → K (a.put o.dst (.slice (some ⟨g, 0, none⟩) n cap)) w') :
    if Region.wanted o (yielded ops a.tmps) = true then Oper.wp Tryd.prog o a w K Q else E := by
  refine step_one hgd s x ho W.heap.size W d out c gs hs hx hst.own hc hlen ⟨hst.below, Nat.le_of_lt hst.lt⟩ fun v' w' hown hg hb => ?_
  obtain ⟨g, cap, rfl, -⟩ := OwnStrs.form hown (by simp)
  refine h g _ cap w' ⟨hb.1, ?_, hown⟩
  refine (hg.block _ hst.lt fun e => ?_).trans hst.tbl
  obtain ⟨-, h2 | ⟨g, cap, cur, rfl, -, hh, -⟩⟩ := hst.own
  · rw [h2.1] at e
    cases e
  · simp only [Value.ownBlock, Option.some.injEq] at e
    rw [← e, hst.tbl] at hh
    simp [tblObj] at hh

def NewRel (W : World) (xs : List (List UInt8)) (i : Value) (wr : World) : Prop :=
  ∃ (k : Nat) (v : Value), i = .int .i64 (k : Int) ∧ k ≤ xs.length ∧ NewSt W v (xs.take k) wr ∧ ∀ x ∈ xs.take k, x = [] ∨ validB x = true

theorem new_rel {W X : World} {xs : List (List UInt8)} {k : Nat} {v v' : Value} {b : ByteArray} (hk : k < xs.length) (hm : NewMid W v v' (xs.take k ++ [b.data.toList]) X) (ht : xs.take (k + 1) = xs.take k ++ [b.data.toList])
    (hok : ∀ x ∈ xs.take k, x = [] ∨ validB x = true) (hd : b.data.toList = [] ∨ validB b.data.toList = true) : NewRel W xs (.int .i64 ((k + 1 : Nat) : Int)) (X.setCell ⟨W.heap.size, 0, none⟩ v') := by
  refine ⟨k + 1, v', rfl, hk, ht ▸ hm.done, fun x hx => ?_⟩
  rw [ht] at hx
  rcases List.mem_append.1 hx with h | h
  · exact hok x h
  · simp only [List.mem_cons, List.not_mem_nil, or_false] at h
    rw [h]
    exact hd

/-- May these be directories? -/
def dirsB (xs : List (List UInt8)) : Bool := xs.all fun x => x == [] || validB x

def NewPost (W : World) (xs : List (List UInt8)) (e : Ending) (w' : World) : Prop :=
  (dirsB xs = true ∧ ∃ v, e = .returned (.tuple #[.pointer (some ⟨W.heap.size, 0, none⟩), .int .i64 0]) ∧ NewSt W v xs w') ∨
  (dirsB xs = false ∧ e = .returned (.tuple #[.pointer none, .int .i64 1]) ∧ Below W.heap.size W w')

theorem newDirs_no {a : Option Addr} {cap n : Nat} (W : World) (hl : 10 < n) :
    Calls Tryd.prog 10 #[.slice a n cap] W fun e w' => e = .returned (.tuple #[.pointer none, .int .i64 1]) ∧ W = w' := by
  have h1 : (10 : Int) < (n : Int) := by omega
  go_enter Tryd.func10, Tryd.ntmps10
  go_wp2
  go_ret2
  exact ⟨rfl, rfl⟩

set_option maxHeartbeats 3200000 in
set_option maxRecDepth 100000 in
theorem newDirs_any {a : Option Addr} {cap : Nat} (xs : List (List UInt8)) (W : World) (hx : StrsAt a xs W) (hl : xs.length ≤ 10) (hs : ∀ x ∈ xs, x.length ≤ 1000) :
    Calls Tryd.prog 10 #[.slice a xs.length cap] W (NewPost W xs) := by
  have hnot := not_run
  have S0 : NewSt W (.slice none 0 0) [] (W.alloc (.cells #[.slice none 0 0, .map none, .int .i64 0] 59)) :=
    ⟨(Below.refl _ _).alloc (Nat.le_refl _) _, heap_alloc_new W _, World.ownsRow_nil _ _ _ _⟩
  have HS0 := Lib.hid S0
  have HX := Lib.hid hx
  have HS := Lib.hid hs
  have h1 : ¬ ((10 : Int) < (xs.length : Int)) := by omega
  clear S0 hx hs
  go_enter Tryd.func10, Tryd.ntmps10
  go_wp2
  go_loopw [14] (NewRel W xs) (fun i _ => xs.length - (intOf i).toNat)
  case atStart => exact ⟨0, _, rfl, Nat.zero_le _, HS0.out, fun x h => by simp at h⟩
  case round =>
    obtain ⟨k, v, rfl, hk, hst, hok⟩ := hrel
    have ST := Lib.hid hst
    have HOK := Lib.hid hok
    clear hst hok
    by_cases hlt : k < xs.length
    · obtain ⟨c, hc⟩ : ∃ c, xs[k]? = some c := ⟨_, List.getElem?_eq_getElem hlt⟩
      obtain ⟨ad, had, hadl, hcell⟩ := HX.out k c hc
      subst had
      have hcw := (ST.out.below.cell (p := ad.add k) (by rw [add_block]; exact hadl)).trans hcell
      obtain ⟨b, hb⟩ : ∃ b : ByteArray, (⟨c.toArray⟩ : ByteArray) = b := ⟨_, rfl⟩
      rw [hb] at hcw
      have hbc : c = b.data.toList := by rw [← hb]
      have hcs : b.size ≤ 1000 := by
        have := HS.out c (List.mem_of_getElem? hc)
        rw [hbc] at this
        simpa using this
      have htk : xs.take (k + 1) = xs.take k ++ [b.data.toList] := by rw [List.take_add_one, hc, hbc]; rfl
      have HC := Lib.hid hc
      have HT := Lib.hid htk
      have HL : Hid ((xs.take k).length ≤ 2000000) := Lib.hid (by rw [List.length_take]; omega)
      have HB := Lib.hid hbc
      obtain ⟨hv0, hz0⟩ := ST.out.cell
      clear hc hb hbc htk hcell
      have HK := Lib.hid hlt
      have HBS : Hid (b.size ≤ 1000000) := Lib.hid (by omega)
      by_cases he : b.toList = []
      · have HD : Hid (b.data.toList = [] ∨ validB b.data.toList = true) := Lib.hid (.inl (by rw [← he, ByteArray.toList_eq]))
        go_wp2
        go_region_law (first
          | (refine step_grow rfl (.tmp 29) (.tmp 32) rfl W v (xs.take k) b _ rfl rfl ?_ ?_ ?_ ?_
             · (repeat first | (with_reducible apply NewSt.drew) | (with_reducible apply NewSt.alloc)); (with_reducible exact S3.out)
             · (repeat (with_reducible apply cell_drew)); (with_reducible exact one_cell)
             · exact HL.out
             intro g4 n4 c4 w4 hm
             have HM := Lib.hid hm
             obtain ⟨hv5, hz5⟩ := hm.cell
             clear hm)
          | (go_simp; go_at_call 26; refine (clone_st (W := W) (v := v) (xs := xs.take k) ?_ b HBS.out).mono ?_
             · (repeat first | (with_reducible apply NewSt.drew) | (with_reducible apply NewSt.alloc)); (with_reducible exact ST.out)
             rintro e w3 ⟨rfl, h3⟩
             have S3 := Lib.hid h3
             obtain ⟨hv3, hz3⟩ := h3.cell
             have hv4 := fun o => (h3.alloc o).cell.1
             clear h3))
        all_goals (have hfin : NewRel W xs (.int .i64 ((k + 1 : Nat) : Int)) (w4.setCell ⟨W.heap.size, 0, none⟩ (.slice (some ⟨g4, 0, none⟩) n4 c4)) := (new_rel HK.out HM.out HT.out HOK.out HD.out); have HF := Lib.hid hfin; clear hfin hv5 hz5 hv4 hv3 hz3)
        all_goals go_wp2
        all_goals
          go_roundw
          case rel => exact HF.out
          case measure => simp [intOf]; omega
      · have hne2 : b.toList.isEmpty = false := by
          rw [List.isEmpty_eq_false_iff]
          exact he
        have HV := Lib.hid (fun X (h : NewSt W v (xs.take k) X) => valid_st h b hcs)
        cases hvb : validB b.data.toList with
        | true =>
          rw [hvb] at HV
          have HD : Hid (b.data.toList = [] ∨ validB b.data.toList = true) := Lib.hid (.inr hvb)
          clear hvb
          go_wp2_with (go_at_call 25; refine (HV.out _ ST.out).mono ?_; rintro e w2 ⟨rfl, h2⟩; have S2 := Lib.hid h2; obtain ⟨hv2, hz2⟩ := h2.cell; clear h2)
          go_region_law (first
            | (refine step_grow rfl (.tmp 29) (.tmp 32) rfl W v (xs.take k) b _ rfl rfl ?_ ?_ ?_ ?_
               · (repeat first | (with_reducible apply NewSt.drew) | (with_reducible apply NewSt.alloc)); (with_reducible exact S3.out)
               · (repeat (with_reducible apply cell_drew)); (with_reducible exact one_cell)
               · exact HL.out
               intro g4 n4 c4 w4 hm
               have HM := Lib.hid hm
               obtain ⟨hv5, hz5⟩ := hm.cell
               clear hm)
            | (go_simp; go_at_call 26; refine (clone_st (W := W) (v := v) (xs := xs.take k) ?_ b HBS.out).mono ?_
               · (repeat first | (with_reducible apply NewSt.drew) | (with_reducible apply NewSt.alloc)); (with_reducible exact S2.out)
               rintro e w3 ⟨rfl, h3⟩
               have S3 := Lib.hid h3
               obtain ⟨hv3, hz3⟩ := h3.cell
               have hv4 := fun o => (h3.alloc o).cell.1
               clear h3))
          all_goals (have hfin : NewRel W xs (.int .i64 ((k + 1 : Nat) : Int)) (w4.setCell ⟨W.heap.size, 0, none⟩ (.slice (some ⟨g4, 0, none⟩) n4 c4)) := (new_rel HK.out HM.out HT.out HOK.out HD.out); have HF := Lib.hid hfin; clear hfin hv5 hz5 hv4 hv3 hz3)
          all_goals go_wp2
          all_goals
            go_roundw
            case rel => exact HF.out
            case measure => simp [intOf]; omega
        | false =>
          rw [hvb] at HV
          have hd : dirsB xs = false := by
            unfold dirsB
            rw [List.all_eq_false]
            refine ⟨c, List.mem_of_getElem? HC.out, ?_⟩
            rw [HB.out, hvb, ← ByteArray.toList_eq]
            simp [he]
          have HD := Lib.hid hd
          clear hvb hd
          go_wp2_with (go_at_call 25; refine (HV.out _ ST.out).mono ?_; rintro e w2 ⟨rfl, h2⟩; have S2 := Lib.hid h2; clear h2)
          go_ret2
          exact .inr ⟨HD.out, rfl, S2.out.below⟩
    · have hE : xs.take k = xs := List.take_of_length_le (by omega)
      have hge : ¬ ((k : Int) < (xs.length : Int)) := by omega
      have hfin : NewPost W xs (.returned (.tuple #[.pointer (some ⟨W.heap.size, 0, none⟩), .int .i64 0])) wr := by
        refine .inl ⟨?_, v, rfl, hE ▸ ST.out⟩
        rw [← hE]
        unfold dirsB
        rw [List.all_eq_true]
        intro x hx
        rcases HOK.out x hx with h | h
        · simp [h]
        · simp [h]
      have HF := Lib.hid hfin
      clear hfin hE
      go_wp2
      go_ret2
      exact HF.out

end Go.Proofs.YtfjdfdpelilelaaDoor
