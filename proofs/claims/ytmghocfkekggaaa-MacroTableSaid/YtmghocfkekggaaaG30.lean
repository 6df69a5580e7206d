/-
  Texts of the proof, put together: McTab.
-/
import Derived.Test.YtmghocfkekggaaaG28
import Derived.Test.YtmghocfkekggaaaG29
import Derived.Maps.OwnSet
import Derived.BigRegion

/-
  A table of macros in memory: its block, its map; the map made its own.
-/
namespace Go.Proofs.Ytmghocfkekggaaa
open Go.RowKit Go.Maps

/-- A map's element, as it is. -/
def rawElem (v : Value) : Option (DataW Value × List MemPlace) := some (.held v, [])
theorem rawElem_inv {v x : Value} {ps : List MemPlace} (h : rawElem v = some (.held x, ps)) : v = x := by
  simp only [rawElem, Option.some.injEq, Prod.mk.injEq, DataW.held.injEq] at h
  exact h.1
def noM : Xm := ⟨⟨#[]⟩, false, false, [], [], ⟨#[]⟩, 0, 0⟩
def zeroV : Value := macV noM (.slice none 0 0) (.slice none 0 0)

/-- The macro of a name. -/
def look (x : ByteArray) (L : List Xm) : Option Xm := L.find? fun m => decide (m.n = x)
theorem look_name {x : ByteArray} {L : List Xm} {m : Xm} (h : look x L = some m) : m.n = x := by
  have := List.find?_some h
  simpa using this

/-- The map reads so. -/
def Reads (D : DataW Value) (K : ByteArray → Option Xm) (w : World) : Prop :=
  ∀ x : ByteArray, Maps.has D (.string x.data.toList) = (K x).isSome ∧ ∀ m, K x = some m → ∃ pv bv, D.atKey (.string x.data.toList) (.held zeroV) = .held (macV m pv bv) ∧ MacAt m pv bv w
def MapIs (w : World) (mo : Option Nat) (N : Nat) (K : ByteArray → Option Xm) : Prop :=
  match mo with
  | none => ∀ x, K x = none
  | some b => ∃ D, w.ownsMap Try.prog 9 rawElem b N D ∧ Reads D K w
def tabObj (mo : Option Nat) (sh : Bool) : Obj := .cells #[.map mo, .bool sh] 64 (0, 0)

theorem tab_cells {w : World} {p : Nat} {mo : Option Nat} {sh : Bool} (h : w.heap[p]? = some (tabObj mo sh)) : w.cell? ⟨p, 0, none⟩ = some (.map mo) ∧ w.cell? ⟨p, 1, none⟩ = some (.bool sh) ∧ ∀ j, w.frozen? ⟨p, j, none⟩ = false := by
  unfold tabObj at h
  refine ⟨?_, ?_, fun j => Lib.frozen_of_heap h _⟩ <;> (rw [Lib.cell_of_heap h]; rfl)
theorem tab_nostr {w : World} {p : Nat} {mo : Option Nat} {sh : Bool} (h : w.heap[p]? = some (tabObj mo sh)) : NoStr w p := by
  intro o s
  unfold tabObj at h
  rw [Lib.cell_of_heap h]
  match o with
  | 0 => simp
  | 1 => simp
  | o + 2 => simp
theorem map_nostr {w : World} {b : Nat} {es : Array MapEntry} {c : Nat} (h : w.heap[b]? = some (.map es c)) : NoStr w b := by
  intro o s
  simp [World.cell?, h]
theorem own_nostr {H : Type} {R : Value → Option (DataW H × List MemPlace)} {w : World} {k : TypeId} {b n : Nat} {D : DataW H} (h : w.ownsMap Try.prog k R b n D) : NoStr w b := by
  obtain ⟨es, c, h1, -⟩ := h
  exact map_nostr h1

theorem Reads.bare {D : DataW Value} {K : ByteArray → Option Xm} {w w' : World} {q : Nat} (h : Reads D K w) (hq : NoStr w q) (hs : w.heap.size ≤ w'.heap.size) (hf : ∀ g, g < w.heap.size → g ≠ q → w'.heap[g]? = w.heap[g]?) : Reads D K w' := fun x =>
  ⟨(h x).1, fun m hm => let ⟨pv, bv, h1, h2⟩ := (h x).2 m hm; ⟨pv, bv, h1, h2.bare hq hs hf⟩⟩
theorem Reads.over {D : DataW Value} {K : ByteArray → Option Xm} {w w' : World} (h : Reads D K w) (b : Below w.heap.size w w') : Reads D K w' := fun x =>
  ⟨(h x).1, fun m hm => let ⟨pv, bv, h1, h2⟩ := (h x).2 m hm; ⟨pv, bv, h1, h2.over b⟩⟩
theorem MapIs.over {w w' : World} {mo : Option Nat} {N : Nat} {K : ByteArray → Option Xm} (h : MapIs w mo N K) (b : Below w.heap.size w w') : MapIs w' mo N K := by
  match mo, h with
  | none, h => exact h
  | some k, h =>
    obtain ⟨D, h1, h2⟩ := h
    exact ⟨D, ownsMap_over h1 (b.block _ h1.lt), h2.over b⟩
/-- A change of one block without texts, which is not the map's. -/
theorem MapIs.bare {w w' : World} {mo : Option Nat} {N : Nat} {K : ByteArray → Option Xm} {q : Nat} (h : MapIs w mo N K) (hq : NoStr w q) (hne : mo ≠ some q) (g : w.grownBy w' (some q)) : MapIs w' mo N K := by
  match mo, h, hne with
  | none, h, _ => exact h
  | some k, h, hne =>
    obtain ⟨D, h1, h2⟩ := h
    have hk : k ≠ q := fun e => hne (by rw [e])
    exact ⟨D, ownsMap_over h1 (g.block k h1.lt (by simpa using hk)), h2.bare hq g.size fun j hj hjq => g.block j hj (by simpa using hjq)⟩
theorem tab_ne_map {w : World} {p b N : Nat} {mo : Option Nat} {sh : Bool} {K : ByteArray → Option Xm} (h : w.heap[p]? = some (tabObj mo sh)) (hm : MapIs w (some b) N K) : p ≠ b := by
  rintro rfl
  obtain ⟨D, ⟨es, c, h1, -⟩, -⟩ := hm
  rw [h] at h1
  cases h1

theorem zeroMac_run (w : World) : (zeroValue 38).run Try.prog w = .ok zeroV w := by kernel_rfl

/-- A look at the map, in whatever world above. -/
theorem MapIs.look {w : World} {mo : Option Nat} {N : Nat} {K : ByteArray → Option Xm} (h : MapIs w mo N K) (x : ByteArray) (hx : x.size ≤ 1000) :
    ∃ m pv bv, (∀ X : World, Below w.heap.size w X → (Instr.lookup 62 (.map mo) (.string x) true).run Try.prog X = .ok (.tuple #[macV m pv bv, .bool (K x).isSome]) X) ∧ MacAt m pv bv w ∧ (∀ y, K x = some y → m = y) ∧ (K x = none → m = noM) := by
  match mo, h with
  | none, h =>
    refine ⟨noM, .slice none 0 0, .slice none 0 0, fun X _ => ?_, ⟨strsV_nil w, toksX_nil w⟩, fun y hy => (by rw [h x] at hy; cases hy), fun _ => rfl⟩
    rw [h x]
    exact Maps.look_nil true strKeyM Try.underlying62 (zeroMac_run _) (keyM x (by unfold maxLen; omega))
  | some b, h =>
    obtain ⟨D, h1, h2⟩ := h
    obtain ⟨hh, hv⟩ := h2 x
    have hrun : ∀ X : World, Below w.heap.size w X → ∃ v, (Instr.lookup 62 (.map (some b)) (.string x) true).run Try.prog X = .ok (.tuple #[v, .bool (K x).isSome]) X ∧ .held v = D.atKey (.string x.data.toList) (.held zeroV) := fun X hX => by
      have h1' : X.ownsMap Try.prog 9 rawElem b N D := ownsMap_over h1 (hX.block _ h1.lt)
      obtain ⟨v, ps, hr, hv⟩ := h1'.look_ok strKeyM Try.underlying62 (zeroMac_run _) (zd := .held zeroV) (zp := []) rfl (keyM x (by unfold maxLen; omega))
      rw [hh] at hr
      refine ⟨v, hr, ?_⟩
      simp only [rawElem, Option.some.injEq, Prod.mk.injEq] at hv
      exact hv.1
    cases hK : K x with
    | none =>
      refine ⟨noM, .slice none 0 0, .slice none 0 0, fun X hX => ?_, ⟨strsV_nil w, toksX_nil w⟩, fun y hy => (by cases hy), fun _ => rfl⟩
      obtain ⟨v, hr, he⟩ := hrun X hX
      rw [hK] at hr hh
      rw [atKey_of_not_has (by rw [hh]; rfl)] at he
      simp only [DataW.held.injEq] at he
      rw [he] at hr
      exact hr
    | some m =>
      obtain ⟨pv, bv, ha, hm⟩ := hv m hK
      refine ⟨m, pv, bv, fun X hX => ?_, hm, fun y hy => (by cases hy; rfl), fun e => by cases e⟩
      obtain ⟨v, hr, he⟩ := hrun X hX
      rw [hK] at hr
      rw [ha] at he
      simp only [DataW.held.injEq] at he
      rw [he] at hr
      exact hr

/-- The map is the table's own. -/
def OwnPost (w : World) (p : Nat) (mo : Option Nat) (sh : Bool) (N : Nat) (K : ByteArray → Option Xm) (e : Ending) (w' : World) : Prop :=
  e = .returned (.tuple #[]) ∧ ∃ b, w'.heap[p]? = some (tabObj (some b) false) ∧ MapIs w' (some b) N K ∧ (w.heap.size ≤ b ∨ mo = some b ∧ sh = false) ∧ w.grownBy w' (some p)

theorem grown_setT (w : World) (p j : Nat) (v : Value) : w.grownBy (w.setCell ⟨p, j, none⟩ v) (some p) := ⟨rfl, rfl, rfl, by simp [World.setCell], fun k _ hk => heap_setCell_other w _ k v fun e => hk (by rw [e])⟩
theorem own_fresh {w : World} {p : Nat} {sh : Bool} {N : Nat} {K : ByteArray → Option Xm} {mo : Option Nat} {o : Obj} (h : w.heap[p]? = some (tabObj mo sh)) (hm : MapIs (w.alloc o) (some w.heap.size) N K) :
    OwnPost w p mo sh N K (.returned (.tuple #[])) (((w.alloc o).setCell ⟨p, 0, none⟩ (.map (some w.heap.size))).setCell ⟨p, 1, none⟩ (.bool false)) := by
  have hp := row_lt h
  have h1 := (Below.heap_alloc w o p hp).trans h
  have h2 : ((w.alloc o).setCell ⟨p, 0, none⟩ (.map (some w.heap.size))).heap[p]? = some (tabObj (some w.heap.size) sh) := (heap_setCell_same (w.alloc o) p 0 _ _ _ h1).trans rfl
  have h3 : (((w.alloc o).setCell ⟨p, 0, none⟩ (.map (some w.heap.size))).setCell ⟨p, 1, none⟩ (.bool false)).heap[p]? = some (tabObj (some w.heap.size) false) := (heap_setCell_same _ p 1 _ _ _ h2).trans rfl
  have m2 := hm.bare (tab_nostr h1) (by simp; omega) (grown_setT _ p 0 (.map (some w.heap.size)))
  have m3 := m2.bare (tab_nostr h2) (by simp; omega) (grown_setT _ p 1 (.bool false))
  refine ⟨rfl, w.heap.size, h3, m3, .inl (Nat.le_refl _), ?_⟩
  have g1 : w.grownBy (w.alloc o) (some p) := (World.grownBy_alloc w o none).but (some p)
  exact (g1.trans (grown_setT _ p 0 _)).trans (grown_setT _ p 1 _)

set_option maxRecDepth 100000 in
set_option maxHeartbeats 3200000 in
theorem own_any {w : World} {p : Nat} {mo : Option Nat} {sh : Bool} {N : Nat} {K : ByteArray → Option Xm} (h : w.heap[p]? = some (tabObj mo sh)) (hm : MapIs w mo N K) :
    Calls Try.prog 27 #[.pointer (some ⟨p, 0, none⟩)] w (OwnPost w p mo sh N K) := by
  have hq : ∀ d : Nat, (binOp .eql 62 (.map (some d)) (.map none)).run Try.prog w = .ok (.bool false) w := fun d => run_eql_map_nil_sl (P := Try.prog) w 62 _ _ (some d) Try.underlying62
  have hq0 : (binOp .eql 62 (.map none) (.map none)).run Try.prog w = .ok (.bool true) w := run_eql_map_nil_sl (P := Try.prog) w 62 _ _ none Try.underlying62
  obtain ⟨c0, c1, cf⟩ := tab_cells h
  have f0 := cf 0
  have f1 := cf 1
  have hpl := row_lt h
  have hps : p ≠ w.heap.size := by omega
  have hsp : w.heap.size ≠ p := by omega
  cases mo with
  | none =>
    have hmk := @run_makeMap Try.prog
    have hE := (own_fresh (w := w) (o := .map #[] 0) h (N := N) (K := K) ⟨.map [], (World.ownsMap_made w Try.prog 9 rawElem).mono (Nat.zero_le _), fun x => ⟨by rw [hm x]; rfl, fun m hx => by rw [hm x] at hx; cases hx⟩⟩)
    rw [World.setCell_alloc_past (w := w) (.map #[] 0) p 0 (.map (some w.heap.size)) hpl, World.setCell_alloc_past (w := w.setCell ⟨p, 0, none⟩ (.map (some w.heap.size))) (.map #[] 0) p 1 (.bool false) (by simpa [World.setCell] using hpl)] at hE
    have HE := Lib.hid hE
    clear h hm cf hE
    go_enter Try.func27, Try.ntmps27
    go_wp2
    go_end0
    exact HE.out
  | some b =>
    cases sh with
    | false =>
      have h2 : (w.setCell ⟨p, 1, none⟩ (.bool false)).heap[p]? = some (tabObj (some b) false) := (heap_setCell_same w p 1 _ _ _ h).trans rfl
      have HE : Hid (OwnPost w p (some b) false N K (.returned (.tuple #[])) (w.setCell ⟨p, 1, none⟩ (.bool false))) := Lib.hid ⟨rfl, b, h2, hm.bare (tab_nostr h) (fun e => tab_ne_map h hm (by cases e; rfl)) (grown_setT w p 1 _), .inr ⟨rfl, rfl⟩, grown_setT w p 1 _⟩
      clear h hm cf h2
      go_enter Try.func27, Try.ntmps27
      go_wp2
      go_end0
      exact HE.out
    | true =>
      obtain ⟨D, ⟨es, ck, hb, hrest⟩, hR⟩ := hm
      have hcl : Calls Try.prog 45 #[.map (some b)] w fun e w' => e = .returned (.map (some w.heap.size)) ∧ w' = w.alloc (.map es ck) := AnyW.maps_Clone Try.cloneM b es ck w hb
      have HCL := Lib.hid hcl
      have hE := (own_fresh (w := w) (o := .map es ck) h (N := N) (K := K) ⟨D, ⟨es, ck, heap_alloc_new w _, hrest⟩, hR.over ((Below.refl _ _).alloc (Nat.le_refl _) _)⟩)
      rw [World.setCell_alloc_past (w := w) (.map es ck) p 0 (.map (some w.heap.size)) hpl, World.setCell_alloc_past (w := w.setCell ⟨p, 0, none⟩ (.map (some w.heap.size))) (.map es ck) p 1 (.bool false) (by simpa [World.setCell] using hpl)] at hE
      have HE := Lib.hid hE
      clear h cf hb hrest hR hcl hE
      go_enter Try.func27, Try.ntmps27
      go_wp2_with (go_at_call 45; (with_reducible refine HCL.out.mono ?_); rintro e w1 ⟨rfl, rfl⟩)
      go_end0
      exact HE.out

end Go.Proofs.Ytmghocfkekggaaa
