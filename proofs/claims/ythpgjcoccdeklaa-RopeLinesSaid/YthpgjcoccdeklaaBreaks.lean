/-
  lineBreaks: how many line breaks a tree has, counted once a node.
-/
import Derived.Test.YthpgjcoccdeklaaOnce
import Derived.Test.YthpgjcoccdeklaaShelf
import Derived.Deep.RegionHeld3
import Derived.Deep.RegionWith
namespace Go.Proofs.Ythpgjcoccdeklaa
open Go.RowKit

theorem heap_set {w : World} {b j : Nat} {cs : Array Value} {T : TypeId} {fr : Nat × Nat} (h : w.heap[b]? = some (.cells cs T fr)) (v : Value) : (w.setCell ⟨b, j, none⟩ v).heap[b]? = some (.cells (cs.setIfInBounds j v) T fr) := by
  simp [World.setCell, Array.getElem?_modify, h]

theorem heap_set_size (w : World) (a : Addr) (v : Value) : (w.setCell a v).heap.size = w.heap.size := by simp [World.setCell]

theorem set5 (lp rp : Option Addr) (t : T) (d st q br d' : Int) : nodeObj lp rp t d' st q br = .cells ((#[Value.pointer lp, .pointer rp, .string t.str, .int .i64 (t.size : Int), .int .i64 (t.depth : Int), .int .u32 d, .int .i32 st, .int .u32 q, .int .i64 br]).setIfInBounds 5 (.int .u32 d')) 74 (0, 0) := rfl
theorem set6 (lp rp : Option Addr) (t : T) (d st q br st' : Int) : nodeObj lp rp t d st' q br = .cells ((#[Value.pointer lp, .pointer rp, .string t.str, .int .i64 (t.size : Int), .int .i64 (t.depth : Int), .int .u32 d, .int .i32 st, .int .u32 q, .int .i64 br]).setIfInBounds 6 (.int .i32 st')) 74 (0, 0) := rfl
theorem set8 (lp rp : Option Addr) (t : T) (d st q br br' : Int) : nodeObj lp rp t d st q br' = .cells ((#[Value.pointer lp, .pointer rp, .string t.str, .int .i64 (t.size : Int), .int .i64 (t.depth : Int), .int .u32 d, .int .i32 st, .int .u32 q, .int .i64 br]).setIfInBounds 8 (.int .i64 br')) 74 (0, 0) := rfl

theorem node_set5 {w : World} {b : Nat} {lp rp : Option Addr} {t : T} {d st q br : Int} (h : w.heap[b]? = some (nodeObj lp rp t d st q br)) (d' : Int) : (w.setCell ⟨b, 5, none⟩ (.int .u32 d')).heap[b]? = some (nodeObj lp rp t d' st q br) := heap_set h _
theorem node_set6 {w : World} {b : Nat} {lp rp : Option Addr} {t : T} {d st q br : Int} (h : w.heap[b]? = some (nodeObj lp rp t d st q br)) (st' : Int) : (w.setCell ⟨b, 6, none⟩ (.int .i32 st')).heap[b]? = some (nodeObj lp rp t d st' q br) := heap_set h _
theorem node_set8 {w : World} {b : Nat} {lp rp : Option Addr} {t : T} {d st q br : Int} (h : w.heap[b]? = some (nodeObj lp rp t d st q br)) (br' : Int) : (w.setCell ⟨b, 8, none⟩ (.int .i64 br')).heap[b]? = some (nodeObj lp rp t d st q br') := heap_set h _

theorem node_cells {w : World} {b : Nat} {lp rp : Option Addr} {t : T} {d st q br : Int} (h : w.heap[b]? = some (nodeObj lp rp t d st q br)) :
    w.cell? ⟨b, 0, none⟩ = some (.pointer lp) ∧ w.cell? ⟨b, 1, none⟩ = some (.pointer rp) ∧ w.cell? ⟨b, 2, none⟩ = some (.string t.str) ∧ w.cell? ⟨b, 5, none⟩ = some (.int .u32 d) ∧ w.cell? ⟨b, 6, none⟩ = some (.int .i32 st) ∧ w.cell? ⟨b, 8, none⟩ = some (.int .i64 br) := by
  unfold nodeObj at h
  refine ⟨?_, ?_, ?_, ?_, ?_, ?_⟩ <;> (rw [Lib.cell_of_heap h]; rfl)

theorem node_free {w : World} {b : Nat} {lp rp : Option Addr} {t : T} {d st q br : Int} (h : w.heap[b]? = some (nodeObj lp rp t d st q br)) (j : Nat) : w.frozen? ⟨b, j, none⟩ = false := Lib.frozen_of_heap h j

theorem Inv.upper {B : Nat} {L : List Nat} {M : Mp} {w : World} (h : Inv B L M w) {b : Nat} {t : T} (hb : M b = some t) : ∃ br, w.cell? ⟨b, 8, none⟩ = some (.int .i64 br) ∧ w.frozen? ⟨b, 8, none⟩ = false := by
  obtain ⟨lp, rp, d, st, q, br, hh, _⟩ := h.node b t hb
  exact ⟨br, (node_cells hh).2.2.2.2.2, node_free hh 8⟩

/-- A store into a node's upper cells. -/
theorem Fr.setUpper {M : Mp} {w : World} {b : Nat} {t : T} (hb : M b = some t) {j : Nat} (hj : 5 ≤ j) (v : Value) : Fr M w (w.setCell ⟨b, j, none⟩ v) :=
  ⟨rfl, rfl, rfl, Nat.le_of_eq (heap_set_size w _ v).symm, fun k _ hn => Below.heap_setCell _ _ _ _ (fun e => by
      have e' : k = b := e
      rw [e', hb] at hn; cases hn),
    fun k i _ hi => World.cell?_setCell_other _ _ _ _ (fun e => by
      have := congrArg Addr.off e
      simp at this
      omega)⟩

theorem Fr.of_drew {M : Mp} {w w' : World} (s : Fr M w.drew w') : Fr M w w' := ⟨s.os, s.tape, s.output, s.size, s.block, s.low⟩
theorem Fr.drew {M : Mp} {w w' : World} (s : Fr M w w') : Fr M w w'.drew := ⟨s.os, s.tape, s.output, s.size, s.block, s.low⟩

/-- Behind the closure: the node has its count, and nothing else of it has turned. -/
def Counted (B : Nat) (L : List Nat) (M : Mp) (w : World) (b : Nat) (t : T) (w2 : World) : Prop :=
  Inv B (b :: L) M w2 ∧ Fr M w w2 ∧ ∃ lp rp q, w2.heap[b]? = some (nodeObj lp rp t 0 1 q (t.nl : Int)) ∧ kids M t lp rp

/-- What lineBreaks leaves. -/
def LB (B : Nat) (L : List Nat) (M : Mp) (w : World) (t : T) (e : Ending) (w' : World) : Prop :=
  e = .returned (.int .i64 (t.nl : Int)) ∧ Inv B L M w' ∧ Fr M w w'

/-- The contract, for trees of fewer nodes than n. -/
def LBelow (B : Nat) (M : Mp) (n : Nat) : Prop :=
  ∀ (t : T) (L : List Nat) (w : World) (b : Nat), t.nn < n → Inv B L M w → M b = some t → (∀ k ∈ L, ∃ u, M k = some u ∧ t.nn < u.nn) →
    Calls Try.prog 27 #[.pointer (some ⟨b, 0, none⟩)] w (LB B L M w t)

theorem closed_fin {B : Nat} {L : List Nat} {M : Mp} {w w1 : World} {b : Nat} {t : T} (hb : M b = some t) (h1 : Inv B (b :: L) M w1) (f : Fr M w w1) :
    ClosurePost b (Counted B L M w b t) (.returned (.tuple #[])) (w1.setCell ⟨b, 8, none⟩ (.int .i64 (t.nl : Int))) := by
  obtain ⟨lp, rp, d, st, q, br, hh, hk, hin, _⟩ := h1.node b t hb
  obtain ⟨rfl, rfl⟩ := hin (List.mem_cons_self ..)
  have hn := node_set8 hh (t.nl : Int)
  obtain ⟨_, _, _, c5, c6, _⟩ := node_cells hn
  refine ⟨rfl, c5, c6, node_free hn 5, node_free hn 6, ?_, ?_, lp, rp, q, hn, hk⟩
  · exact h1.turn hb (heap_set_size _ _ _) (fun k hk' => Below.heap_setCell _ _ _ _ hk') hn hk (fun _ _ => Iff.rfl) (fun _ => ⟨rfl, rfl⟩) (fun x => absurd (List.mem_cons_self ..) x)
  · exact f.trans (Fr.setUpper hb (by omega) _) (fun _ _ => rfl)

set_option maxHeartbeats 1600000 in
theorem closure_leaf {B : Nat} {L : List Nat} {M : Mp} {w : World} {b p : Nat} {s : ByteArray} (h : Inv B (b :: L) M w) (hb : M b = some (.leaf s))
    (hp : w.heap[p]? = some (.cells #[.pointer (some ⟨b, 0, none⟩)] 43 (0, 0))) :
    Calls Try.prog 40 #[.pointer (some ⟨p, 0, none⟩)] w (ClosurePost b (Counted B L M w b (.leaf s))) := by
  obtain ⟨lp, rp, d, st, q, br, hh, hk, hin, _⟩ := h.node b _ hb
  obtain ⟨rfl, rfl⟩ := hin (List.mem_cons_self ..)
  obtain ⟨_, _, c2, _, _, c8⟩ := node_cells hh
  have z8 := node_free hh 8
  have cp : w.cell? ⟨p, 0, none⟩ = some (.pointer (some ⟨b, 0, none⟩)) := by rw [Lib.cell_of_heap hp]; rfl
  have H := Lib.hid h
  have HB := Lib.hid hb
  have hfin := closed_fin (L := L) (w := w) hb h.drew (Fr.refl M w).drew
  have HF := Lib.hid hfin
  clear h hb hp hh hk hin hfin
  simp only [T.str] at c2
  go_enter Try.func40, Try.ntmps40
  go_wp2_with (go_at_call 36; refine (isLeaf_any H.out HB.out).mono ?_; simp only [isLeafB]; rintro e w' ⟨rfl, rfl⟩)
  go_region_with (go_at_call 37; refine (Try.strings_Count_one s 10 _).mono ?_; rintro e w' ⟨rfl, rfl⟩)
  all_goals (go_end0; exact HF.out)

set_option maxHeartbeats 1600000 in
theorem closure_node {B : Nat} {L : List Nat} {M : Mp} {w : World} {b p : Nat} {l r : T} (hlow : LBelow B M (T.node l r).nn) (hL : ∀ k ∈ L, ∃ u, M k = some u ∧ (T.node l r).nn < u.nn)
    (h : Inv B (b :: L) M w) (hb : M b = some (.node l r)) (hpn : M p = none)
    (hp : w.heap[p]? = some (.cells #[.pointer (some ⟨b, 0, none⟩)] 43 (0, 0))) :
    Calls Try.prog 40 #[.pointer (some ⟨p, 0, none⟩)] w (ClosurePost b (Counted B L M w b (.node l r))) := by
  obtain ⟨lp, rp, d, st, q, br, hh, hk, hin, _⟩ := h.node b _ hb
  obtain ⟨bl, br', rfl, rfl, ml, mr⟩ := hk
  obtain ⟨c0, c1, _, _, _, c8⟩ := node_cells hh
  have z8 := node_free hh 8
  have hpl := lt_of_heap hp
  have hbl := lt_of_heap hh
  have cp : w.cell? ⟨p, 0, none⟩ = some (.pointer (some ⟨b, 0, none⟩)) := by rw [Lib.cell_of_heap hp]; rfl
  have fl := (h.full b _ hb).2
  have nl1 := T.nl_le l
  have nl2 := T.nl_le r
  simp only [T.size] at fl
  unfold lim at fl
  have hL1 : ∀ k ∈ b :: L, ∃ u, M k = some u ∧ l.nn < u.nn := fun k hk => by
    rcases List.mem_cons.1 hk with rfl | hk
    · exact ⟨_, hb, by simp only [T.nn]; omega⟩
    · obtain ⟨u, h1, h2⟩ := hL k hk
      exact ⟨u, h1, by simp only [T.nn] at h2; omega⟩
  have hL2 : ∀ k ∈ b :: L, ∃ u, M k = some u ∧ r.nn < u.nn := fun k hk => by
    rcases List.mem_cons.1 hk with rfl | hk
    · exact ⟨_, hb, by simp only [T.nn]; omega⟩
    · obtain ⟨u, h1, h2⟩ := hL k hk
      exact ⟨u, h1, by simp only [T.nn] at h2; omega⟩
  have hne : (⟨b, 8, none⟩ : Addr) ≠ ⟨p, 0, none⟩ := fun e => by simp at e
  have H := Lib.hid h
  have HB := Lib.hid hb
  have IH := Lib.hid hlow
  have K1 := Lib.hid hL1
  have K2 := Lib.hid hL2
  have ML := Lib.hid ml
  have MR := Lib.hid mr
  have PN := Lib.hid hpn
  clear h hb hp hh hin hlow hL hL1 hL2 ml mr hpn c8 z8
  go_enter Try.func40, Try.ntmps40
  go_wp2_with (go_at_call 36; refine (isLeaf_any H.out HB.out).mono ?_; simp only [isLeafB]; rintro e w' ⟨rfl, rfl⟩)
  go_region_held3 (fun w' => w'.cell? ⟨p, 0, none⟩ = some (.pointer (some ⟨b, 0, none⟩)) ∧ w'.cell? ⟨b, 0, none⟩ = some (.pointer (some ⟨bl, 0, none⟩)) ∧ w'.cell? ⟨b, 1, none⟩ = some (.pointer (some ⟨br', 0, none⟩)))
    (first | go_keep | exact ⟨(World.cell?_setCell_other _ ⟨b, 8, none⟩ ⟨p, 0, none⟩ _ hne).trans e0, (World.cell?_setCell_other _ ⟨b, 8, none⟩ ⟨b, 0, none⟩ _ (by simp)).trans e1, (World.cell?_setCell_other _ ⟨b, 8, none⟩ ⟨b, 1, none⟩ _ (by simp)).trans e2⟩)
    (first
      | (go_at_call_of 27 (Value.pointer (some ⟨bl, 0, none⟩)); refine (IH.out l (b :: L) _ bl (by simp only [T.nn]; omega) ?_ ML.out K1.out).mono ?_; exact H.out.drew; rintro e w1 ⟨rfl, i1, f1⟩; have I1 := Lib.hid i1; have F1 := Lib.hid f1.of_drew; have d0 := (F1.out.cell hpl PN.out).trans cp; have d1 := (F1.out.low b 0 hbl (by omega)).trans c0; have d2 := (F1.out.low b 1 hbl (by omega)).trans c1; clear i1 f1)
      | (go_at_call_of 27 (Value.pointer (some ⟨br', 0, none⟩)); refine (IH.out r (b :: L) _ br' (by simp only [T.nn]; omega) ?_ MR.out K2.out).mono ?_; exact I1.out; rintro e w2 ⟨rfl, i2, f2⟩; have I2 := Lib.hid i2; have F2 := Lib.hid (F1.out.trans f2 (fun _ _ => rfl)); have e0 := (F2.out.cell hpl PN.out).trans cp; have e1 := (F2.out.low b 0 hbl (by omega)).trans c0; have e2 := (F2.out.low b 1 hbl (by omega)).trans c1; obtain ⟨x8, e8, g8⟩ := i2.upper HB.out; clear i2 f2))
  all_goals go_wp2
  all_goals go_end0
  all_goals (have hs : ((T.node l r).nl : Int) = (l.nl : Int) + r.nl := by rw [T.nl_node]; omega)
  all_goals (have hw : IntKind.i64.wrap ((l.nl : Int) + r.nl) = (l.nl : Int) + r.nl := IntWalk.i64_in _ (by omega))
  all_goals (have hfin := closed_fin (L := L) (w := w) HB.out I2.out F2.out; rw [hs] at hfin; first | exact hfin | (rw [hw]; exact hfin))

end Go.Proofs.Ythpgjcoccdeklaa
