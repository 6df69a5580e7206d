/-
  The small functions of a node and of a rope, that only read.
-/
import Derived.Test.YtfjdfdpelilelaaDoorMem
namespace Go.Proofs.YtfjdfdpelilelaaDoor
open Go.RowKit

def isLeafB : T → Bool
  | .leaf _ => true
  | .node _ _ => false

/-- What the cells of a leaf and of a branch hold. -/
theorem Inv.leafCells {B : Nat} {L : List Nat} {M : Mp} {w : World} (h : Inv B L M w) {b : Nat} {s : ByteArray} (hb : M b = some (.leaf s)) :
    w.cell? ⟨b, 0, none⟩ = some (.pointer none) ∧ w.cell? ⟨b, 2, none⟩ = some (.string s) ∧ w.cell? ⟨b, 3, none⟩ = some (.int .i64 (s.size : Int)) ∧ w.cell? ⟨b, 4, none⟩ = some (.int .i64 1) := by
  obtain ⟨lp, rp, ⟨rfl, rfl⟩, c0, _, c2, c3, c4⟩ := h.cells hb
  exact ⟨c0, c2, c3, c4⟩

theorem Inv.nodeCells {B : Nat} {L : List Nat} {M : Mp} {w : World} (h : Inv B L M w) {b : Nat} {l r : T} (hb : M b = some (.node l r)) :
    ∃ bl br, M bl = some l ∧ M br = some r ∧ w.cell? ⟨b, 0, none⟩ = some (.pointer (some ⟨bl, 0, none⟩)) ∧ w.cell? ⟨b, 1, none⟩ = some (.pointer (some ⟨br, 0, none⟩)) ∧ w.cell? ⟨b, 3, none⟩ = some (.int .i64 ((T.node l r).size : Int)) ∧ w.cell? ⟨b, 4, none⟩ = some (.int .i64 ((T.node l r).depth : Int)) := by
  obtain ⟨lp, rp, ⟨bl, br, rfl, rfl, hl, hr⟩, c0, c1, _, c3, c4⟩ := h.cells hb
  exact ⟨bl, br, hl, hr, c0, c1, c3, c4⟩

theorem isLeaf_any {B : Nat} {L : List Nat} {M : Mp} {w : World} (h : Inv B L M w) {b : Nat} {t : T} (hb : M b = some t) :
    Calls Tryd.prog 90 #[.pointer (some ⟨b, 0, none⟩)] w fun e w' => e = .returned (.bool (isLeafB t)) ∧ w = w' := by
  cases t with
  | leaf s =>
    obtain ⟨c0, _⟩ := h.leafCells hb
    clear h hb
    go_enter Tryd.func90, Tryd.ntmps90
    go_wp2
    go_ret
    exact ⟨rfl, rfl⟩
  | node l r =>
    obtain ⟨bl, br, _, _, c0, _⟩ := h.nodeCells hb
    clear h hb
    go_enter Tryd.func90, Tryd.ntmps90
    go_wp2
    go_ret
    exact ⟨rfl, rfl⟩

theorem length_any {B : Nat} {L : List Nat} {M : Mp} {w : World} (h : Inv B L M w) {p : Option Addr} {o : Option T} (hp : PT M p o) :
    Calls Tryd.prog 66 #[.pointer p] w fun e w' => e = .returned (.int .i64 (osize o : Int)) ∧ w = w' := by
  rcases hp with ⟨rfl, rfl⟩ | ⟨b, t, rfl, rfl, hb⟩
  · clear h
    go_enter Tryd.func66, Tryd.ntmps66
    go_wp2
    go_ret
    exact ⟨rfl, rfl⟩
  · obtain ⟨_, _, _, _, _, _, c3, _⟩ := h.cells hb
    clear h hb
    go_enter Tryd.func66, Tryd.ntmps66
    go_wp2
    go_ret
    exact ⟨rfl, rfl⟩

/-- A rope in memory: a cell that is no node, with a pointer to the tree's root; a nil rope is an empty one. -/
def RP (M : Mp) (w : World) (r : Option Addr) (o : Option T) : Prop :=
  (r = none ∧ o = none) ∨ ∃ b p, r = some ⟨b, 0, none⟩ ∧ M b = none ∧ w.heap[b]? = some (.cells #[.pointer p] 92 (0, 0)) ∧ PT M p o

theorem RP.step {B : Nat} {M M' : Mp} {w w' : World} (h0 : Inv B [] M w) (s : St B M w M' w') {r : Option Addr} {o : Option T} (h : RP M w r o) : RP M' w' r o := by
  rcases h with h | ⟨b, p, rfl, hn, hh, hp⟩
  · exact .inl h
  · have hl := lt_of_heap hh
    exact .inr ⟨b, p, rfl, (s.ext b hl).trans hn, (s.fr.block b hl hn).trans hh, s.pt h0 hp⟩

theorem top_any {M : Mp} {w : World} {r : Option Addr} {o : Option T} (h : RP M w r o) :
    Calls Tryd.prog 63 #[.pointer r] w fun e w' => (∃ p, e = .returned (.pointer p) ∧ PT M p o) ∧ w = w' := by
  rcases h with ⟨rfl, rfl⟩ | ⟨b, p, rfl, hn, hh, hp⟩
  · go_enter Tryd.func63, Tryd.ntmps63
    go_wp2
    go_ret
    exact ⟨⟨none, rfl, .inl ⟨rfl, rfl⟩⟩, rfl⟩
  · have c0 : w.cell? ⟨b, 0, none⟩ = some (.pointer p) := by rw [Lib.cell_of_heap hh]; rfl
    clear hh hn
    have hp := Lib.hid hp
    go_enter Tryd.func63, Tryd.ntmps63
    go_wp2
    go_ret
    exact ⟨⟨p, rfl, hp.out⟩, rfl⟩

theorem len_any {B : Nat} {L : List Nat} {M : Mp} {w : World} (h : Inv B L M w) {r : Option Addr} {o : Option T} (hr : RP M w r o) :
    Calls Tryd.prog 45 #[.pointer r] w fun e w' => e = .returned (.int .i64 (osize o : Int)) ∧ w = w' := by
  have H := Lib.hid h
  have HR := Lib.hid hr
  clear h hr
  go_enter Tryd.func45, Tryd.ntmps45
  go_wp2_with fail
  refine (top_any HR.out).mono ?_
  rintro e w' ⟨⟨p, rfl, hp⟩, rfl⟩
  have HP := Lib.hid hp
  clear hp
  go_wp2_with fail
  refine (length_any H.out HP.out).mono ?_
  rintro e w' ⟨rfl, rfl⟩
  go_wp2
  go_ret
  exact ⟨rfl, rfl⟩

end Go.Proofs.YtfjdfdpelilelaaDoor
