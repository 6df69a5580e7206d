/-
  New: a rope of a text.
-/
import Derived.Test.YtfjdfdpelilelaaDoorRead
namespace Go.Proofs.YtfjdfdpelilelaaDoor
open Go.RowKit

/-- A rope has been made: not nil, of a tree as P says. -/
def RopeMade (B : Nat) (M : Mp) (w : World) (P : Option T → Prop) (e : Ending) (w' : World) : Prop :=
  ∃ M' b o, e = .returned (.tuple #[.pointer (some ⟨b, 0, none⟩), .int .i64 0]) ∧ RP M' w' (some ⟨b, 0, none⟩) o ∧ P o ∧ St B M w M' w'

theorem rope_box {B : Nat} {M M1 : Mp} {w w1 : World} (s : St B M w M1 w1) {p : Option Addr} {o : Option T} (hp : PT M1 p o) :
    RP M1 (w1.alloc (.cells #[.pointer p] 92)) (some ⟨w1.heap.size, 0, none⟩) o ∧ St B M w M1 (w1.alloc (.cells #[.pointer p] 92)) := by
  have bel : Below w1.heap.size w1 (w1.alloc (.cells #[.pointer p] 92)) := (Below.refl _ w1).alloc (Nat.le_refl _) _
  exact ⟨.inr ⟨w1.heap.size, p, rfl, s.inv.gone (Nat.le_refl _), heap_alloc_new w1 _, hp⟩, s.trans (St.below s.inv bel)⟩

theorem new_any {B : Nat} {M : Mp} {w : World} (h : Inv B [] M w) (s : ByteArray) (hs : s.size ≤ 65536) :
    Calls Tryd.prog 28 #[.string s] w (RopeMade B M w (GrownT s)) := by
  have H := Lib.hid h
  clear h
  go_enter Tryd.func28, Tryd.ntmps28
  go_wp2_with (go_at_call 51; refine (grow_any s.size s rfl (by unfold lim; omega) M _ H.out).mono ?_; rintro e w1 ⟨o, g, M1, p, rfl, hp, s1⟩; have G := Lib.hid g; have HP := Lib.hid hp; have S1 := Lib.hid s1; clear g hp s1)
  have hfin := rope_box S1.out HP.out
  have HF := Lib.hid hfin
  clear hfin
  go_ret2
  exact ⟨M1, _, o, rfl, HF.out.1, G.out, HF.out.2⟩

theorem new_no (s : ByteArray) (w : World) (hs : 65536 < s.size) (hs2 : s.size ≤ 1000000) :
    Calls Tryd.prog 28 #[.string s] w fun e w' => e = .returned (.tuple #[.pointer none, .int .i64 4]) ∧ w = w' := by
  go_enter Tryd.func28, Tryd.ntmps28
  go_wp2
  go_ret2
  exact ⟨rfl, rfl⟩

end Go.Proofs.YtfjdfdpelilelaaDoor
