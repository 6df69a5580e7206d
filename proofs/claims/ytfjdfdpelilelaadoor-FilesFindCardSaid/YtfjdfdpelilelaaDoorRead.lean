/-
  What a rope tells of its lines: Lines, Line, Start; spans; New.
-/
import Derived.Test.YtfjdfdpelilelaaDoorGrow
import Derived.BigQuiet
import Derived.Deep.QuietTactic
namespace Go.Proofs.YtfjdfdpelilelaaDoor
open Go.RowKit

/-- How many line breaks a rope has. -/
def onl (o : Option T) : Nat := (otext o).count 10

theorem onl_le {B : Nat} {L : List Nat} {M : Mp} {w : World} (h : Inv B L M w) {p : Option Addr} {o : Option T} (hp : PT M p o) : onl o ≤ osize o ∧ osize o ≤ lim := by
  rcases hp with ⟨_, rfl⟩ | ⟨b, t, _, rfl, hb⟩
  · exact ⟨Nat.le_refl _, Nat.zero_le _⟩
  · exact ⟨T.nl_le t, (h.full b t hb).2⟩

theorem RP.le {B : Nat} {L : List Nat} {M : Mp} {w : World} (h : Inv B L M w) {r : Option Addr} {o : Option T} (hr : RP M w r o) : onl o ≤ osize o ∧ osize o ≤ lim := by
  rcases hr with ⟨_, rfl⟩ | ⟨b, p, _, _, _, hp⟩
  · exact ⟨Nat.le_refl _, Nat.zero_le _⟩
  · exact onl_le h hp

/-- Is it 0 <= from <= to <= Len? -/
def spansB (o : Option T) (i j : Int) : Bool := decide (0 ≤ i ∧ i ≤ j ∧ j ≤ osize o)

theorem spansB_yes {o : Option T} {i j : Int} (h : 0 ≤ i ∧ i ≤ j ∧ j ≤ osize o) : spansB o i j = true := decide_eq_true h
theorem spansB_no {o : Option T} {i j : Int} (h : ¬ (0 ≤ i ∧ i ≤ j ∧ j ≤ osize o)) : spansB o i j = false := decide_eq_false h

theorem spans_any {B : Nat} {L : List Nat} {M : Mp} {w : World} (h : Inv B L M w) {r : Option Addr} {o : Option T} (hr : RP M w r o) (i j : Int) (x : Bool) (hx : spansB o i j = x) :
    Calls Tryd.prog 59 #[.pointer r, .int .i64 i, .int .i64 j] w fun e w' => e = .returned (.bool x) ∧ w = w' := by
  have hle := hr.le h
  unfold lim at hle
  obtain ⟨_, h2⟩ := hle
  have H := Lib.hid h
  have HR := Lib.hid hr
  have HX := Lib.hid hx
  clear h hr hx
  by_cases c1 : 0 ≤ i
  · by_cases c2 : i ≤ j
    · have hz : decide (j ≤ (osize o : Int)) = x := by
        rw [← HX.out]
        unfold spansB
        exact decide_eq_decide.2 ⟨fun h => ⟨c1, c2, h⟩, fun h => h.2.2⟩
      have HZ := Lib.hid hz
      clear hz
      go_enter Tryd.func59, Tryd.ntmps59
      go_wp2_with (go_at_call 45; refine (len_any H.out HR.out).mono ?_; rintro e w' ⟨rfl, rfl⟩)
      go_ret
      exact ⟨by rw [← HZ.out]; rfl, rfl⟩
    · have hz : false = x := by rw [← HX.out]; exact (spansB_no (by omega)).symm
      subst hz
      go_enter Tryd.func59, Tryd.ntmps59
      go_wp2
      go_ret
      exact ⟨rfl, rfl⟩
  · have hz : false = x := by rw [← HX.out]; exact (spansB_no (by omega)).symm
    subst hz
    go_enter Tryd.func59, Tryd.ntmps59
    go_wp2
    go_ret
    exact ⟨rfl, rfl⟩

end Go.Proofs.YtfjdfdpelilelaaDoor
