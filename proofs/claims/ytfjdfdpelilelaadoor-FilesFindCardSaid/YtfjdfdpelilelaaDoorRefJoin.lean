/-
  Join: a path from a directory.
-/
import Derived.Test.YtfjdfdpelilelaaDoorRefClean
namespace Go.Proofs.YtfjdfdpelilelaaDoor
open Go.RowKit

set_option maxHeartbeats 1600000 in
theorem refJoin_any (d p : ByteArray) (w : World) (hs : d.size + p.size ≤ 300000) :
    Calls Tryd.prog 36 #[.string d, .string p] w fun e w' => e = .returned (.tuple #[.string (cleanS (joinPath d.data.toList p.data.toList)), .int .i64 (cleanN (joinPath d.data.toList p.data.toList))]) ∧ Below w.heap.size w w' := by
  have hcat1 := catFits (a := d) (b := ⟨#[47]⟩) (by rw [size47]; omega)
  have hcat2 := catFits (a := d ++ ⟨#[47]⟩) (b := p) (by rw [ByteArray.size_append, size47]; omega)
  have hcl : ∀ q : ByteArray, q.size ≤ 400000 → q.data.toList = q.data.toList := fun _ _ => rfl
  obtain ⟨x, hx⟩ : ∃ x, joinPath d.data.toList p.data.toList = x := ⟨_, rfl⟩
  rw [hx]
  have hfar : ∀ (h : p.data.toList[0]? ≠ some 47), Calls Tryd.prog 56 #[.string (d ++ ⟨#[47]⟩ ++ p)] w fun e w' => e = .returned (.tuple #[.string (cleanS x), .int .i64 (cleanN x)]) ∧ Below w.heap.size w w' := by
    intro h
    have e : (d ++ ⟨#[47]⟩ ++ p).data.toList = d.data.toList ++ (47 :: p.data.toList) := by
      rw [cat_list, cat_list]
      simp
    have hc := clean_any (d ++ ⟨#[47]⟩ ++ p) w (by rw [ByteArray.size_append, ByteArray.size_append, size47]; omega)
    unfold joinPath at hx
    rw [if_neg h] at hx
    rw [e, hx] at hc
    exact hc
  have hnear : ∀ (h : p.data.toList[0]? = some 47), Calls Tryd.prog 56 #[.string p] w fun e w' => e = .returned (.tuple #[.string (cleanS x), .int .i64 (cleanN x)]) ∧ Below w.heap.size w w' := by
    intro h
    have hc := clean_any p w (by omega)
    unfold joinPath at hx
    rw [if_pos h] at hx
    rw [hx] at hc
    exact hc
  clear hx hcl
  by_cases h0 : p.size = 0
  · have HC := Lib.hid (hfar (by rw [List.getElem?_eq_none (by rw [psize]; omega)]; simp))
    clear hfar hnear
    go_enter Tryd.func36, Tryd.ntmps36
    go_wp2_with (go_at_call 56; refine HC.out.mono ?_; rintro e w2 ⟨rfl, hb2⟩)
    go_ret2
    exact ⟨rfl, hb2⟩
  · have hp : 0 < p.size := by omega
    have hat := at_toList p 0 hp
    by_cases hb : p[0]'hp = 47
    · have HC := Lib.hid (hnear (by rw [hat, hb]))
      have hb1 : ((((p[0]'hp).toNat : Int)) == 47) = true := by rw [hb]; rfl
      clear hfar hnear hat
      have HB := Lib.hid hb
      clear hb
      go_enter Tryd.func36, Tryd.ntmps36
      go_wp2_with (go_at_call 56; refine HC.out.mono ?_; rintro e w2 ⟨rfl, hb2⟩)
      go_ret2
      exact ⟨rfl, hb2⟩
    · have HC := Lib.hid (hfar (by rw [hat]; intro e; exact hb (Option.some.inj e)))
      have hb1 : ((((p[0]'hp).toNat : Int)) == 47) = false := by
        rw [beq_eq_false_iff_ne]
        intro e
        apply hb
        apply UInt8.toNat_inj.1
        have : (p[0]'hp).toNat = 47 := by omega
        rw [this]
        rfl
      clear hfar hnear hat
      have HB := Lib.hid hb
      clear hb
      go_enter Tryd.func36, Tryd.ntmps36
      go_wp2_with (go_at_call 56; refine HC.out.mono ?_; rintro e w2 ⟨rfl, hb2⟩)
      go_ret2
      exact ⟨rfl, hb2⟩

end Go.Proofs.YtfjdfdpelilelaaDoor
