/-
  piece, Text, Slice: the bytes of a rope as a text.
-/
import Derived.Test.YtfjdfdpelilelaaDoorWrite
namespace Go.Proofs.YtfjdfdpelilelaaDoor
open Go.RowKit

theorem write_all {B : Nat} {M : Mp} {c : Nat} (hcm : ∀ b t, M b = some t → b < c) : ∀ n, WBelow B M c n := by
  intro n
  induction n with
  | zero => intro t b w l i j hn; omega
  | succ n ih =>
  intro t b w l i j hn h hb hl hc hij hj hlen
  cases t with
  | leaf s => exact write_leaf h hb hl hc i j hij hj hlen
  | node x y => exact write_node hcm h hb (fun u b' w' l' i' j' hu => ih u b' w' l' i' j' (by omega)) hl hc i j hij hj hlen

theorem write_any {B : Nat} {M : Mp} {c : Nat} (hcm : ∀ b t, M b = some t → b < c) {w : World} (h : Inv B [] M w) {p : Option Addr} {o : Option T} (hp : PT M p o) (hl : Holds c [] w) (hc : c ≤ w.heap.size) (i j : Nat) (hij : i ≤ j) (hj : j ≤ osize o) :
    Calls Tryd.prog 64 #[.pointer p, .pointer (some ⟨c, 0, none⟩), .int .i64 (i : Int), .int .i64 (j : Int)] w (Wrote w c (seg (otext o) i j)) := by
  have hle := (onl_le h hp).2
  unfold lim at hle
  rcases hp with ⟨rfl, rfl⟩ | ⟨b, t, rfl, rfl, hb⟩
  · have e : seg (otext none) i j = [] := by simp [seg, otext]
    rw [e]
    have HL := Lib.hid hl
    clear h hl hcm
    go_enter Tryd.func64, Tryd.ntmps64
    go_wp2
    first | go_end0 | refine bodyPost_ret (results_none rfl _ _ _) rfl ?_
    exact ⟨rfl, HL.out, Below.refl _ _⟩
  · refine (write_all hcm (t.nn + 1) t b w [] i j (by omega) h hb hl hc hij hj (by simp only [List.length_nil]; omega)).mono ?_
    intro e w' hw
    rw [List.nil_append] at hw
    exact hw

set_option maxHeartbeats 800000 in
theorem piece_any {B : Nat} {M : Mp} {w : World} (h : Inv B [] M w) {r : Option Addr} {o : Option T} (hr : RP M w r o) (i j : Nat) (hij : i ≤ j) (hj : j ≤ osize o) :
    Calls Tryd.prog 44 #[.pointer r, .int .i64 (i : Int), .int .i64 (j : Int)] w fun e w' => e = .returned (.string ⟨(seg (otext o) i j).toArray⟩) ∧ St B M w M w' := by
  have hle := (hr.le h).2
  unfold lim at hle
  have bel0 : Below w.heap.size w (w.alloc (.cells #[.pointer none, .slice none 0 0] 110)) := (Below.refl _ w).alloc (Nat.le_refl _) _
  have hbk := heap_alloc_new w (.cells #[.pointer none, .slice none 0 0] 110)
  have hsz : w.heap.size ≤ (w.alloc (.cells #[.pointer none, .slice none 0 0] 110)).heap.size := by simp
  have hcm : ∀ b t, M b = some t → b < w.heap.size := fun b t hb => h.lt hb
  have H := Lib.hid h
  have HR := Lib.hid hr
  have B0 := Lib.hid bel0
  have HBK := Lib.hid hbk
  have HSZ := Lib.hid hsz
  have HCM := Lib.hid hcm
  clear h hr bel0 hbk hsz hcm
  go_enter Tryd.func44, Tryd.ntmps44
  go_wp2_with fail
  rw [show (j : Int) - (i : Int) = ((j - i : Nat) : Int) from by omega]
  refine (Tryd.Builder_Grow_fresh w.heap.size w.heap.size (j - i) _ (Nat.le_refl _) HBK.out HSZ.out (by omega)).mono ?_
  rintro e w1 ⟨rfl, hb1, bel1⟩
  have HB1 : Hid (Holds w.heap.size [] w1) := Lib.hid (show Holds w.heap.size [] w1 from .inr hb1)
  have B1 := Lib.hid (B0.out.trans bel1)
  clear hb1 bel1
  have HR1 := Lib.hid (HR.out.step H.out (St.below H.out B1.out))
  go_wp2_with fail
  refine (top_any HR1.out).mono ?_
  rintro e w' ⟨⟨p, rfl, hp⟩, rfl⟩
  have HP := Lib.hid hp
  clear hp
  go_wp2_with fail
  refine (write_any HCM.out (H.out.below B1.out) HP.out HB1.out B1.out.size i j hij hj).mono ?_
  rintro e w2 ⟨rfl, hh, bel2⟩
  have HH := Lib.hid hh
  have B2 := Lib.hid (B1.out.trans bel2)
  clear hh bel2
  go_wp2_with fail
  refine (Tryd.Builder_String_any w.heap.size w.heap.size (seg (otext o) i j) _ HH.out B2.out.size).mono ?_
  rintro e w3 ⟨rfl, bel3⟩
  have B3 := Lib.hid (B2.out.trans bel3)
  clear bel3
  go_wp2_with fail
  go_ret
  exact ⟨rfl, St.below H.out B3.out⟩

theorem seg_all (o : Option T) : seg (otext o) 0 (osize o) = otext o := by
  unfold seg
  rw [List.drop_zero, Nat.sub_zero, osize_eq, List.take_length]

theorem text_any {B : Nat} {M : Mp} {w : World} (h : Inv B [] M w) {r : Option Addr} {o : Option T} (hr : RP M w r o) :
    Calls Tryd.prog 23 #[.pointer r] w fun e w' => e = .returned (.string ⟨(otext o).toArray⟩) ∧ St B M w M w' := by
  have H := Lib.hid h
  have HR := Lib.hid hr
  clear h hr
  go_enter Tryd.func23, Tryd.ntmps23
  go_wp2_with fail
  refine (len_any H.out HR.out).mono ?_
  rintro e w' ⟨rfl, rfl⟩
  go_wp2_with fail
  refine (piece_any H.out HR.out 0 (osize o) (Nat.zero_le _) (Nat.le_refl _)).mono ?_
  rintro e w1 ⟨rfl, s1⟩
  rw [seg_all]
  have S1 := Lib.hid s1
  clear s1
  go_wp2_with fail
  go_ret
  exact ⟨rfl, S1.out⟩

end Go.Proofs.YtfjdfdpelilelaaDoor
