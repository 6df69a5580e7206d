/-
  PathsKeep: the walk.
-/
import Derived.Test.YtikkfkchbdejkaaDoorPAwake
namespace Go.Proofs.YtikkfkchbdejkaaDoor
open Go.RowKit

theorem toArr (a : ByteArray) : (⟨a.data.toList.toArray⟩ : ByteArray) = a := by simp

theorem clean_to {s a : ByteArray} (hs : s.size ≤ 1000) (h : cleanL s.data.toList = some a.data.toList) (w : World) :
    Calls Tryd.prog 7 #[.string s] w fun e w' => e = .returned (.tuple #[.string a, .int .i64 0]) ∧ Below w.heap.size w w' := by
  have c := pClean_any s w hs
  rw [h] at c
  unfold cleanS cleanN at c
  simp only [toArr] at c
  exact c

theorem clean_not {s : ByteArray} (hs : s.size ≤ 1000) (h : cleanL s.data.toList = none) (w : World) :
    Calls Tryd.prog 7 #[.string s] w fun e w' => e = .returned (.tuple #[.string ⟨#[]⟩, .int .i64 1]) ∧ Below w.heap.size w w' := by
  have c := pClean_any s w hs
  rw [h] at c
  exact c

theorem join_to {d p a : ByteArray} (hs : d.size + p.size ≤ 1000) (h : joinPath d.data.toList p.data.toList = some a.data.toList) (w : World) :
    Calls Tryd.prog 9 #[.string d, .string p] w fun e w' => e = .returned (.tuple #[.string a, .int .i64 0]) ∧ Below w.heap.size w w' := by
  have c := pJoin_any d p w hs
  rw [h] at c
  unfold cleanS cleanN at c
  simp only [toArr] at c
  exact c

theorem join_not {d p : ByteArray} (hs : d.size + p.size ≤ 1000) (h : joinPath d.data.toList p.data.toList = none) (w : World) :
    Calls Tryd.prog 9 #[.string d, .string p] w fun e w' => e = .returned (.tuple #[.string ⟨#[]⟩, .int .i64 1]) ∧ Below w.heap.size w w' := by
  have c := pJoin_any d p w hs
  rw [h] at c
  exact c

theorem valid_to {s : ByteArray} {b : Bool} (hs : s.size ≤ 1000) (h : validB s.data.toList = b) (w : World) :
    Calls Tryd.prog 11 #[.string s] w fun e w' => e = .returned (.bool b) ∧ Below w.heap.size w w' := by
  have c := pValid_any s w hs
  rw [h] at c
  exact c

/-- A list of bytes as a text. -/
theorem as_text (l : List UInt8) : ∃ a : ByteArray, a.data.toList = l := ⟨⟨l.toArray⟩, rfl⟩

theorem valid_size {a : ByteArray} (h : validB a.data.toList = true) : a.size ≤ 80 := by
  have := validB_len h
  rw [bsize] at this
  exact this

theorem upsL_len (n : Nat) : (upsL n).length = 3 * n := by
  induction n with
  | zero => rfl
  | succ n ih => rw [upsL, List.length_append, ih]; simp; omega

def BackRel (W : World) (m : Nat) (b i : Value) (wr : World) : Prop :=
  ∃ (n : Nat) (T : ByteArray), b = .string T ∧ i = .int .i64 (n : Int) ∧ n ≤ m ∧ T.data.toList = upsL n ∧ Below W.heap.size W wr

set_option maxHeartbeats 3200000 in
theorem keep_none (d p : ByteArray) (w : World) (hd : d.size ≤ 100) (hp : p.size ≤ 100) (hx : cleanL p.data.toList = none) :
    Calls Tryd.prog 4 #[.string d, .string p] w fun e w' => e = .returned (.bool true) ∧ Below w.heap.size w w' := by
  have hnot : ∀ (x : Bool) (w : World), (Op.unary .not (.bool x)).run Tryd.prog w = .ok (.bool (!x)) w := fun _ _ => rfl
  have C1 := Lib.hid (clean_not (by omega) hx)
  have V1 := Lib.hid (valid_to (by omega) (cleanL_none_valid hx))
  have hd' : ¬ (100 : Int) < (d.size : Int) := by omega
  have hp' : ¬ (100 : Int) < (p.size : Int) := by omega
  clear hx
  go_enter Tryd.func4, Tryd.ntmps4
  go_wp2_with (first
    | (go_at_call 7; (with_reducible refine (C1.out _).mono ?_); rintro e w1 ⟨rfl, b1⟩; have B1 := Lib.hid b1; clear b1)
    | (go_at_call 11; (with_reducible refine (V1.out _).mono ?_); rintro e w2 ⟨rfl, b2⟩; have B2 := Lib.hid (B1.out.trans (b2.mono B1.out.size)); clear b2)
    | (go_at_call 6; (with_reducible refine (awake_any _).mono ?_); rintro e w9 ⟨rfl, b9⟩; have B9 := Lib.hid (B2.out.trans (b9.mono B2.out.size)); clear b9))
  go_ret
  exact ⟨rfl, B9.out⟩

set_option maxHeartbeats 3200000 in
theorem keep_nodir (d p a : ByteArray) (w : World) (hd : d.size ≤ 100) (hp : p.size ≤ 100) (hx : cleanL p.data.toList = some a.data.toList) (hn : cleanL d.data.toList = none) :
    Calls Tryd.prog 4 #[.string d, .string p] w fun e w' => e = .returned (.bool true) ∧ Below w.heap.size w w' := by
  have hnot : ∀ (x : Bool) (w : World), (Op.unary .not (.bool x)).run Tryd.prog w = .ok (.bool (!x)) w := fun _ _ => rfl
  have hv := (cleanL_some hx).1
  have hva := valid_size hv
  have s2 : (⟨#[46, 47]⟩ : ByteArray).size = 2 := rfl
  have s3 : (⟨#[47, 46]⟩ : ByteArray).size = 2 := rfl
  have hcat1 := catFits (a := ⟨#[46, 47]⟩) (b := p) (by rw [s2]; omega)
  have hcat2 := catFits (a := ⟨#[46, 47]⟩ ++ p) (b := ⟨#[47, 46]⟩) (by rw [ByteArray.size_append, s2, s3]; omega)
  have C1 := Lib.hid (clean_to (by omega) hx)
  have C2 := Lib.hid (clean_to (s := a) (a := a) (by omega) (cleanL_valid hv))
  have C3 := Lib.hid (clean_to (s := ⟨#[46, 47]⟩ ++ p ++ ⟨#[47, 46]⟩) (a := a) (by rw [ByteArray.size_append, ByteArray.size_append, s2, s3]; omega) (by rw [cat_list, cat_list]; exact cleanL_dots hx))
  have C4 := Lib.hid (clean_not (by omega) hn)
  have V1 := Lib.hid (valid_to (by omega) hv)
  have hd' : ¬ (100 : Int) < (d.size : Int) := by omega
  have hp' : ¬ (100 : Int) < (p.size : Int) := by omega
  clear hx hn hv s2 s3
  go_enter Tryd.func4, Tryd.ntmps4
  go_wp2_with (first
    | (go_at_call 7; (with_reducible refine (C1.out _).mono ?_); rintro e w1 ⟨rfl, b1⟩; have B1 := Lib.hid b1; clear b1 C1)
    | (go_at_call 7; (with_reducible refine (C2.out _).mono ?_); rintro e w2 ⟨rfl, b2⟩; have B2 := Lib.hid (B1.out.trans (b2.mono B1.out.size)); clear b2 C2)
    | (go_at_call 7; (with_reducible refine (C3.out _).mono ?_); rintro e w3 ⟨rfl, b3⟩; have B3 := Lib.hid (B2.out.trans (b3.mono B2.out.size)); clear b3 C3)
    | (go_at_call 11; (with_reducible refine (V1.out _).mono ?_); rintro e w4 ⟨rfl, b4⟩; have B4 := Lib.hid (B3.out.trans (b4.mono B3.out.size)); clear b4)
    | (go_at_call 7; (with_reducible refine (C4.out _).mono ?_); rintro e w5 ⟨rfl, b5⟩; have B5 := Lib.hid (B4.out.trans (b5.mono B4.out.size)); clear b5)
    | (go_at_call 6; (with_reducible refine (awake_any _).mono ?_); rintro e w9 ⟨rfl, b9⟩; have B9 := Lib.hid (B5.out.trans (b9.mono B5.out.size)); clear b9))
  go_ret
  exact ⟨rfl, B9.out⟩

end Go.Proofs.YtikkfkchbdejkaaDoor
