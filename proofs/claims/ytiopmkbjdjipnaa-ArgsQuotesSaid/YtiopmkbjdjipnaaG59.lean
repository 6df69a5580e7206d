/-
  Texts of the proof, put together: AgQsL.
-/
import Derived.Test.YtiopmkbjdjipnaaG58
import Derived.Test.YtiopmkbjdjipnaaG42

/-
  What is made a string is read as it was; rows of tokens that are written out.
-/
namespace Go.Proofs.Ytiopmkbjdjipnaa
open Go.RowKit

theorem dqu_quoted (l : List UInt8) (h : ∀ c ∈ l, c ≠ 10) : dquL (quotedL l) = some l := by
  have hu := unq_quo l h
  have e : quotedL l = conS 34 [] (quoL l) := rfl
  have hpre : isPre [] := by unfold isPre; simp
  unfold dquL
  rw [e, ahead_con hpre (quoL l) (.inl rfl)]
  simp only
  rw [con_mid]
  exact hu
def qtX (k : Int) (x : ByteArray) (sp : Bool) : Xt := ⟨k, x, sp, ⟨#[]⟩, 0, 0, false, []⟩
theorem lit_one (k : Int) (x : ByteArray) (W : World) : ToksX [qtX k x false] (.slice (some ⟨W.heap.size, 0, none⟩) 1 1) (W.alloc (.cells #[.int .i64 k, .string x, .bool false, .string ⟨#[]⟩, .int .i64 0, .int .i64 0, .bool false, .slice none 0 0] 50)) := by
  have hh := heap_alloc_new W (.cells #[.int .i64 k, .string x, .bool false, .string ⟨#[]⟩, .int .i64 0, .int .i64 0, .bool false, .slice none 0 0] 50)
  refine ⟨some ⟨W.heap.size, 0, none⟩, 1, rfl, Nat.le_refl _, by unfold maxLen; omega, fun i t ht => ?_⟩
  match i, ht with
  | 0, ht =>
    simp only [List.getElem?_cons_zero, Option.some.injEq] at ht
    subst ht
    refine ⟨W.heap.size, 0, rfl, by simp, .slice none 0 0, ⟨?_, ?_, ?_, ?_, ?_, ?_, ?_, ?_⟩, sits_nil _⟩ <;> (rw [Lib.cell_of_heap hh]; rfl)
  | i + 1, ht => simp at ht
theorem lit_two (k k' : Int) (x x' : ByteArray) (b b' : Bool) (W : World) : ToksX [qtX k x b, qtX k' x' b'] (.slice (some ⟨W.heap.size, 0, none⟩) 2 2) (W.alloc (.cells #[.int .i64 k, .string x, .bool b, .string ⟨#[]⟩, .int .i64 0, .int .i64 0, .bool false, .slice none 0 0, .int .i64 k', .string x', .bool b', .string ⟨#[]⟩, .int .i64 0, .int .i64 0, .bool false, .slice none 0 0] 50)) := by
  have hh := heap_alloc_new W (.cells #[.int .i64 k, .string x, .bool b, .string ⟨#[]⟩, .int .i64 0, .int .i64 0, .bool false, .slice none 0 0, .int .i64 k', .string x', .bool b', .string ⟨#[]⟩, .int .i64 0, .int .i64 0, .bool false, .slice none 0 0] 50)
  refine ⟨some ⟨W.heap.size, 0, none⟩, 2, rfl, Nat.le_refl _, by unfold maxLen; omega, fun i t ht => ?_⟩
  match i, ht with
  | 0, ht =>
    simp only [List.getElem?_cons_zero, Option.some.injEq] at ht
    subst ht
    refine ⟨W.heap.size, 0, rfl, by simp, .slice none 0 0, ⟨?_, ?_, ?_, ?_, ?_, ?_, ?_, ?_⟩, sits_nil _⟩ <;> (rw [Lib.cell_of_heap hh]; rfl)
  | 1, ht =>
    simp only [List.getElem?_cons_succ, List.getElem?_cons_zero, Option.some.injEq] at ht
    subst ht
    refine ⟨W.heap.size, 0, rfl, by simp, .slice none 0 0, ⟨?_, ?_, ?_, ?_, ?_, ?_, ?_, ?_⟩, sits_nil _⟩ <;> (rw [Lib.cell_of_heap hh]; rfl)
  | i + 2, ht => simp at ht
theorem str_one (x : ByteArray) : stringL [qtX 4 x false] = quotedL x.data.toList := by
  show 34 :: (strL1 (qtX 4 x false) ++ [] ++ [34]) = _
  unfold strL1
  rw [if_pos (.inl rfl)]
  simp [quotedL, qtX]
theorem str_two : stringL [qtX 1 ⟨#[120]⟩ false, qtX 1 ⟨#[121]⟩ true] = [34, 120, 32, 121, 34] := by rfl
theorem fit_one {x : ByteArray} (h : x.size ≤ 10000) : (textT ([qtX 4 x false].map escX)).length ≤ 1000000 := by
  have h2 := textT_bound (m := 20000) (T := [qtX 4 x false].map escX) fun u hu => by
    obtain ⟨t, ht, rfl⟩ := List.mem_map.1 hu
    simp only [List.mem_cons, List.not_mem_nil, or_false] at ht
    subst ht
    have := esc_size (qtX 4 x false)
    have e : (qtX 4 x false).x = x := rfl
    rw [e] at this
    omega
  rw [List.length_map] at h2
  simp only [List.length_cons, List.length_nil] at h2
  omega
theorem fit_two : (textT ([qtX 1 ⟨#[120]⟩ false, qtX 1 ⟨#[121]⟩ true].map escX)).length ≤ 1000000 := by
  have e : (textT ([qtX 1 ⟨#[120]⟩ false, qtX 1 ⟨#[121]⟩ true].map escX)).length = 3 := by rfl
  omega

end Go.Proofs.Ytiopmkbjdjipnaa
