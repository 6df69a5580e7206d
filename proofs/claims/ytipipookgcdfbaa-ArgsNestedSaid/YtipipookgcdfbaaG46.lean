/-
  Texts of the proof, put together: LLong, AgWhoL.
-/
import Derived.Test.YtipipookgcdfbaaG45
import Derived.Test.YtipipookgcdfbaaG16
import Derived.ChangeSlices

/-
  LexLongest, walked.
-/
namespace Go.Proofs.Ytipipookgcdfbaa
open Go.RowKit

theorem sg_byte_row (w : World) (c : UInt8) : BRow w (.slice (some ⟨w.heap.size, 0, none⟩) 1 1) [c] (w.alloc (.cells #[.int .u8 (c.toNat : Int)] 5)) :=
  ⟨⟨rfl, .inr ⟨w.heap.size, 1, #[.int .u8 (c.toNat : Int)], rfl, Nat.le_refl _, heap_alloc_new _ _, Nat.le_refl _, by unfold maxLen; omega, rfl, rfl⟩⟩, (Below.refl _ _).alloc (Nat.le_refl _) _⟩
theorem sg_byte_text (w : World) (c : UInt8) : (convert 51 9 (.slice (some ⟨w.heap.size, 0, none⟩) 1 1)).run Try.prog (w.alloc (.cells #[.int .u8 (c.toNat : Int)] 5)) = .ok (.string ⟨#[c]⟩) (w.alloc (.cells #[.int .u8 (c.toNat : Int)] 5)) :=
  brow_text (bs := [c]) (sg_byte_row w c)

/-- Round: somewhere from 0 to n - 1. -/
theorem roundL_any (a : Int) (n : Nat) (h1 : 1 ≤ n) (hn : n ≤ 1000000) (w : World) :
    Calls Try.prog 26 #[.int .i64 a, .int .i64 (n : Int)] w fun e w' => (∃ k : Nat, k < n ∧ e = .returned (.int .i64 (k : Int))) ∧ w = w' := by
  obtain ⟨m, hm⟩ : ∃ m, a.tmod (n : Int) = m := ⟨_, rfl⟩
  have hm1 : m < n := by rw [← hm]; exact Int.tmod_lt_of_pos _ (by omega)
  have hm2 : -(n : Int) < m := by
    rw [← hm]
    have := Int.lt_tmod_of_pos a (b := (n : Int)) (by omega)
    omega
  have hn0 : ¬ ((n : Int) = 0) := by omega
  go_enter Try.func26, Try.ntmps26
  go_wp2
  go_ret
  have r1 := Int.emod_nonneg (m + n) hn0
  have r2 := Int.emod_lt_of_pos (m + n) (b := (n : Int)) (by omega)
  exact ⟨⟨((m + n) % (n : Int)).toNat, by omega, ret_nat (by omega)⟩, rfl⟩

/-- A row of numbers that came in. -/
def IntsAt (a : Option Addr) (ks : List Int) (w : World) : Prop := ∀ i x, ks[i]? = some x → ∃ ad, a = some ad ∧ ad.block < w.heap.size ∧ w.cell? (ad.add i) = some (.int .i64 x)

theorem mem_byte (s : ByteArray) (j : Nat) (h : j < s.size) : s[j] ∈ s.data.toList := by
  have hl : j < s.data.toList.length := by rw [len_byte]; exact h
  exact List.getElem_mem hl

theorem bytes_ext {a b : ByteArray} (h : a.data.toList = b.data.toList) : a = b := by
  obtain ⟨⟨x⟩⟩ := a
  obtain ⟨⟨y⟩⟩ := b
  simp only at h
  rw [h]

theorem sg_lit : ∀ c ∈ (⟨#[91, 93, 40, 41, 123, 125, 46, 38, 42, 43, 45, 126, 33, 47, 37, 60, 62, 61, 94, 124, 63, 58, 59, 44, 35]⟩ : ByteArray).data.toList, c ∈ SG := fun _ h => h

def PairOk (s : List UInt8) (i : Nat) : Prop := ¬ (s.getD i 0 = 47 ∧ (s.getD (i + 1) 0 = 47 ∨ s.getD (i + 1) 0 = 42)) ∧ ¬ (s.getD i 0 = 63 ∧ s.getD (i + 1) 0 = 63)
theorem pair_next {s : List UInt8} {j q : Nat} (h : ∀ q, q < j → PairOk s q) (hj : PairOk s j) (hq : q < j + 1) : PairOk s q := by
  by_cases e : q = j
  · rw [e]
    exact hj
  · exact h q (by omega)

def L1Rel (W : World) (n : Nat) (sv i : Value) (wr : World) : Prop := ∃ (k : Nat) (S : ByteArray), i = .int .i64 (k : Int) ∧ k ≤ n ∧ sv = .string S ∧ S.size = k ∧ (∀ c ∈ S.data.toList, c ∈ SG) ∧ Below W.heap.size W wr
theorem l1_on {W wr : World} {n k : Nat} {S : ByteArray} {c : UInt8} {i : Int} (hk : k < n) (hS : S.size = k) (hm : ∀ c ∈ S.data.toList, c ∈ SG) (hc : c ∈ SG) (b : Below W.heap.size W wr) (hi : i = ((k + 1 : Nat) : Int)) : L1Rel W n (.string (S ++ ⟨#[c]⟩)) (.int .i64 i) wr := by
  subst hi
  refine ⟨k + 1, _, rfl, hk, rfl, by rw [ByteArray.size_append, hS]; rfl, fun d hd => ?_, b⟩
  simp only [ByteArray.data_append, Array.toList_append, List.mem_append] at hd
  rcases hd with hd | hd
  · exact hm d hd
  · simp only [List.mem_cons, List.not_mem_nil, or_false] at hd
    rw [hd]
    exact hc

/-- A text that is itself a punctuator. -/
theorem one_five {s : ByteArray} {X : World} (hs : s.size ≤ 100000) (h : oneL s.data.toList = some 5) : Calls Try.prog 33 #[.string s] X fun e w' => e = .returned (.tuple #[.agg #[.int .i64 5, .string s, .bool false, .string ⟨#[]⟩, .int .i64 0, .int .i64 0, .bool false, .slice none 0 0], .bool true]) ∧ Below X.heap.size X w' := by
  have ho := one_any s X hs
  unfold onePost at ho
  rw [h] at ho
  exact ho
def NotFive (X : World) (e : Ending) (w' : World) : Prop := ∃ (kd : Nat) (q : ByteArray) (b : Bool), e = .returned (.tuple #[.agg #[.int .i64 (kd : Int), .string q, .bool false, .string ⟨#[]⟩, .int .i64 0, .int .i64 0, .bool false, .slice none 0 0], .bool b]) ∧ (b = true → ((kd : Int) == 5) = false) ∧ Below X.heap.size X w'
theorem one_notF {s : ByteArray} {X : World} (hs : s.size ≤ 100000) (h : oneL s.data.toList ≠ some 5) : Calls Try.prog 33 #[.string s] X (NotFive X) := by
  have ho := one_any s X hs
  unfold onePost at ho
  refine ho.mono ?_
  rintro e w' ⟨he, hb⟩
  cases hc : oneL s.data.toList with
  | none =>
    rw [hc] at he
    exact ⟨0, ⟨#[]⟩, false, he, (by intro h; cases h), hb⟩
  | some k =>
    rw [hc] at he h
    refine ⟨k, s, true, he, fun _ => ?_, hb⟩
    rw [beq_eq_false_iff_ne]
    intro e5
    apply h
    rw [show k = 5 from by omega]

theorem add_block3 (a : Addr) (i : Nat) : (a.add i).block = a.block := by unfold Addr.add; split <;> rfl

open Go.ChangeShapes Go.WideShapes in
theorem read_ints {H : Type} {enc : TypeId × Value → H} {W : World} {base : Nat} {sp : Nat → Bool} {held : Bool} {fuel : Nat} {a : Option Addr} {len cap : Nat} {x : DataW H × List MemPlace}
    (h : DataW.trod enc Try.prog W base sp held fuel 55 (Value.cells (.slice a len cap)).toList = some x) :
    ∃ ks : List Int, ks.length = len ∧ IntsAt a ks W ∧ len ≤ 9223372036854775807 ∧ True := by
  rcases open_ints Try.underlying55 Try.underlying3 (by kernel_rfl) h with ⟨hcs, -⟩ | ⟨a0, len', cap', zs, hcs, -, hl, hm, hz, -, hcell, -⟩
  · simp [Value.cells] at hcs
    obtain ⟨rfl, rfl, rfl⟩ := hcs
    exact ⟨[], rfl, fun i x hx => by simp at hx, by decide, trivial⟩
  · simp [Value.cells] at hcs
    obtain ⟨rfl, rfl, rfl⟩ := hcs
    have hlen : len ≤ zs.length := by
      rw [hz]
      split <;> omega
    unfold maxLen at hm
    refine ⟨zs.take len, by rw [List.length_take]; omega, fun i x hx => ?_, by omega, trivial⟩
    have hi : i < len := by
      rcases Nat.lt_or_ge i len with h | h
      · exact h
      · rw [List.getElem?_eq_none (by rw [List.length_take]; omega)] at hx; cases hx
    rw [List.getElem?_take_of_lt hi] at hx
    have hc := hcell i (by omega)
    have hx2 : zs.getD i 0 = x := by simp [List.getD, hx]
    rw [hx2] at hc
    have hlt := World.block_lt_of_cell? W _ hc
    rw [add_block3] at hlt
    exact ⟨_, rfl, hlt, hc⟩

end Go.Proofs.Ytipipookgcdfbaa

/-
  Arguments, as they stand: over lists; a macro's box that grows.
-/
namespace Go.Proofs.Ytipipookgcdfbaa
open Go.RowKit

/-- Where an argument begins. -/
def preA (A : List (List Xt)) (i : Nat) : Nat := ((A.take i).map fun T => T.length + 1).sum
theorem pre_zero (A : List (List Xt)) : preA A 0 = 0 := by simp [preA]
theorem pre_succ {A : List (List Xt)} {i : Nat} {T : List Xt} (h : A[i]? = some T) : preA A (i + 1) = preA A i + T.length + 1 := by
  unfold preA
  rw [List.take_add_one, h]
  simp
  omega
theorem pre_cons (T : List Xt) (A : List (List Xt)) (i : Nat) : preA (T :: A) (i + 1) = T.length + 1 + preA A i := by simp [preA]
theorem weave_get : ∀ {A : List (List Xt)} {C : List Xt}, C.length = A.length - 1 → ∀ {i : Nat} {U : List Xt} {k : Nat} {t : Xt}, A[i]? = some U → U[k]? = some t → (weaveL A C)[preA A i + k]? = some t
  | [], C, h, i, U, k, t, hU, ht => by simp at hU
  | [T], [], h, 0, U, k, t, hU, ht => by
    simp only [List.getElem?_cons_zero, Option.some.injEq] at hU
    subst hU
    simpa [weaveL, preA] using ht
  | [T], [], h, i + 1, U, k, t, hU, ht => by simp at hU
  | [T], c :: C, h, i, U, k, t, hU, ht => by simp at h
  | T :: V :: A, [], h, i, U, k, t, hU, ht => by simp at h
  | T :: V :: A, c :: C, h, 0, U, k, t, hU, ht => by
    simp only [List.getElem?_cons_zero, Option.some.injEq] at hU
    subst hU
    have hk := (List.getElem?_eq_some_iff.1 ht).1
    show (T ++ c :: weaveL (V :: A) C)[preA (T :: V :: A) 0 + k]? = some t
    rw [pre_zero, Nat.zero_add, List.getElem?_append_left hk]
    exact ht
  | T :: V :: A, c :: C, h, i + 1, U, k, t, hU, ht => by
    have ih := weave_get (A := V :: A) (C := C) (by simpa using h) (i := i) (by simpa using hU) ht
    show (T ++ c :: weaveL (V :: A) C)[preA (T :: V :: A) (i + 1) + k]? = some t
    rw [pre_cons, show T.length + 1 + preA (V :: A) i + k = T.length + ((preA (V :: A) i + k) + 1) from by omega, List.getElem?_append_right (by omega), Nat.add_sub_cancel_left, List.getElem?_cons_succ]
    exact ih
theorem pre_all (A : List (List Xt)) : preA A A.length = (A.map List.length).sum + A.length := by
  unfold preA
  rw [List.take_length]
  induction A with
  | nil => rfl
  | cons T A ih =>
    rw [List.map_cons, List.sum_cons, List.map_cons, List.sum_cons, ih, List.length_cons]
    omega
theorem pre_le (A : List (List Xt)) (i : Nat) : preA A i ≤ preA A A.length := by
  have e : ((A.take i).map fun T => T.length + 1).sum + ((A.drop i).map fun T => T.length + 1).sum = (A.map fun T => T.length + 1).sum := by
    rw [← List.sum_append, ← List.map_append, List.take_append_drop]
  unfold preA
  rw [List.take_length]
  omega
/-- What the law asks for of what was collected. -/
theorem col_all {T : List Xt} {A : List (List Xt)} {C : List Xt} {k : Nat} (h : collectL T = some (A, C, k)) : A.length = C.length + 1 ∧ 2 ≤ k ∧ k ≤ T.length ∧ 1 + preA A A.length = k ∧ (∀ i U j t, A[i]? = some U → U[j]? = some t → T[1 + preA A i + j]? = some t ∧ 1 + preA A i + j < T.length) ∧ (A.map List.length).sum + C.length + 2 = k := by
  obtain ⟨h1, h2, o, c, r, hT, hk⟩ := collectL_is h
  have hCA : C.length = A.length - 1 := by omega
  have hs := weave_sum hCA
  have hl : (weaveL A C).length + 2 ≤ T.length := by rw [hT]; simp
  refine ⟨h1, h2, by omega, by rw [pre_all]; omega, fun i U j t hU ht => ?_, by omega⟩
  have hw := weave_get hCA hU ht
  have hlt := (List.getElem?_eq_some_iff.1 hw).1
  refine ⟨?_, by omega⟩
  rw [hT, show 1 + preA A i + j = (preA A i + j) + 1 from by omega, List.getElem?_cons_succ, List.getElem?_append_left hlt]
  exact hw
theorem sum_takedrop (A : List (List Xt)) (n : Nat) : ((A.take n).map List.length).sum + ((A.drop n).map List.length).sum = (A.map List.length).sum := by
  rw [← List.sum_append, ← List.map_append, List.take_append_drop]
/-- A macro that takes more gets all that there is. -/
theorem fit_all {A : List (List Xt)} {C : List Xt} {q : Nat} (hl : A.length = C.length + 1) (hq : q ≤ A.length) : (A.take q ++ [weaveL (A.drop q) (C.drop q)]).length = q + 1 ∧ ((A.take q ++ [weaveL (A.drop q) (C.drop q)]).map List.length).sum + min q C.length = (A.map List.length).sum + C.length := by
  have hw := weave_sum (A := A.drop q) (C := C.drop q) (by simp; omega)
  have ht := sum_takedrop A q
  refine ⟨by simp; omega, ?_⟩
  rw [List.map_append, List.sum_append]
  simp only [List.map_cons, List.map_nil, List.sum_cons, List.sum_nil, Nat.add_zero]
  rw [← hw, List.length_drop]
  omega
theorem fit_more {A : List (List Xt)} {C : List Xt} {q : Nat} : fitL (q + 1) true A C = if A.length < q then none else some (A.take q ++ [weaveL (A.drop q) (C.drop q)]) := by
  unfold fitL
  rw [if_neg (by omega), if_pos rfl]
  rfl
def sumA (B : List (List Xt)) (i : Nat) : Nat := ((B.take i).map List.length).sum
theorem sumA_zero (B : List (List Xt)) : sumA B 0 = 0 := by simp [sumA]
theorem sumA_succ {B : List (List Xt)} {i : Nat} {U : List Xt} (h : B[i]? = some U) : sumA B (i + 1) = sumA B i + U.length := by
  unfold sumA
  rw [List.take_add_one, h]
  simp
theorem sumA_all (B : List (List Xt)) : sumA B B.length = (B.map List.length).sum := by unfold sumA; rw [List.take_length]
theorem sumA_le (B : List (List Xt)) (i : Nat) : sumA B i ≤ (B.map List.length).sum := by
  have := sum_takedrop B i
  unfold sumA
  omega

/-- A macro's box, and its names' row. -/
def boxM (S : List ByteArray) : Xm := ⟨⟨#[]⟩, true, true, S, [], ⟨#[]⟩, 0, 0⟩
structure PBox (W : World) (b : Nat) (S : List ByteArray) (sa : Option Addr) (j sc : Nat) (w : World) : Prop where
  bel : Below W.heap.size W w
  hi : W.heap.size ≤ b
  box : w.heap[b]? = some (mObj (boxM S) (.slice sa j sc) (.slice none 0 0))
  row : w.ownsRow W.heap.size 9 1 (.slice sa j sc) j (S.map Value.string)
theorem pbox_new (W : World) : PBox W W.heap.size [] none 0 0 (W.alloc (.cells #[.string ⟨#[]⟩, .bool true, .bool true, .slice none 0 0, .slice none 0 0, .string ⟨#[]⟩, .int .i64 0, .int .i64 0] 38)) :=
  ⟨(Below.refl _ _).alloc (Nat.le_refl _) _, Nat.le_refl _, heap_alloc_new _ _, ⟨rfl, .inl ⟨rfl, rfl⟩⟩⟩
theorem PBox.len {W : World} {b : Nat} {S : List ByteArray} {sa : Option Addr} {j sc : Nat} {w : World} (h : PBox W b S sa j sc w) : S.length = j := by
  have := h.row.1
  simpa using this
theorem PBox.mac {W : World} {b : Nat} {S : List ByteArray} {sa : Option Addr} {j sc : Nat} {w : World} (h : PBox W b S sa j sc w) : MacAt (boxM S) (.slice sa j sc) (.slice none 0 0) w := by
  have hl := h.len
  subst hl
  exact ⟨strsV_row h.row, toksX_nil _⟩
theorem PBox.lt {W : World} {b : Nat} {S : List ByteArray} {sa : Option Addr} {j sc : Nat} {w : World} (h : PBox W b S sa j sc w) : b < w.heap.size := (Array.getElem?_eq_some_iff.1 h.box).1

def PushR (W : World) (b : Nat) (S : List ByteArray) (x : ByteArray) (sa : Option Addr) (j sc : Nat) (v' : Value) (w' : World) : Prop :=
  ∃ sa' sc', v' = .slice sa' (j + 1) sc' ∧ w'.cell? ⟨b, 3, none⟩ = some (.slice sa j sc) ∧ w'.frozen? ⟨b, 3, none⟩ = false ∧ PBox W b (S ++ [x]) sa' (j + 1) sc' (w'.setCell ⟨b, 3, none⟩ (.slice sa' (j + 1) sc'))
theorem PBox.push {W : World} {b : Nat} {S : List ByteArray} {sa : Option Addr} {j sc : Nat} {w : World} (h : PBox W b S sa j sc w) (x : ByteArray) (o : Obj) (ty : TypeId) (hj : j ≤ 1000) :
    ∃ v' w', (Builtin.append_ #[23, 23] ty #[.slice sa j sc, .slice (some ⟨w.heap.size + 1, 0, none⟩) 1 1]).run Try.prog ((w.alloc o).alloc (.cells #[.string x] 9)) = .ok v' w' ∧ PushR W b S x sa j sc v' w' := by
  obtain ⟨i0, hi, hz0, hz1, hz2⟩ := info_parts Try.infoStrM
  have hbel : Below W.heap.size W ((w.alloc o).alloc (.cells #[.string x] 9)) := (h.bel.alloc h.bel.size o).alloc (by have := h.bel.size; simp; omega) _
  have hrow := World.ownsRow.alloc (World.ownsRow.alloc h.row o) (.cells #[.string x] 9)
  have hblk : ((w.alloc o).alloc (.cells #[.string x] 9)).heap[b]? = some (mObj (boxM S) (.slice sa j sc) (.slice none 0 0)) := ((Below.refl w.heap.size w).alloc (Nat.le_refl _) o |>.alloc (by simp) (.cells #[.string x] 9)).block b h.lt |>.trans h.box
  have hlt := h.lt
  obtain ⟨w1, hw1⟩ : ∃ w1, (w.alloc o).alloc (.cells #[.string x] 9) = w1 := ⟨_, rfl⟩
  have hsrc := src_one2 w o (.string x) 9
  rw [hw1] at hbel hrow hblk hsrc ⊢
  obtain ⟨v', w', hr, h2, hg⟩ := run_app (ty := ty) Try.underlying23 hi hz0 hz1 hz2 rfl (by decide) (by decide) hrow hsrc (by simp [Value.oneCell']) (by omega) hbel.size
  obtain ⟨sa', sc', rfl, -, -, -⟩ := row_form h2
  have hne : ∀ (e : World) (v : Value) (n : Nat) (xs : List Value) (bx : e.heap[b]? = some (mObj (boxM S) (.slice sa j sc) (.slice none 0 0))) (ro : e.ownsRow W.heap.size 9 1 v n xs), v.ownBlock ≠ some b := by
    intro e v n xs bx ro hb
    obtain ⟨-, ⟨rfl, -⟩ | ⟨g, cap, cur, rfl, -, hh, -⟩⟩ := ro
    · cases hb
    · simp only [Value.ownBlock, Option.some.injEq] at hb
      subst hb
      rw [bx] at hh
      simp only [mObj, Option.some.injEq, Obj.cells.injEq] at hh
      exact absurd hh.2.1 (by decide)
  have hbx : w'.heap[b]? = some (mObj (boxM S) (.slice sa j sc) (.slice none 0 0)) := (hg.block b (by have := (Array.getElem?_eq_some_iff.1 hblk).1; exact this) (fun e => hne _ _ _ _ hblk hrow e.symm)).trans hblk
  have hbel' : Below W.heap.size W w' := hbel.grown hg hbel.size fun k hk => (World.ownsRow.lt hrow k hk).1
  refine ⟨_, w', hr, sa', sc', rfl, by rw [Lib.cell_of_heap hbx]; rfl, Lib.frozen_of_heap hbx _, hbel'.setCell h.hi _, h.hi, ?_, ?_⟩
  · exact heap_setCell_same w' b 3 _ _ _ hbx
  · rw [List.map_append]
    exact own_same h2 fun g hg' => heap_setCell_other w' _ g _ fun e => hne _ _ _ _ hbx h2 (by simp only at e; rw [← e]; exact hg')

theorem letterW_num : ∀ j, j < 21 → ((97 + UInt8.ofNat j).toNat : Int) = 97 + (j : Int) := by decide
theorem letterW_conv (w : World) (j : Nat) (hj : j < 21) : (convert 51 9 (.slice (some ⟨w.heap.size, 0, none⟩) 1 1)).run Try.prog (w.alloc (.cells #[.int .u8 (97 + (j : Int))] 5)) = .ok (.string ⟨#[97 + UInt8.ofNat j]⟩) (w.alloc (.cells #[.int .u8 (97 + (j : Int))] 5)) := by
  have := sg_byte_text w (97 + UInt8.ofNat j)
  rw [letterW_num j hj] at this
  exact this

end Go.Proofs.Ytipipookgcdfbaa
