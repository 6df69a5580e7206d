/-
  Texts of the proof, put together: LLong.
-/
import Derived.Test.YtobplffailbkbaaG47
import Derived.Test.YtobplffailbkbaaG11
import Derived.ChangeSlices

/-
  LexLongest, walked.
-/
namespace Go.Proofs.Ytobplffailbkbaa
open Go.RowKit

theorem sg_byte_row (w : World) (c : UInt8) : BRow w (.slice (some ⟨w.heap.size, 0, none⟩) 1 1) [c] (w.alloc (.cells #[.int .u8 (c.toNat : Int)] 5)) :=
  ⟨⟨rfl, .inr ⟨w.heap.size, 1, #[.int .u8 (c.toNat : Int)], rfl, Nat.le_refl _, heap_alloc_new _ _, Nat.le_refl _, by unfold maxLen; omega, rfl, rfl⟩⟩, (Below.refl _ _).alloc (Nat.le_refl _) _⟩
theorem sg_byte_text (w : World) (c : UInt8) : (convert 35 9 (.slice (some ⟨w.heap.size, 0, none⟩) 1 1)).run Try.prog (w.alloc (.cells #[.int .u8 (c.toNat : Int)] 5)) = .ok (.string ⟨#[c]⟩) (w.alloc (.cells #[.int .u8 (c.toNat : Int)] 5)) :=
  brow_text (bs := [c]) (sg_byte_row w c)

/-- A row of numbers that came in. -/
def IntsAt (a : Option Addr) (ks : List Int) (w : World) : Prop := ∀ i x, ks[i]? = some x → ∃ ad, a = some ad ∧ ad.block < w.heap.size ∧ w.cell? (ad.add i) = some (.int .i64 x)

theorem mem_byte (s : ByteArray) (j : Nat) (h : j < s.size) : s[j] ∈ s.data.toList := by
  have hl : j < s.data.toList.length := by rw [len_byte]; exact h
  exact List.getElem_mem hl

theorem bytes_ext {a b : ByteArray} (h : a.data.toList = b.data.toList) : a = b := by
  obtain ⟨⟨x⟩⟩ := a
  obtain ⟨⟨y⟩⟩ := b
  simp only at h
  rw [h]

theorem sg_lit : ∀ c ∈ (⟨#[91, 93, 40, 41, 123, 125, 46, 38, 42, 43, 45, 126, 33, 47, 37, 60, 62, 61, 94, 124, 63, 58, 59, 44, 35]⟩ : ByteArray).data.toList, c ∈ SG := fun _ h => h

def PairOk (s : List UInt8) (i : Nat) : Prop := ¬ (s.getD i 0 = 47 ∧ (s.getD (i + 1) 0 = 47 ∨ s.getD (i + 1) 0 = 42)) ∧ ¬ (s.getD i 0 = 63 ∧ s.getD (i + 1) 0 = 63)
theorem pair_next {s : List UInt8} {j q : Nat} (h : ∀ q, q < j → PairOk s q) (hj : PairOk s j) (hq : q < j + 1) : PairOk s q := by
  by_cases e : q = j
  · rw [e]
    exact hj
  · exact h q (by omega)

def L1Rel (W : World) (n : Nat) (sv i : Value) (wr : World) : Prop := ∃ (k : Nat) (S : ByteArray), i = .int .i64 (k : Int) ∧ k ≤ n ∧ sv = .string S ∧ S.size = k ∧ (∀ c ∈ S.data.toList, c ∈ SG) ∧ Below W.heap.size W wr
theorem l1_on {W wr : World} {n k : Nat} {S : ByteArray} {c : UInt8} {i : Int} (hk : k < n) (hS : S.size = k) (hm : ∀ c ∈ S.data.toList, c ∈ SG) (hc : c ∈ SG) (b : Below W.heap.size W wr) (hi : i = ((k + 1 : Nat) : Int)) : L1Rel W n (.string (S ++ ⟨#[c]⟩)) (.int .i64 i) wr := by
  subst hi
  refine ⟨k + 1, _, rfl, hk, rfl, by rw [ByteArray.size_append, hS]; rfl, fun d hd => ?_, b⟩
  simp only [ByteArray.data_append, Array.toList_append, List.mem_append] at hd
  rcases hd with hd | hd
  · exact hm d hd
  · simp only [List.mem_cons, List.not_mem_nil, or_false] at hd
    rw [hd]
    exact hc

/-- A text that is itself a punctuator. -/
theorem one_five {s : ByteArray} {X : World} (hs : s.size ≤ 100000) (h : oneL s.data.toList = some 5) : Calls Try.prog 38 #[.string s] X fun e w' => e = .returned (.tuple #[.agg #[.int .i64 5, .string s, .bool false, .string ⟨#[]⟩, .int .i64 0, .int .i64 0, .bool false, .slice none 0 0], .bool true]) ∧ Below X.heap.size X w' := by
  have ho := one_any s X hs
  unfold onePost at ho
  rw [h] at ho
  exact ho
def NotFive (X : World) (e : Ending) (w' : World) : Prop := ∃ (kd : Nat) (q : ByteArray) (b : Bool), e = .returned (.tuple #[.agg #[.int .i64 (kd : Int), .string q, .bool false, .string ⟨#[]⟩, .int .i64 0, .int .i64 0, .bool false, .slice none 0 0], .bool b]) ∧ (b = true → ((kd : Int) == 5) = false) ∧ Below X.heap.size X w'
theorem one_notF {s : ByteArray} {X : World} (hs : s.size ≤ 100000) (h : oneL s.data.toList ≠ some 5) : Calls Try.prog 38 #[.string s] X (NotFive X) := by
  have ho := one_any s X hs
  unfold onePost at ho
  refine ho.mono ?_
  rintro e w' ⟨he, hb⟩
  cases hc : oneL s.data.toList with
  | none =>
    rw [hc] at he
    exact ⟨0, ⟨#[]⟩, false, he, (by intro h; cases h), hb⟩
  | some k =>
    rw [hc] at he h
    refine ⟨k, s, true, he, fun _ => ?_, hb⟩
    rw [beq_eq_false_iff_ne]
    intro e5
    apply h
    rw [show k = 5 from by omega]

theorem add_block3 (a : Addr) (i : Nat) : (a.add i).block = a.block := by unfold Addr.add; split <;> rfl

open Go.ChangeShapes Go.WideShapes in
theorem read_ints {H : Type} {enc : TypeId × Value → H} {W : World} {base : Nat} {sp : Nat → Bool} {held : Bool} {fuel : Nat} {a : Option Addr} {len cap : Nat} {x : DataW H × List MemPlace}
    (h : DataW.trod enc Try.prog W base sp held fuel 42 (Value.cells (.slice a len cap)).toList = some x) :
    ∃ ks : List Int, ks.length = len ∧ IntsAt a ks W ∧ len ≤ 9223372036854775807 ∧ True := by
  rcases open_ints Try.underlying42 Try.underlying3 (by kernel_rfl) h with ⟨hcs, -⟩ | ⟨a0, len', cap', zs, hcs, -, hl, hm, hz, -, hcell, -⟩
  · simp [Value.cells] at hcs
    obtain ⟨rfl, rfl, rfl⟩ := hcs
    exact ⟨[], rfl, fun i x hx => by simp at hx, by decide, trivial⟩
  · simp [Value.cells] at hcs
    obtain ⟨rfl, rfl, rfl⟩ := hcs
    have hlen : len ≤ zs.length := by
      rw [hz]
      split <;> omega
    unfold maxLen at hm
    refine ⟨zs.take len, by rw [List.length_take]; omega, fun i x hx => ?_, by omega, trivial⟩
    have hi : i < len := by
      rcases Nat.lt_or_ge i len with h | h
      · exact h
      · rw [List.getElem?_eq_none (by rw [List.length_take]; omega)] at hx; cases hx
    rw [List.getElem?_take_of_lt hi] at hx
    have hc := hcell i (by omega)
    have hx2 : zs.getD i 0 = x := by simp [List.getD, hx]
    rw [hx2] at hc
    have hlt := World.block_lt_of_cell? W _ hc
    rw [add_block3] at hlt
    exact ⟨_, rfl, hlt, hc⟩

end Go.Proofs.Ytobplffailbkbaa
