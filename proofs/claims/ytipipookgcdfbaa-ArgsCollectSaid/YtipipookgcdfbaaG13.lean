/-
  Texts of the proof, put together: LxOne.
-/
import Derived.Test.YtipipookgcdfbaaG12

/-
  One of the project, walked.
-/
namespace Go.Proofs.Ytipipookgcdfbaa
open Go.RowKit

/-- The kind of the token that all of a text is. -/
def oneL (l : List UInt8) : Option Nat :=
  if begN (l ++ [10]) = 1 then (if (tok (l ++ [10])).2 = l.length then (if badN (tok (l ++ [10])).1 (l.getD 0 0) then none else some (tok (l ++ [10])).1) else none) else none

def oneV (k : Nat) (x : ByteArray) : Value := .agg #[.int .i64 (k : Int), .string x, .bool false, .string ⟨#[]⟩, .int .i64 0, .int .i64 0, .bool false, .slice none 0 0]
def onePost (s : ByteArray) (W : World) (e : Ending) (w' : World) : Prop :=
  (match oneL s.data.toList with
    | some k => e = .returned (.tuple #[oneV k s, .bool true])
    | none => e = .returned (.tuple #[oneV 0 ⟨#[]⟩, .bool false])) ∧ Below W.heap.size W w'

theorem one_none {s : ByteArray} {W w' : World} (h : oneL s.data.toList = none) (hb : Below W.heap.size W w') : onePost s W (.returned (.tuple #[.agg #[.int .i64 0, .string ⟨#[]⟩, .bool false, .string ⟨#[]⟩, .int .i64 0, .int .i64 0, .bool false, .slice none 0 0], .bool false])) w' := by
  unfold onePost
  rw [h]
  exact ⟨rfl, hb⟩
theorem one_some {s : ByteArray} {k : Nat} {W w' : World} (h : oneL s.data.toList = some k) (hb : Below W.heap.size W w') : onePost s W (.returned (.tuple #[.agg #[.int .i64 (k : Int), .string s, .bool false, .string ⟨#[]⟩, .int .i64 0, .int .i64 0, .bool false, .slice none 0 0], .bool true])) w' := by
  unfold onePost
  rw [h]
  exact ⟨rfl, hb⟩

theorem nl_snoc (l : List UInt8) : Nl (l ++ [10]) := ⟨by simp, by simp [List.getD]⟩

theorem append_data (a b : ByteArray) : (a ++ b).data.toList = a.data.toList ++ b.data.toList := by
  obtain ⟨x⟩ := a
  obtain ⟨y⟩ := b
  simp

theorem heap_two (W : World) (a b : Obj) : ((W.alloc a).alloc b).heap[W.heap.size + 1]? = some b := by
  have h := heap_alloc_new (W.alloc a) b
  rw [show (W.alloc a).heap.size = W.heap.size + 1 from by simp] at h
  exact h
theorem heap_one (W : World) (a b : Obj) : ((W.alloc a).alloc b).heap[W.heap.size]? = some a := by
  rw [Below.heap_alloc _ _ _ (by simp)]
  exact heap_alloc_new _ _

/-- One's own two blocks, behind token. -/
structure OneMid0 (W : World) (ch : ByteArray) (w : World) : Prop where
  low : Below W.heap.size W w
  tok : w.heap[W.heap.size]? = some (.cells #[.int .i64 0, .string ⟨#[]⟩, .bool false, .string ⟨#[]⟩, .int .i64 0, .int .i64 0, .bool false, .slice none 0 0] 50 (0, 0))
  walk : ∃ c : WC, c.ch = ch ∧ WAt (W.heap.size + 1) c w
def OneMid (W : World) (ch : ByteArray) (k n : Nat) (e : Ending) (w : World) : Prop := e = .returned (.tuple #[.int .i64 (k : Int), .int .i64 (n : Int)]) ∧ OneMid0 W ch w

theorem one_mid {W : World} {ch : ByteArray} {b : Obj} {c c' : WC} {w : World} (h : Step (W.heap.size + 1) c c' ((W.alloc (.cells #[.int .i64 0, .string ⟨#[]⟩, .bool false, .string ⟨#[]⟩, .int .i64 0, .int .i64 0, .bool false, .slice none 0 0] 50)).alloc b) w) (hc : c'.ch = ch) : OneMid0 W ch w := by
  have b2 := below_two W (.cells #[.int .i64 0, .string ⟨#[]⟩, .bool false, .string ⟨#[]⟩, .int .i64 0, .int .i64 0, .bool false, .slice none 0 0] 50) b
  refine ⟨⟨h.os.trans b2.os, h.tape.trans b2.tape, h.output.trans b2.output, by rw [h.size]; exact b2.size, fun k hk => (h.block k (by omega)).trans (b2.block k hk)⟩, ?_, c', hc, h.is⟩
  rw [h.block _ (by omega)]
  exact heap_one W _ b
theorem OneMid0.zeros {W : World} {ch : ByteArray} {w : World} (h : OneMid0 W ch w) : w.cell? ⟨W.heap.size, 0, none⟩ = some (.int .i64 0) ∧ w.cell? ⟨W.heap.size, 1, none⟩ = some (.string ⟨#[]⟩) ∧ w.cell? ⟨W.heap.size, 2, none⟩ = some (.bool false) ∧ w.cell? ⟨W.heap.size, 3, none⟩ = some (.string ⟨#[]⟩) ∧
    w.cell? ⟨W.heap.size, 4, none⟩ = some (.int .i64 0) ∧ w.cell? ⟨W.heap.size, 5, none⟩ = some (.int .i64 0) ∧ w.cell? ⟨W.heap.size, 6, none⟩ = some (.bool false) ∧ w.cell? ⟨W.heap.size, 7, none⟩ = some (.slice none 0 0) := by
  refine ⟨?_, ?_, ?_, ?_, ?_, ?_, ?_, ?_⟩ <;> (rw [Lib.cell_of_heap h.tok]; rfl)
theorem OneMid0.free {W : World} {ch : ByteArray} {w : World} (h : OneMid0 W ch w) : ∀ k, w.frozen? ⟨W.heap.size, k, none⟩ = false := fun k => frozen_of_row w _ k _ _ h.tok
theorem OneMid0.chars {W : World} {ch : ByteArray} {w : World} (h : OneMid0 W ch w) : w.cell? ⟨W.heap.size + 1, 3, none⟩ = some (.string ch) := by
  obtain ⟨c, hc, hw⟩ := h.walk
  rw [← hc]
  exact hw.k3

theorem append_size (a b : ByteArray) : (a ++ b).size = a.size + b.size := by
  rw [← len_byte, append_data, List.length_append, len_byte, len_byte]
theorem extract_front (a b : ByteArray) : (a ++ b).extract 0 a.size = a := by
  rw [ext_text, append_data, List.drop_zero, Nat.sub_zero, ← len_byte, List.take_left]

theorem tok10 {l : List UInt8} (hb : begN (l ++ [10]) = 1) : 0 < l.length ∧ (l ++ [10]).getD 0 0 ≠ 10 ∧ (l ++ [10]).getD 0 0 = l.getD 0 0 ∧ (tok (l ++ [10])).2 ≤ l.length := by
  have h10 : (l ++ [10]).getD 0 0 ≠ 10 := fun e => by
    rw [begN_two' e] at hb
    cases hb
  have h0 : 0 < l.length := by
    cases l with
    | nil => exact absurd rfl h10
    | cons a r => simp
  refine ⟨h0, h10, by simp only [List.getD]; rw [List.getElem?_append_left h0], ?_⟩
  have h := tok_in (l := l ++ [10]) (by simp) h10
  rcases Nat.lt_or_ge l.length (tok (l ++ [10])).2 with h1 | h1
  · exact absurd (by simp [List.getD]) (h.2.2 l.length h1)
  · exact h1

theorem put1 {W w : World} {cs : Array Value} {T : TypeId} (hb : Below W.heap.size W w) (ht : w.heap[W.heap.size]? = some (.cells cs T (0, 0))) (k : Nat) (v : Value) :
    Below W.heap.size W (w.setCell ⟨W.heap.size, k, none⟩ v) ∧ (w.setCell ⟨W.heap.size, k, none⟩ v).heap[W.heap.size]? = some (.cells (cs.setIfInBounds k v) T (0, 0)) :=
  ⟨hb.setCell (Nat.le_refl _) _, heap_setCell_same w W.heap.size k _ _ v ht⟩

theorem one_done {W w : World} {ch : ByteArray} (h : OneMid0 W ch w) (v0 v1 v2 v3 v4 v5 v6 v7 : Value) : ∃ X, (((((((w.setCell ⟨W.heap.size, 0, none⟩ v0).setCell ⟨W.heap.size, 1, none⟩ v1).setCell ⟨W.heap.size, 2, none⟩ v2).setCell ⟨W.heap.size, 3, none⟩ v3).setCell ⟨W.heap.size, 4, none⟩ v4).setCell ⟨W.heap.size, 5, none⟩ v5).setCell ⟨W.heap.size, 6, none⟩ v6).setCell ⟨W.heap.size, 7, none⟩ v7 = X ∧
    (X.cell? ⟨W.heap.size, 0, none⟩ = some v0 ∧ X.cell? ⟨W.heap.size, 1, none⟩ = some v1 ∧ X.cell? ⟨W.heap.size, 2, none⟩ = some v2 ∧ X.cell? ⟨W.heap.size, 3, none⟩ = some v3 ∧ X.cell? ⟨W.heap.size, 4, none⟩ = some v4 ∧ X.cell? ⟨W.heap.size, 5, none⟩ = some v5 ∧ X.cell? ⟨W.heap.size, 6, none⟩ = some v6 ∧ X.cell? ⟨W.heap.size, 7, none⟩ = some v7) ∧ Below W.heap.size W X := by
  obtain ⟨b0, t0⟩ := put1 h.low h.tok 0 v0
  obtain ⟨x0, e0⟩ : ∃ x, w.setCell ⟨W.heap.size, 0, none⟩ v0 = x := ⟨_, rfl⟩
  rw [e0] at b0 t0 ⊢
  have t0 : x0.heap[W.heap.size]? = some (.cells #[v0, .string ⟨#[]⟩, .bool false, .string ⟨#[]⟩, .int .i64 0, .int .i64 0, .bool false, .slice none 0 0] 50 (0, 0)) := t0
  obtain ⟨b1, t1⟩ := put1 b0 t0 1 v1
  obtain ⟨x1, e1⟩ : ∃ x, x0.setCell ⟨W.heap.size, 1, none⟩ v1 = x := ⟨_, rfl⟩
  rw [e1] at b1 t1 ⊢
  have t1 : x1.heap[W.heap.size]? = some (.cells #[v0, v1, .bool false, .string ⟨#[]⟩, .int .i64 0, .int .i64 0, .bool false, .slice none 0 0] 50 (0, 0)) := t1
  obtain ⟨b2, t2⟩ := put1 b1 t1 2 v2
  obtain ⟨x2, e2⟩ : ∃ x, x1.setCell ⟨W.heap.size, 2, none⟩ v2 = x := ⟨_, rfl⟩
  rw [e2] at b2 t2 ⊢
  have t2 : x2.heap[W.heap.size]? = some (.cells #[v0, v1, v2, .string ⟨#[]⟩, .int .i64 0, .int .i64 0, .bool false, .slice none 0 0] 50 (0, 0)) := t2
  obtain ⟨b3, t3⟩ := put1 b2 t2 3 v3
  obtain ⟨x3, e3⟩ : ∃ x, x2.setCell ⟨W.heap.size, 3, none⟩ v3 = x := ⟨_, rfl⟩
  rw [e3] at b3 t3 ⊢
  have t3 : x3.heap[W.heap.size]? = some (.cells #[v0, v1, v2, v3, .int .i64 0, .int .i64 0, .bool false, .slice none 0 0] 50 (0, 0)) := t3
  obtain ⟨b4, t4⟩ := put1 b3 t3 4 v4
  obtain ⟨x4, e4⟩ : ∃ x, x3.setCell ⟨W.heap.size, 4, none⟩ v4 = x := ⟨_, rfl⟩
  rw [e4] at b4 t4 ⊢
  have t4 : x4.heap[W.heap.size]? = some (.cells #[v0, v1, v2, v3, v4, .int .i64 0, .bool false, .slice none 0 0] 50 (0, 0)) := t4
  obtain ⟨b5, t5⟩ := put1 b4 t4 5 v5
  obtain ⟨x5, e5⟩ : ∃ x, x4.setCell ⟨W.heap.size, 5, none⟩ v5 = x := ⟨_, rfl⟩
  rw [e5] at b5 t5 ⊢
  have t5 : x5.heap[W.heap.size]? = some (.cells #[v0, v1, v2, v3, v4, v5, .bool false, .slice none 0 0] 50 (0, 0)) := t5
  obtain ⟨b6, t6⟩ := put1 b5 t5 6 v6
  obtain ⟨x6, e6⟩ : ∃ x, x5.setCell ⟨W.heap.size, 6, none⟩ v6 = x := ⟨_, rfl⟩
  rw [e6] at b6 t6 ⊢
  have t6 : x6.heap[W.heap.size]? = some (.cells #[v0, v1, v2, v3, v4, v5, v6, .slice none 0 0] 50 (0, 0)) := t6
  obtain ⟨b7, t7⟩ := put1 b6 t6 7 v7
  obtain ⟨x7, e7⟩ : ∃ x, x6.setCell ⟨W.heap.size, 7, none⟩ v7 = x := ⟨_, rfl⟩
  rw [e7] at b7 t7 ⊢
  have t7 : x7.heap[W.heap.size]? = some (.cells #[v0, v1, v2, v3, v4, v5, v6, v7] 50 (0, 0)) := t7
  refine ⟨x7, rfl, ?_, b7⟩
  refine ⟨?_, ?_, ?_, ?_, ?_, ?_, ?_, ?_⟩ <;> (rw [Lib.cell_of_heap t7]; rfl)

set_option maxRecDepth 100000 in
set_option maxHeartbeats 6400000 in
theorem one_any (s : ByteArray) (W : World) (hs : s.size ≤ 100000) : Calls Try.prog 33 #[.string s] W (onePost s W) := by
  have hcat : ((s.size : Nat) + ByteArray.size ⟨#[10]⟩ > 9223372036854775807) = False := by
    rw [eq_iff_iff, iff_false]
    show ¬ s.size + 1 > 9223372036854775807
    omega
  obtain ⟨ch, hch⟩ : ∃ ch : ByteArray, s ++ ⟨#[10]⟩ = ch := ⟨_, rfl⟩
  have hcd : ch.data.toList = s.data.toList ++ [10] := by rw [← hch, append_data]
  have hcs : ch.size = s.size + 1 := by rw [← len_byte, hcd, List.length_append, len_byte]; rfl
  have hNl : Nl ch.data.toList := by rw [hcd]; exact nl_snoc _
  have HBG := Lib.hid (fun (n : Nat) (hn : begN (s.data.toList ++ [10]) = n) (X : World) => begins_is (s := ch) (n := n) (by omega) (by omega) (by rw [hcd]; exact hn) X)
  have HCH := Lib.hid hch
  by_cases hb : begN (s.data.toList ++ [10]) = 1
  · obtain ⟨h0, h10, hg0, hle⟩ := tok10 hb
    rw [len_byte] at h0 hle
    have HB : Hid (∀ X : World, Calls Try.prog 47 #[.string ch] X (NatPost 1 X)) := Lib.hid (HBG.out 1 hb)
    obtain ⟨k, n, ht⟩ : ∃ k n, tok (s.data.toList ++ [10]) = (k, n) := ⟨_, _, rfl⟩
    rw [ht] at hle
    have hk : k ≤ 100 := by
      have := tok_kind (s.data.toList ++ [10])
      rw [ht] at this
      exact this
    obtain ⟨c, hc⟩ : ∃ c : WC, (⟨⟨#[]⟩, 0, .slice none 0 0, ch, 0, 0, 0, 0, false, .slice none 0 0, .slice none 0 0, .slice none 0 0, 0, 0⟩ : WC) = c := ⟨_, rfl⟩
    have HT : Hid (Calls Try.prog 48 #[.pointer (some ⟨W.heap.size + 1, 0, none⟩)] ((W.alloc (.cells #[.int .i64 0, .string ⟨#[]⟩, .bool false, .string ⟨#[]⟩, .int .i64 0, .int .i64 0, .bool false, .slice none 0 0] 50)).alloc (.cells #[.string ⟨#[]⟩, .int .i64 0, .slice none 0 0, .string ch, .int .i64 0, .int .i64 0, .int .i64 0, .int .i64 0, .bool false, .slice none 0 0, .slice none 0 0, .slice none 0 0, .int .i64 0, .int .i64 0] 87)) (OneMid W ch k n)) := Lib.hid (by
      subst hc
      have hX : WAt (W.heap.size + 1) ⟨⟨#[]⟩, 0, .slice none 0 0, ch, 0, 0, 0, 0, false, .slice none 0 0, .slice none 0 0, .slice none 0 0, 0, 0⟩ ((W.alloc (.cells #[.int .i64 0, .string ⟨#[]⟩, .bool false, .string ⟨#[]⟩, .int .i64 0, .int .i64 0, .bool false, .slice none 0 0] 50)).alloc (.cells #[.string ⟨#[]⟩, .int .i64 0, .slice none 0 0, .string ch, .int .i64 0, .int .i64 0, .int .i64 0, .int .i64 0, .bool false, .slice none 0 0, .slice none 0 0, .slice none 0 0, .int .i64 0, .int .i64 0] 87)) := heap_two W _ _
      have h := token_any (c := ⟨⟨#[]⟩, 0, .slice none 0 0, ch, 0, 0, 0, 0, false, .slice none 0 0, .slice none 0 0, .slice none 0 0, 0, 0⟩) hX (by show ch.size ≤ 1000000; omega) hNl (by show 0 < ch.size; omega) (by rw [hcd]; exact h10) (Un.zero _ _ _) (Un.zero _ _ _)
      simp only [List.drop_zero, hcd, ht, Nat.zero_add] at h
      refine h.mono ?_
      rintro e w' ⟨he, u0, u1, hs, -, -⟩
      exact ⟨he, one_mid hs rfl⟩)
    have h0i : (0 : Int) < (s.size : Int) := by omega
    have hO : oneL s.data.toList = if n = s.size then (if badN k s[0] then none else some k) else none := by
      unfold oneL
      rw [if_pos hb, ht, len_byte, get_byte s 0 h0]
    have HXE : Hid (ch.extract 0 s.size = s) := Lib.hid (by rw [← hch]; exact extract_front _ _)
    have hsc : (s.size : Int) ≤ (ch.size : Int) := by omega
    clear hch hcd hcs hNl hb hc ht h10 hg0
    by_cases hn : n = s.size
    · subst hn
      rw [if_pos rfl] at hO
      have hnb : ((s.size : Int) != (s.size : Int)) = false := by simp
      have HEN := Lib.hid (fun (b : Bool) (hb : badN k s[0] = b) (X : World) => endless_is hk hb X)
      cases hbad : badN k s[0] with
      | true =>
        rw [hbad] at hO
        have HE := Lib.hid (HEN.out true hbad)
        have HO := Lib.hid (show oneL s.data.toList = none from hO)
        clear hO hbad
        go_enter Try.func33, Try.ntmps33
        go_wp2_with (first
          | (go_at_call 47; rw [HCH.out]; (with_reducible refine (HB.out _).mono ?_); rintro e w' ⟨rfl, rfl⟩)
          | (go_at_call 48; (with_reducible refine HT.out.mono ?_); rintro e w3 ⟨rfl, m3⟩; obtain ⟨z0, z1, z2, z3, z4, z5, z6, z7⟩ := m3.zeros; have zf := m3.free; have zc := m3.chars; have M3 := Lib.hid m3; clear m3)
          | (go_at_call 49; (with_reducible refine (HE.out _).mono ?_); rintro e w' ⟨rfl, rfl⟩))
        obtain ⟨X, hX, ⟨y0, y1, y2, y3, y4, y5, y6, y7⟩, hB⟩ := one_done M3.out (.int .i64 0) (.string ⟨#[]⟩) (.bool false) (.string ⟨#[]⟩) (.int .i64 0) (.int .i64 0) (.bool false) (.slice none 0 0)
        rw [hX]
        exact bodyPost_ret (v := .tuple #[.agg #[.int .i64 0, .string ⟨#[]⟩, .bool false, .string ⟨#[]⟩, .int .i64 0, .int .i64 0, .bool false, .slice none 0 0], .bool false]) (by simp [results, Try.results33, go_sem, y0, y1, y2, y3, y4, y5, y6, y7]) rfl (one_none HO.out hB)
      | false =>
        rw [hbad] at hO
        have HE := Lib.hid (HEN.out false hbad)
        have HO := Lib.hid (show oneL s.data.toList = some k from hO)
        clear hO hbad
        go_enter Try.func33, Try.ntmps33
        go_wp2_with (first
          | (go_at_call 47; rw [HCH.out]; (with_reducible refine (HB.out _).mono ?_); rintro e w' ⟨rfl, rfl⟩)
          | (go_at_call 48; (with_reducible refine HT.out.mono ?_); rintro e w3 ⟨rfl, m3⟩; obtain ⟨z0, z1, z2, z3, z4, z5, z6, z7⟩ := m3.zeros; have zf := m3.free; have zc := m3.chars; have M3 := Lib.hid m3; clear m3)
          | (go_at_call 49; (with_reducible refine (HE.out _).mono ?_); rintro e w' ⟨rfl, rfl⟩))
        obtain ⟨X, hX, ⟨y0, y1, y2, y3, y4, y5, y6, y7⟩, hB⟩ := one_done M3.out (.int .i64 (k : Int)) (.string (ch.extract 0 s.size)) (.bool false) (.string ⟨#[]⟩) (.int .i64 0) (.int .i64 0) (.bool false) (.slice none 0 0)
        rw [hX]
        exact bodyPost_ret (v := .tuple #[.agg #[.int .i64 (k : Int), .string (ch.extract 0 s.size), .bool false, .string ⟨#[]⟩, .int .i64 0, .int .i64 0, .bool false, .slice none 0 0], .bool true]) (by simp [results, Try.results33, go_sem, y0, y1, y2, y3, y4, y5, y6, y7]) rfl (by rw [HXE.out]; exact one_some HO.out hB)
    · rw [if_neg hn] at hO
      have HO := Lib.hid hO
      have hnb : ((n : Int) != (s.size : Int)) = true := by simp; omega
      clear hO
      go_enter Try.func33, Try.ntmps33
      go_wp2_with (first
          | (go_at_call 47; rw [HCH.out]; (with_reducible refine (HB.out _).mono ?_); rintro e w' ⟨rfl, rfl⟩)
          | (go_at_call 48; (with_reducible refine HT.out.mono ?_); rintro e w3 ⟨rfl, m3⟩; obtain ⟨z0, z1, z2, z3, z4, z5, z6, z7⟩ := m3.zeros; have zf := m3.free; have zc := m3.chars; have M3 := Lib.hid m3; clear m3))
      obtain ⟨X, hX, ⟨y0, y1, y2, y3, y4, y5, y6, y7⟩, hB⟩ := one_done M3.out (.int .i64 0) (.string ⟨#[]⟩) (.bool false) (.string ⟨#[]⟩) (.int .i64 0) (.int .i64 0) (.bool false) (.slice none 0 0)
      rw [hX]
      exact bodyPost_ret (v := .tuple #[.agg #[.int .i64 0, .string ⟨#[]⟩, .bool false, .string ⟨#[]⟩, .int .i64 0, .int .i64 0, .bool false, .slice none 0 0], .bool false]) (by simp [results, Try.results33, go_sem, y0, y1, y2, y3, y4, y5, y6, y7]) rfl (one_none HO.out hB)
  · have hO : oneL s.data.toList = none := by unfold oneL; rw [if_neg hb]
    have HO := Lib.hid hO
    obtain ⟨n, hn⟩ : ∃ n, begN (s.data.toList ++ [10]) = n := ⟨_, rfl⟩
    have HB := Lib.hid (HBG.out n hn)
    have hn1 : ((n : Int) == 1) = false := by rw [hn] at hb; simp; omega
    have hn2 : ((n : Int) != 1) = true := by rw [bne, hn1]; rfl
    clear hch hcd hcs hNl hb hO hn
    go_enter Try.func33, Try.ntmps33
    go_wp2_with (go_at_call 47; rw [HCH.out]; (with_reducible refine (HB.out _).mono ?_); rintro e w' ⟨rfl, rfl⟩)
    exact bodyPost_ret (v := .tuple #[.agg #[.int .i64 0, .string ⟨#[]⟩, .bool false, .string ⟨#[]⟩, .int .i64 0, .int .i64 0, .bool false, .slice none 0 0], .bool false]) (by simp [results, Try.results33, go_sem]) rfl (one_none HO.out (below_two _ _ _))

end Go.Proofs.Ytipipookgcdfbaa
