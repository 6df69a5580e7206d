/-
  Texts of the proof, put together: AgOne.
-/
import Derived.Test.YtipipookgcdfbaaG42
import Derived.Test.YtipipookgcdfbaaG13

/-
  The document's One of a text in quotes.
-/
namespace Go.Proofs.Ytipipookgcdfbaa
open Go.RowKit

theorem box_done {W w : World} (hlow : Below W.heap.size W w) (htok : w.heap[W.heap.size]? = some (.cells #[.int .i64 0, .string ⟨#[]⟩, .bool false, .string ⟨#[]⟩, .int .i64 0, .int .i64 0, .bool false, .slice none 0 0] 50 (0, 0))) (v0 v1 v2 v3 v4 v5 v6 v7 : Value) : ∃ X, (((((((w.setCell ⟨W.heap.size, 0, none⟩ v0).setCell ⟨W.heap.size, 1, none⟩ v1).setCell ⟨W.heap.size, 2, none⟩ v2).setCell ⟨W.heap.size, 3, none⟩ v3).setCell ⟨W.heap.size, 4, none⟩ v4).setCell ⟨W.heap.size, 5, none⟩ v5).setCell ⟨W.heap.size, 6, none⟩ v6).setCell ⟨W.heap.size, 7, none⟩ v7 = X ∧
    (X.cell? ⟨W.heap.size, 0, none⟩ = some v0 ∧ X.cell? ⟨W.heap.size, 1, none⟩ = some v1 ∧ X.cell? ⟨W.heap.size, 2, none⟩ = some v2 ∧ X.cell? ⟨W.heap.size, 3, none⟩ = some v3 ∧ X.cell? ⟨W.heap.size, 4, none⟩ = some v4 ∧ X.cell? ⟨W.heap.size, 5, none⟩ = some v5 ∧ X.cell? ⟨W.heap.size, 6, none⟩ = some v6 ∧ X.cell? ⟨W.heap.size, 7, none⟩ = some v7) ∧ Below W.heap.size W X := by
  obtain ⟨b0, t0⟩ := put1 hlow htok 0 v0
  obtain ⟨x0, e0⟩ : ∃ x, w.setCell ⟨W.heap.size, 0, none⟩ v0 = x := ⟨_, rfl⟩
  rw [e0] at b0 t0 ⊢
  have t0 : x0.heap[W.heap.size]? = some (.cells #[v0, .string ⟨#[]⟩, .bool false, .string ⟨#[]⟩, .int .i64 0, .int .i64 0, .bool false, .slice none 0 0] 50 (0, 0)) := t0
  obtain ⟨b1, t1⟩ := put1 b0 t0 1 v1
  obtain ⟨x1, e1⟩ : ∃ x, x0.setCell ⟨W.heap.size, 1, none⟩ v1 = x := ⟨_, rfl⟩
  rw [e1] at b1 t1 ⊢
  have t1 : x1.heap[W.heap.size]? = some (.cells #[v0, v1, .bool false, .string ⟨#[]⟩, .int .i64 0, .int .i64 0, .bool false, .slice none 0 0] 50 (0, 0)) := t1
  obtain ⟨b2, t2⟩ := put1 b1 t1 2 v2
  obtain ⟨x2, e2⟩ : ∃ x, x1.setCell ⟨W.heap.size, 2, none⟩ v2 = x := ⟨_, rfl⟩
  rw [e2] at b2 t2 ⊢
  have t2 : x2.heap[W.heap.size]? = some (.cells #[v0, v1, v2, .string ⟨#[]⟩, .int .i64 0, .int .i64 0, .bool false, .slice none 0 0] 50 (0, 0)) := t2
  obtain ⟨b3, t3⟩ := put1 b2 t2 3 v3
  obtain ⟨x3, e3⟩ : ∃ x, x2.setCell ⟨W.heap.size, 3, none⟩ v3 = x := ⟨_, rfl⟩
  rw [e3] at b3 t3 ⊢
  have t3 : x3.heap[W.heap.size]? = some (.cells #[v0, v1, v2, v3, .int .i64 0, .int .i64 0, .bool false, .slice none 0 0] 50 (0, 0)) := t3
  obtain ⟨b4, t4⟩ := put1 b3 t3 4 v4
  obtain ⟨x4, e4⟩ : ∃ x, x3.setCell ⟨W.heap.size, 4, none⟩ v4 = x := ⟨_, rfl⟩
  rw [e4] at b4 t4 ⊢
  have t4 : x4.heap[W.heap.size]? = some (.cells #[v0, v1, v2, v3, v4, .int .i64 0, .bool false, .slice none 0 0] 50 (0, 0)) := t4
  obtain ⟨b5, t5⟩ := put1 b4 t4 5 v5
  obtain ⟨x5, e5⟩ : ∃ x, x4.setCell ⟨W.heap.size, 5, none⟩ v5 = x := ⟨_, rfl⟩
  rw [e5] at b5 t5 ⊢
  have t5 : x5.heap[W.heap.size]? = some (.cells #[v0, v1, v2, v3, v4, v5, .bool false, .slice none 0 0] 50 (0, 0)) := t5
  obtain ⟨b6, t6⟩ := put1 b5 t5 6 v6
  obtain ⟨x6, e6⟩ : ∃ x, x5.setCell ⟨W.heap.size, 6, none⟩ v6 = x := ⟨_, rfl⟩
  rw [e6] at b6 t6 ⊢
  have t6 : x6.heap[W.heap.size]? = some (.cells #[v0, v1, v2, v3, v4, v5, v6, .slice none 0 0] 50 (0, 0)) := t6
  obtain ⟨b7, t7⟩ := put1 b6 t6 7 v7
  obtain ⟨x7, e7⟩ : ∃ x, x6.setCell ⟨W.heap.size, 7, none⟩ v7 = x := ⟨_, rfl⟩
  rw [e7] at b7 t7 ⊢
  have t7 : x7.heap[W.heap.size]? = some (.cells #[v0, v1, v2, v3, v4, v5, v6, v7] 50 (0, 0)) := t7
  refine ⟨x7, rfl, ?_, b7⟩
  refine ⟨?_, ?_, ?_, ?_, ?_, ?_, ?_, ?_⟩ <;> (rw [Lib.cell_of_heap t7]; rfl)

theorem take_head (l : List UInt8) {k : Nat} (hk : 1 ≤ k) : (l.take k).getD 0 0 = l.getD 0 0 := by
  cases k with
  | zero => omega
  | succ k => cases l <;> rfl
/-- Bytes as runes of no place. -/
def fr (l : List UInt8) : List Rn := l.map fun c => ⟨c, 0, 0⟩
theorem fr_bytes (l : List UInt8) : bytesOf (fr l) = l := by simp [fr, bytesOf, List.map_map, Function.comp_def]
theorem fr_len (l : List UInt8) : (fr l).length = l.length := by simp [fr]
theorem byte_at (s : ByteArray) (k : Nat) (h : k < s.size) : s.data.toList[k]? = some s[k] := by
  have hl : k < s.data.toList.length := by rw [len_byte]; exact h
  have := get_byte s k h
  rw [List.getD_eq_getElem?_getD, List.getElem?_eq_getElem hl] at this
  rw [List.getElem?_eq_getElem hl]
  simpa using this
theorem fr_push (s : ByteArray) (k : Nat) (h : k < s.size) : fr (s.data.toList.take (k + 1)) = fr (s.data.toList.take k) ++ [⟨s[k], 0, 0⟩] := by
  rw [List.take_add_one, byte_at s k h]
  simp [fr]
theorem fr_take (s : ByteArray) (k : Nat) (h : k ≤ s.size) : (fr (s.data.toList.take k)).length = k := by
  rw [fr_len, List.length_take, len_byte]
  omega
def FrRel (W : World) (s : ByteArray) (m : Nat) (v i : Value) (w : World) : Prop := ∃ (k : Nat) (a : Option Addr) (cap : Nat), i = .int .i64 (k : Int) ∧ k ≤ m ∧ k ≤ s.size ∧ v = .slice a k cap ∧ RRow W (.slice a k cap) (fr (s.data.toList.take k)) w
theorem fr_next {W : World} {s : ByteArray} {k : Nat} {a : Option Addr} {cap : Nat} {x : Int} {w : World} (hk : k < s.size) (h : Up W 71 3 (.slice a (k + 1) cap) (k + 1) (rcells (fr (s.data.toList.take k)) ++ [.int .u8 x, .int .i64 0, .int .i64 0]) w) (hx : x = (s[k].toNat : Int)) : RRow W (.slice a (k + 1) cap) (fr (s.data.toList.take (k + 1))) w := by
  rw [fr_push s k hk]
  have hl := fr_take s k (by omega)
  have h' : Up W 71 3 (.slice a (k + 1) cap) ((fr (s.data.toList.take k)).length + 1) (rcells (fr (s.data.toList.take k)) ++ [.int .u8 x, .int .i64 0, .int .i64 0]) w := by rw [hl]; exact h
  exact RRow.push ⟨s[k], 0, 0⟩ h' hx rfl rfl

set_option maxRecDepth 100000 in
set_option maxHeartbeats 3200000 in
theorem rquotes_quo (s : ByteArray) (w : World) (hs : s.size ≤ 10000) (h1 : 1 ≤ s.size) (h34 : s.data.toList.getD 0 0 = 34) : Calls Try.prog 41 #[.string s] w (TruePost w) := by
  obtain ⟨i0, hi, hz0, hz1, hz2⟩ := info_parts Try.infoRRune
  have HR0 : Hid (RRow w (.slice none 0 0) (fr (s.data.toList.take 0)) w) := Lib.hid (up_nil w _ 3)
  have H34 := Lib.hid h34
  clear h34
  go_enter Try.func41, Try.ntmps41
  go_wp2
  go_loopw [3, 4] (fun v i w' => FrRel w s 3 v i w') (fun _ i _ => 3 - (intOf i).toNat)
  case atStart => exact ⟨0, none, 0, rfl, Nat.zero_le _, Nat.zero_le _, rfl, HR0.out⟩
  case round =>
    obtain ⟨k, a, cap, rfl, hk3, hk, rfl, hU⟩ := hrel
    have HU : Hid (Up w 71 3 (.slice a k cap) k (rcells (fr (s.data.toList.take k))) wr) := Lib.hid (by have h := hU; unfold RRow at h; rw [fr_take s k hk] at h; exact h)
    by_cases hlt : k < s.size
    · by_cases h3 : k < 3
      · have hkI : (k : Int) < (s.size : Int) := by omega
        have h3I : (k : Int) < 3 := by omega
        clear hU
        go_wp2_with (at_builtin; refine wpList_append_ex rfl (.tmp 15) (.tmp 20) 68 rfl _ (app_up Try.underlying68 hi hz0 hz1 hz2 rfl (by decide) (by decide) (HU.out.alloc _) (src_three _ _ _ _ _) three_one (by omega)) ?_; intro v2 w2 hu2; obtain ⟨a2, cap2, rfl, -, -, -⟩ := row_form hu2.1; have U2 := Lib.hid (fr_next hlt hu2 rfl); clear hu2)
        go_roundw
        case rel => exact ⟨k + 1, a2, cap2, by go_num, h3, hlt, rfl, U2.out⟩
        case measure => simp [intOf]; omega
      · have hkI : (k : Int) < (s.size : Int) := by omega
        have h3I : ¬ (k : Int) < 3 := by omega
        have HL : Hid (Calls Try.prog 55 #[.slice a k cap, .int .i64 0] wr (LetPost 0 wr)) := Lib.hid (letters_is (RRow.at hU) 0 (by omega) (fr_bytes _) (by
          rw [show (s.data.toList.take k).getD 0 0 = 34 from by rw [take_head _ (by omega)]; exact H34.out]
          rfl))
        have HB := Lib.hid hU.2
        clear hU
        go_wp2_with (go_at_call 55; (with_reducible refine HL.out.mono ?_); rintro e w' ⟨rfl, rfl⟩)
        go_ret
        exact ⟨rfl, HB.out⟩
    · have hkI : ¬ (k : Int) < (s.size : Int) := by omega
      have HL : Hid (Calls Try.prog 55 #[.slice a k cap, .int .i64 0] wr (LetPost 0 wr)) := Lib.hid (letters_is (RRow.at hU) 0 (by omega) (fr_bytes _) (by
          rw [show (s.data.toList.take k).getD 0 0 = 34 from by rw [take_head _ (by omega)]; exact H34.out]
          rfl))
      have HB := Lib.hid hU.2
      clear hU
      go_wp2_with (go_at_call 55; (with_reducible refine HL.out.mono ?_); rintro e w' ⟨rfl, rfl⟩)
      go_ret
      exact ⟨rfl, HB.out⟩

theorem quo_non : ∀ (l : List UInt8), (∀ c ∈ l, c ≠ 10) → (10 : UInt8) ∈ quoL l → False
  | [], _, h => by cases h
  | c :: r, hc, h => by
    have h : (10 : UInt8) ∈ (if c = 34 ∨ c = 92 then 92 :: c :: quoL r else c :: quoL r) := h
    have hc0 := hc c List.mem_cons_self
    have ih := quo_non r fun d hd => hc d (List.mem_cons_of_mem _ hd)
    split at h
    · rcases List.mem_cons.1 h with h | h
      · exact absurd h (by decide)
      · rcases List.mem_cons.1 h with h | h
        · exact hc0 h.symm
        · exact ih h
    · rcases List.mem_cons.1 h with h | h
      · exact hc0 h.symm
      · exact ih h
def OneBox (W : World) (w : World) : Prop := Below W.heap.size W w ∧ w.heap[W.heap.size]? = some (.cells #[.int .i64 0, .string ⟨#[]⟩, .bool false, .string ⟨#[]⟩, .int .i64 0, .int .i64 0, .bool false, .slice none 0 0] 50 (0, 0))
theorem OneBox.zeros {W : World} {w : World} (h : OneBox W w) : w.cell? ⟨W.heap.size, 0, none⟩ = some (.int .i64 0) ∧ w.cell? ⟨W.heap.size, 1, none⟩ = some (.string ⟨#[]⟩) ∧ w.cell? ⟨W.heap.size, 2, none⟩ = some (.bool false) ∧ w.cell? ⟨W.heap.size, 3, none⟩ = some (.string ⟨#[]⟩) ∧
    w.cell? ⟨W.heap.size, 4, none⟩ = some (.int .i64 0) ∧ w.cell? ⟨W.heap.size, 5, none⟩ = some (.int .i64 0) ∧ w.cell? ⟨W.heap.size, 6, none⟩ = some (.bool false) ∧ w.cell? ⟨W.heap.size, 7, none⟩ = some (.slice none 0 0) := by
  refine ⟨?_, ?_, ?_, ?_, ?_, ?_, ?_, ?_⟩ <;> (rw [Lib.cell_of_heap h.2]; rfl)
theorem OneBox.free {W : World} {w : World} (h : OneBox W w) : ∀ k, w.frozen? ⟨W.heap.size, k, none⟩ = false := fun k => frozen_of_row w _ k _ _ h.2
def OneQ (q : ByteArray) (W : World) (e : Ending) (w' : World) : Prop := e = .returned (.tuple #[.agg #[.int .i64 4, .string q, .bool false, .string ⟨#[]⟩, .int .i64 0, .int .i64 0, .bool false, .slice none 0 0], .bool true]) ∧ Below W.heap.size W w'

set_option maxRecDepth 100000 in
set_option maxHeartbeats 6400000 in
theorem rone_quoted {l : List UInt8} (q : ByteArray) (W : World) (hq : q.data.toList = quotedL l) (h10 : ∀ c ∈ l, c ≠ 10) (hs : q.size ≤ 10000) : Calls Try.prog 25 #[.string q] W (OneQ q W) := by
  obtain ⟨i0, hi, hz0, hz1, hz2⟩ := info_parts Try.infoRRune
  have hln : q.size = (quotedL l).length := by rw [← len_byte, hq]
  have h1 : 1 ≤ q.size := by rw [hln]; simp [quotedL]
  have h34 : q.data.toList.getD 0 0 = 34 := by rw [hq]; rfl
  have HQU : Hid (∀ X : World, Calls Try.prog 41 #[.string q] X (TruePost X)) := Lib.hid (fun X => rquotes_quo q X hs h1 h34)
  have HWH : Hid (∀ (c : UInt8) (X : World), Calls Try.prog 40 #[.int .u8 (c.toNat : Int)] X (BoolPost (isWhi c) X)) := Lib.hid (fun c X => rWhite_any c X)
  have HNO : Hid (∀ (k : Nat) (h : k < q.size), q[k] ≠ 10) := Lib.hid (fun k h e => by
    have hm : q[k] ∈ q.data.toList := List.mem_of_getElem? (byte_at q k h)
    rw [hq, e] at hm
    simp only [quotedL, List.mem_cons, List.mem_append, List.not_mem_nil, or_false] at hm
    rcases hm with h | h | h
    · exact absurd h (by decide)
    · exact quo_non l h10 h
    · exact absurd h (by decide))
  have hbox : OneBox W (W.alloc (.cells #[.int .i64 0, .string ⟨#[]⟩, .bool false, .string ⟨#[]⟩, .int .i64 0, .int .i64 0, .bool false, .slice none 0 0] 50)) := ⟨(Below.refl _ _).alloc (Nat.le_refl _) _, heap_alloc_new _ _⟩
  have hlt0 : W.heap.size < (W.alloc (.cells #[.int .i64 0, .string ⟨#[]⟩, .bool false, .string ⟨#[]⟩, .int .i64 0, .int .i64 0, .bool false, .slice none 0 0] 50)).heap.size := by simp
  have htk := quoted_tok l h10
  have HALL : Hid (∀ (X : World) (a : Option Addr) (cap : Nat), RsAt (fr q.data.toList) (.slice a q.size cap) X → Calls Try.prog 42 #[.slice a q.size cap, .int .i64 0] X (ComPost (0, false) X) ∧ Calls Try.prog 43 #[.slice a q.size cap, .int .i64 0] X (fun e w' => e = .returned (.tuple #[.int .i64 4, .int .i64 (q.size : Int), .bool false]) ∧ Below X.heap.size X w')) := Lib.hid (fun X a cap h => by
    have hlf : (fr q.data.toList).length = q.size := by rw [fr_len, len_byte]
    refine ⟨?_, ?_⟩
    · have hc := rcom_no h 0 (by omega) (by rw [fr_bytes, h34]; exact .inl (by decide))
      rw [com_none (by rw [fr_bytes, h34]; exact .inl (by decide))] at hc
      exact hc
    · have hn := rnext_any h 0 (by rw [hlf]; omega) (by rw [hlf]; omega) (fr_bytes _)
      unfold NextPost at hn
      rw [List.drop_zero, hq, htk, Nat.zero_add, ← hln] at hn
      exact hn)
  obtain ⟨W1, hW1⟩ : ∃ W1, W.alloc (.cells #[.int .i64 0, .string ⟨#[]⟩, .bool false, .string ⟨#[]⟩, .int .i64 0, .int .i64 0, .bool false, .slice none 0 0] 50) = W1 := ⟨_, rfl⟩
  have HBX : Hid (∀ X : World, Below W1.heap.size W1 X → OneBox W X) := Lib.hid (fun X hX => by
    rw [hW1] at hbox hlt0
    exact ⟨below_up hbox.1 hX, (hX.block _ hlt0).trans hbox.2⟩)
  have HR0 : Hid (RRow W1 (.slice none 0 0) (fr (q.data.toList.take 0)) W1) := Lib.hid (up_nil W1 _ 3)
  have HFL : Hid (q.data.toList.take q.size = q.data.toList) := Lib.hid (by rw [← len_byte, List.take_length])
  clear hq h10 hln h34 hbox hlt0 htk
  go_enter Try.func25, Try.ntmps25
  go_wp2
  clear hW1
  go_loopw [4, 5] (fun v i w' => FrRel W1 q q.size v i w') (fun _ i _ => q.size - (intOf i).toNat)
  case atStart => exact ⟨0, none, 0, rfl, Nat.zero_le _, Nat.zero_le _, rfl, HR0.out⟩
  case round =>
    obtain ⟨k, a, cap, rfl, hk3, hk, rfl, hU⟩ := hrel
    by_cases hlt : k < q.size
    · have HU : Hid (Up W1 71 3 (.slice a k cap) k (rcells (fr (q.data.toList.take k))) wr) := Lib.hid (by have h := hU; unfold RRow at h; rw [fr_take q k hk] at h; exact h)
      have hkI : (k : Int) < (q.size : Int) := by omega
      have hne := HNO.out k hlt
      have hnb : (((q[k].toNat : Nat) : Int) == 10) = false := by
        rw [beq_eq_false_iff_ne]
        intro e
        exact hne (UInt8.toNat_inj.1 (by show q[k].toNat = 10; omega))
      obtain ⟨b, hb⟩ : ∃ b, isWhi q[k] = b := ⟨_, rfl⟩
      have HWK := Lib.hid (HWH.out q[k])
      rw [hb] at HWK
      clear hU hb hne
      cases b with
      | false =>
        go_wp2_with (first
          | (go_at_call 40; (with_reducible refine (HWK.out _).mono ?_); rintro e w' ⟨rfl, rfl⟩)
          | (at_builtin; refine wpList_append_ex rfl (.tmp 33) (.tmp 38) 68 rfl _ (app_up Try.underlying68 hi hz0 hz1 hz2 rfl (by decide) (by decide) (HU.out.alloc _) (src_three _ _ _ _ _) three_one (by omega)) ?_; intro v2 w2 hu2; obtain ⟨a2, cap2, rfl, -, -, -⟩ := row_form hu2.1; have U2 := Lib.hid (fr_next hlt hu2 rfl); clear hu2))
        go_roundw
        case rel => exact ⟨k + 1, a2, cap2, by go_num, hlt, hlt, rfl, U2.out⟩
        case measure => simp [intOf]; omega
      | true =>
        go_wp2_with (first
          | (go_at_call 40; (with_reducible refine (HWK.out _).mono ?_); rintro e w' ⟨rfl, rfl⟩)
          | (go_at_call 41; (with_reducible refine (HQU.out _).mono ?_); rintro e w3 ⟨rfl, hb3⟩; have HU3 := Lib.hid (HU.out.over hb3); clear hb3)
          | (at_builtin; refine wpList_append_ex rfl (.tmp 33) (.tmp 38) 68 rfl _ (app_up Try.underlying68 hi hz0 hz1 hz2 rfl (by decide) (by decide) (HU3.out.alloc _) (src_three _ _ _ _ _) three_one (by omega)) ?_; intro v2 w2 hu2; obtain ⟨a2, cap2, rfl, -, -, -⟩ := row_form hu2.1; have U2 := Lib.hid (fr_next hlt hu2 rfl); clear hu2))
        go_roundw
        case rel => exact ⟨k + 1, a2, cap2, by go_num, hlt, hlt, rfl, U2.out⟩
        case measure => simp [intOf]; omega
    · have hkI : ¬ (k : Int) < (q.size : Int) := by omega
      obtain rfl : k = q.size := by omega
      have hrs : RsAt (fr q.data.toList) (.slice a q.size cap) wr := by have h := RRow.at hU; rw [HFL.out] at h; exact h
      have HC := Lib.hid (HALL.out wr a cap hrs).1
      have HNX := Lib.hid (HALL.out wr a cap hrs).2
      have HB := Lib.hid hU.2
      have hne0 : ((q.size : Int) == 0) = false := by rw [beq_eq_false_iff_ne]; omega
      have hnn : ((q.size : Int) != (q.size : Int)) = false := by simp
      clear hU hrs
      go_wp2_with (first
        | (go_at_call 42; (with_reducible refine HC.out.mono ?_); rintro e w' ⟨rfl, rfl⟩)
        | (go_at_call 43; (with_reducible refine HNX.out.mono ?_); rintro e w3 ⟨rfl, hb3⟩; have HOB := Lib.hid (HBX.out _ (below_up HB.out hb3)); obtain ⟨z0, z1, z2, z3, z4, z5, z6, z7⟩ := HOB.out.zeros; have zf := HOB.out.free; clear hb3))
      obtain ⟨X, hX, ⟨y0, y1, y2, y3, y4, y5, y6, y7⟩, hB⟩ := box_done HOB.out.1 HOB.out.2 (.int .i64 4) (.string q) (.bool false) (.string ⟨#[]⟩) (.int .i64 0) (.int .i64 0) (.bool false) (.slice none 0 0)
      rw [hX]
      exact bodyPost_ret (v := .tuple #[.agg #[.int .i64 4, .string q, .bool false, .string ⟨#[]⟩, .int .i64 0, .int .i64 0, .bool false, .slice none 0 0], .bool true]) (by simp [results, Try.results25, go_sem, y0, y1, y2, y3, y4, y5, y6, y7]) rfl ⟨rfl, hB⟩

end Go.Proofs.Ytipipookgcdfbaa
