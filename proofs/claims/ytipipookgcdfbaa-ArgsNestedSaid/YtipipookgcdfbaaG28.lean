/-
  Texts of the proof, put together: LibB, AgBd, AgUnL.
-/
import Derived.Shelf.Strings.Builder1
import Derived.Shelf.Small.Strs
import Derived.Shelf.Strings.BuilderF
import Derived.Shelf.Strings.BuilderK
import Derived.Shelf.Strings.Search1
import Derived.Shelf.Strings.Prefix
import Derived.Test.YtipipookgcdfbaaProg
import Derived.Test.YtipipookgcdfbaaG27
import Derived.Test.YtipipookgcdfbaaG13
import Derived.Test.YtipipookgcdfbaaG21
import Derived.Test.YtipipookgcdfbaaG24

/-
  What is used here of the contracts of the library, laid at this program.
-/
namespace Go.Proofs
open Go.Shelf Go.RowKit

def Try.lays169_ren : Go.Shelf.Ren := ⟨fun | 169 => 53 | n => n, fun | 70 => 92 | 9 => 9 | 0 => 0 | 72 => 94 | 37 => 51 | 127 => 110 | 3 => 3 | 5 => 5 | n => n, fun | n => n⟩

theorem Try.lays169 : Go.Proofs.Lays.n169 Try.prog Try.lays169_ren := {
  mixed := by kernel_rfl
  f169 := Try.func53.trans (congrArg some (by kernel_rfl))
  t0 := Try.underlying0
  a0 := Try.isAgg0
  z0 := Try.sizeOf0
  v0 := Try.zeroValue0
  t3 := Try.underlying3
  a3 := Try.isAgg3
  z3 := Try.sizeOf3
  v3 := Try.zeroValue3
  t9 := Try.underlying9
  a9 := Try.isAgg9
  z9 := Try.sizeOf9
  v9 := Try.zeroValue9
  t37 := Try.underlying51
  a37 := Try.isAgg51
  z37 := Try.sizeOf51
  v37 := Try.zeroValue51
  t70 := Try.underlying92
  a70 := Try.isAgg92
  z70 := Try.sizeOf92
  v70 := Try.zeroValue92
  t72 := Try.underlying94
  a72 := Try.isAgg94
  z72 := Try.sizeOf94
  v72 := Try.zeroValue94
  t127 := Try.underlying110
  a127 := Try.isAgg110
  z127 := Try.sizeOf110
  v127 := Try.zeroValue110 }

theorem Try.Builder_Extra_169 : Builder.Extra Try.prog Try.lays169_ren := {
  sizeBuilder := by kernel_rfl
  liesBuilder := by kernel_rfl
  t5 := Try.underlying5
  a5 := Try.isAgg5
  z5 := Try.sizeOf5
  v5 := Try.zeroValue5
  infoByte := by kernel_rfl
  cellsByte := by kernel_rfl
  sizeByte := by kernel_rfl
  neB5 := by decide }
open Go.RowKit in

theorem Try.Builder_String_any (B b : Nat) (l : List UInt8) (w : World) (h : Lib.IsBuilder 94 5 B b (Lib.byteCells l) w) (hBw : B ≤ w.heap.size) :
    Calls Try.prog 53 #[.pointer (some ⟨b, 0, none⟩)] w fun e w' => e = .returned (.string ⟨l.toArray⟩) ∧ Below B w w' := Any.Builder_String_any Try.lays169 Try.Builder_Extra_169 B b l w h hBw


def Try.w166_ren : Go.Shelf.Ren := ⟨fun | 166 => 54 | 167 => 52 | 240 => 72 | 276 => 81 | n => n,
  fun | 0 => 0 | 3 => 3 | 4 => 4 | 5 => 5 | 9 => 9 | 20 => 20 | 37 => 51 | 70 => 92 | 72 => 94 | 75 => 96 | 80 => 98 | 164 => 114 | n => n, fun n => n⟩

theorem Try.lays166x : Lays.n166 Try.prog Try.w166_ren := {
  mixed := by kernel_rfl
  f166 := Try.func54.trans (congrArg some (by kernel_rfl))
  f240 := Try.func72.trans (congrArg some (by kernel_rfl))
  f276 := Try.func81.trans (congrArg some (by kernel_rfl))
  t0 := Try.underlying0
  a0 := Try.isAgg0
  z0 := Try.sizeOf0
  v0 := Try.zeroValue0
  t3 := Try.underlying3
  a3 := Try.isAgg3
  z3 := Try.sizeOf3
  v3 := Try.zeroValue3
  t4 := Try.underlying4
  a4 := Try.isAgg4
  z4 := Try.sizeOf4
  v4 := Try.zeroValue4
  t9 := Try.underlying9
  a9 := Try.isAgg9
  z9 := Try.sizeOf9
  v9 := Try.zeroValue9
  t20 := Try.underlying20
  a20 := Try.isAgg20
  z20 := Try.sizeOf20
  v20 := Try.zeroValue20
  t37 := Try.underlying51
  a37 := Try.isAgg51
  z37 := Try.sizeOf51
  v37 := Try.zeroValue51
  t70 := Try.underlying92
  a70 := Try.isAgg92
  z70 := Try.sizeOf92
  v70 := Try.zeroValue92
  t72 := Try.underlying94
  a72 := Try.isAgg94
  z72 := Try.sizeOf94
  v72 := Try.zeroValue94
  t75 := Try.underlying96
  a75 := Try.isAgg96
  z75 := Try.sizeOf96
  v75 := Try.zeroValue96
  t164 := Try.underlying114
  a164 := Try.isAgg114
  z164 := Try.sizeOf114
  v164 := Try.zeroValue114 }

theorem Try.extra166x : Builder.Extra Try.prog Try.w166_ren := {
  sizeBuilder := by kernel_rfl
  liesBuilder := by kernel_rfl
  t5 := Try.underlying5
  a5 := Try.isAgg5
  z5 := Try.sizeOf5
  v5 := Try.zeroValue5
  infoByte := by kernel_rfl
  cellsByte := by kernel_rfl
  sizeByte := by kernel_rfl
  neB5 := by decide }

open Go.RowKit in
theorem Try.Builder_WriteString (B b : Nat) (bs : List Value) (s : ByteArray) (w : World) (h : Lib.IsBuilder 94 5 B b bs w) (hlen : bs.length + s.size ≤ 140737488355328) (hBw : B ≤ w.heap.size) :
    Calls Try.prog 54 #[.pointer (some ⟨b, 0, none⟩), .string s] w fun e w' => e = .returned (.tuple #[.int .i64 s.size, .nilIface]) ∧ (Lib.BuilderAt 94 5 B b (.pointer (some ⟨b, 0, none⟩)) (bs ++ Lib.strCells s) w' ∧ Below B w w') := Any.Builder_WriteString Try.lays166x Try.extra166x B b bs s w h hlen hBw

theorem Try.lays167x : Lays.n167 Try.prog Try.w166_ren := {
  mixed := by kernel_rfl
  f167 := Try.func52.trans (congrArg some (by kernel_rfl))
  f240 := Try.func72.trans (congrArg some (by kernel_rfl))
  f276 := Try.func81.trans (congrArg some (by kernel_rfl))
  t0 := Try.underlying0
  a0 := Try.isAgg0
  z0 := Try.sizeOf0
  v0 := Try.zeroValue0
  t4 := Try.underlying4
  a4 := Try.isAgg4
  z4 := Try.sizeOf4
  v4 := Try.zeroValue4
  t5 := Try.underlying5
  a5 := Try.isAgg5
  z5 := Try.sizeOf5
  v5 := Try.zeroValue5
  t9 := Try.underlying9
  a9 := Try.isAgg9
  z9 := Try.sizeOf9
  v9 := Try.zeroValue9
  t20 := Try.underlying20
  a20 := Try.isAgg20
  z20 := Try.sizeOf20
  v20 := Try.zeroValue20
  t37 := Try.underlying51
  a37 := Try.isAgg51
  z37 := Try.sizeOf51
  v37 := Try.zeroValue51
  t70 := Try.underlying92
  a70 := Try.isAgg92
  z70 := Try.sizeOf92
  v70 := Try.zeroValue92
  t72 := Try.underlying94
  a72 := Try.isAgg94
  z72 := Try.sizeOf94
  v72 := Try.zeroValue94
  t75 := Try.underlying96
  a75 := Try.isAgg96
  z75 := Try.sizeOf96
  v75 := Try.zeroValue96
  t164 := Try.underlying114
  a164 := Try.isAgg114
  z164 := Try.sizeOf114
  v164 := Try.zeroValue114 }

open Go.RowKit in
theorem Try.Builder_WriteByte (B b : Nat) (bs : List Value) (c : Int) (w : World) (h : Lib.IsBuilder 94 5 B b bs w) (hlen : bs.length + 1 ≤ 140737488355328) (hBw : B ≤ w.heap.size) :
    Calls Try.prog 52 #[.pointer (some ⟨b, 0, none⟩), .int .u8 c] w fun e w' => e = .returned .nilIface ∧ (Lib.BuilderAt 94 5 B b (.pointer (some ⟨b, 0, none⟩)) (bs ++ [.int .u8 c]) w' ∧ Below B w w') := Any.Builder_WriteByte Try.lays167x Try.extra166x B b bs c w h hlen hBw

end Go.Proofs

/-
  Texts put together by a Builder; escaped, plain, Quoted, walked.
-/
namespace Go.Proofs.Ytipipookgcdfbaa
open Go.RowKit

/-- The Builder in block c holds these bytes. -/
def Bld (c : Nat) (l : List UInt8) (w : World) : Prop := Lib.IsBuilder 94 5 c c (Lib.byteCells l) w
theorem bld_new (w : World) : Bld w.heap.size [] (w.alloc (.cells #[.pointer none, .slice none 0 0] 94)) := Lib.fresh_isBuilder _ _ w
def BldPost (v : Value) (c : Nat) (l : List UInt8) (w : World) (e : Ending) (w' : World) : Prop := e = .returned v ∧ Bld c l w' ∧ Below c w w'
theorem bld_byte {c : Nat} {l : List UInt8} {w : World} (h : Bld c l w) (b : UInt8) {n : Int} (hn : n = (b.toNat : Int)) (hl : l.length ≤ 10000000) (hc : c ≤ w.heap.size) : Calls Try.prog 52 #[.pointer (some ⟨c, 0, none⟩), .int .u8 n] w (BldPost .nilIface c (l ++ [b]) w) := by
  subst hn
  refine (Try.Builder_WriteByte c c _ (b.toNat : Int) w h (by rw [Lib.byteCells_length]; omega) hc).mono ?_
  rintro e w' ⟨rfl, hb, hbel⟩
  refine ⟨rfl, .inr ?_, hbel⟩
  rw [show [Value.int .u8 (b.toNat : Int)] = Lib.byteCells [b] from rfl, ← Lib.byteCells_append] at hb
  exact hb
theorem bld_text {c : Nat} {l : List UInt8} {w : World} (h : Bld c l w) (s : ByteArray) (hl : l.length + s.size ≤ 10000000) (hc : c ≤ w.heap.size) : Calls Try.prog 54 #[.pointer (some ⟨c, 0, none⟩), .string s] w (BldPost (.tuple #[.int .i64 s.size, .nilIface]) c (l ++ s.data.toList) w) := by
  refine (Try.Builder_WriteString c c _ s w h (by rw [Lib.byteCells_length]; omega) hc).mono ?_
  rintro e w' ⟨rfl, hb, hbel⟩
  refine ⟨rfl, .inr ?_, hbel⟩
  rw [Lib.strCells_eq, ← Lib.byteCells_append] at hb
  exact hb
theorem bld_str {c : Nat} {l : List UInt8} {w : World} (h : Bld c l w) (hc : c ≤ w.heap.size) : Calls Try.prog 53 #[.pointer (some ⟨c, 0, none⟩)] w fun e w' => e = .returned (.string ⟨l.toArray⟩) ∧ Below c w w' := Try.Builder_String_any c c l w h hc

def specB (c : UInt8) : Bool := decide (c = 34) || decide (c = 92)
theorem byte_isB (c : UInt8) (n : Nat) (hn : n < 256) : (((c.toNat : Nat) : Int) == (n : Int)) = decide (c = UInt8.ofNat n) := by
  by_cases h : c = UInt8.ofNat n
  · rw [byte_eqB hn h, decide_eq_true h]
  · rw [byte_neB hn h, decide_eq_false h]
theorem special_any (c : UInt8) (w : World) : Calls Try.prog 51 #[.int .u8 (c.toNat : Int)] w (BoolPost (specB c) w) := by
  have h1 := byte_isB c 34 (by decide)
  have h2 := byte_isB c 92 (by decide)
  obtain ⟨b1, e1⟩ : ∃ b, decide (c = 34) = b := ⟨_, rfl⟩
  obtain ⟨b2, e2⟩ : ∃ b, decide (c = 92) = b := ⟨_, rfl⟩
  have h1 : (((c.toNat : Nat) : Int) == 34) = b1 := h1.trans e1
  have h2 : (((c.toNat : Nat) : Int) == 92) = b2 := h2.trans e2
  unfold specB
  rw [e1, e2]
  clear e1 e2
  cases b1 <;> cases b2
  all_goals
    go_enter Try.func51, Try.ntmps51
    go_wp2
    go_ret
    exact ⟨rfl, rfl⟩

theorem quoL_snoc : ∀ (l : List UInt8) (c : UInt8), quoL (l ++ [c]) = quoL l ++ (if specB c then [92, c] else [c])
  | [], c => by
    show (if c = 34 ∨ c = 92 then 92 :: c :: quoL [] else c :: quoL []) = _
    unfold specB
    by_cases h : c = 34 ∨ c = 92
    · rw [if_pos h]
      have : (decide (c = 34) || decide (c = 92)) = true := by simpa using h
      rw [this]
      rfl
    · rw [if_neg h]
      have : (decide (c = 34) || decide (c = 92)) = false := by simpa using h
      rw [this]
      rfl
  | a :: l, c => by
    have ih := quoL_snoc l c
    show (if a = 34 ∨ a = 92 then 92 :: a :: quoL (l ++ [c]) else a :: quoL (l ++ [c])) = (if a = 34 ∨ a = 92 then 92 :: a :: quoL l else a :: quoL l) ++ _
    rw [ih]
    split <;> simp
theorem quoL_le : ∀ l : List UInt8, (quoL l).length ≤ 2 * l.length
  | [] => Nat.le_refl _
  | a :: l => by
    have ih := quoL_le l
    show (if a = 34 ∨ a = 92 then 92 :: a :: quoL l else a :: quoL l).length ≤ _
    split <;> (simp only [List.length_cons]; omega)
theorem quoL_ge : ∀ l : List UInt8, l.length ≤ (quoL l).length
  | [] => Nat.le_refl _
  | a :: l => by
    have ih := quoL_ge l
    show _ ≤ (if a = 34 ∨ a = 92 then 92 :: a :: quoL l else a :: quoL l).length
    split <;> (simp only [List.length_cons]; omega)

/-- A text as a list. -/
theorem bytes_at {s : ByteArray} {k : Nat} (h : k < s.size) : s.data.toList[k]? = some s[k] := by
  rw [List.getElem?_eq_getElem (by simpa using h)]
  rfl
theorem bytes_take {s : ByteArray} {k : Nat} (h : k < s.size) : s.data.toList.take (k + 1) = s.data.toList.take k ++ [s[k]] := by
  rw [List.take_add_one, bytes_at h]
  rfl
theorem bytes_len (s : ByteArray) : s.data.toList.length = s.size := Array.length_toList

def EsRel (w : World) (s : ByteArray) (t7 : Value) (wr : World) : Prop :=
  ∃ k : Nat, t7 = .int .i64 (k : Int) ∧ k ≤ s.size ∧ Bld w.heap.size (quoL (s.data.toList.take k)) wr ∧ Below w.heap.size w wr

set_option maxRecDepth 100000 in
set_option maxHeartbeats 3200000 in
theorem escaped_any (s : ByteArray) (w : World) (hs : s.size ≤ 1000000) : Calls Try.prog 38 #[.string s] w (StrNew ⟨(quoL s.data.toList).toArray⟩ w) := by
  go_enter Try.func38, Try.ntmps38
  go_wp2
  go_loopw [7] (EsRel w s) (fun i _ => s.size - (intOf i).toNat)
  case atStart => exact ⟨0, rfl, Nat.zero_le _, bld_new w, (Below.refl _ _).alloc (Nat.le_refl _) _⟩
  case round =>
    obtain ⟨k, rfl, hk, hB, hW⟩ := hrel
    have HB := Lib.hid hB
    have HW := Lib.hid hW
    clear hB hW
    by_cases hlt : k < s.size
    · obtain ⟨c, hc⟩ : ∃ c, s[k] = c := ⟨_, rfl⟩
      have HTK : Hid (s.data.toList.take (k + 1) = s.data.toList.take k ++ [c]) := Lib.hid (by rw [bytes_take hlt, hc])
      have HSP : Hid (∀ X : World, Calls Try.prog 51 #[.int .u8 (c.toNat : Int)] X (BoolPost (specB c) X)) := Lib.hid (fun X => special_any c X)
      have HLE : Hid ((quoL (s.data.toList.take k)).length ≤ 2000000) := Lib.hid (by
        have := quoL_le (s.data.toList.take k)
        rw [List.length_take] at this
        omega)
      have hci : ((s[k]'hlt).toNat : Int) = (c.toNat : Int) := by rw [hc]
      have hkI : (k : Int) < (s.size : Int) := by omega
      have HQ := Lib.hid (quoL_snoc (s.data.toList.take k) c)
      clear hc
      cases hb : specB c with
      | true =>
        rw [hb] at HSP HQ
        clear hb
        go_wp2_with (first
          | (go_at_call 51; (with_reducible refine (HSP.out _).mono ?_); rintro e w' ⟨rfl, rfl⟩)
          | (go_at_call 52; first
              | ((with_reducible refine (bld_byte (n := 92) HB.out 92 (by decide) (by have := HLE.out; omega) HW.out.size).mono ?_); rintro e w2 ⟨rfl, h2, b2⟩; have HB2 := Lib.hid h2; have HW2 := Lib.hid (HW.out.trans b2); clear h2 b2)
              | ((with_reducible refine (bld_byte HB2.out c rfl (by rw [List.length_append]; have := HLE.out; simp; omega) HW2.out.size).mono ?_); rintro e w3 ⟨rfl, h3, b3⟩; have HB3 := Lib.hid h3; have HW3 := Lib.hid (HW2.out.trans b3); clear h3 b3)))
        go_roundw
        case rel => exact ⟨k + 1, by go_num, hlt, by rw [HTK.out, HQ.out]; have h := HB3.out; rw [List.append_assoc] at h; exact h, HW3.out⟩
        case measure => simp [intOf]; omega
      | false =>
        rw [hb] at HSP HQ
        clear hb
        go_wp2_with (first
          | (go_at_call 51; (with_reducible refine (HSP.out _).mono ?_); rintro e w' ⟨rfl, rfl⟩)
          | (go_at_call 52; ((with_reducible refine (bld_byte HB.out c rfl (by have := HLE.out; omega) HW.out.size).mono ?_); rintro e w3 ⟨rfl, h3, b3⟩; have HB3 := Lib.hid h3; have HW3 := Lib.hid (HW.out.trans b3); clear h3 b3)))
        go_roundw
        case rel => exact ⟨k + 1, by go_num, hlt, by rw [HTK.out, HQ.out]; exact HB3.out, HW3.out⟩
        case measure => simp [intOf]; omega
    · have hkI : ¬ (k : Int) < (s.size : Int) := by omega
      have HE : Hid (s.data.toList.take k = s.data.toList) := Lib.hid (List.take_of_length_le (by rw [bytes_len]; omega))
      go_wp2_with (go_at_call 53; (with_reducible refine (bld_str HB.out HW.out.size).mono ?_); rintro e w4 ⟨rfl, b4⟩; have HW4 := Lib.hid (HW.out.trans b4); clear b4)
      go_ret
      rw [HE.out]
      exact ⟨rfl, HW4.out⟩

theorem quoted_fits (s : ByteArray) (hs : s.size ≤ 1000000) : (ByteArray.size ⟨#[34]⟩ + ByteArray.size ⟨(quoL s.data.toList).toArray⟩ > 9223372036854775807) = False := by
  have h := quoL_le s.data.toList
  rw [bytes_len] at h
  simp only [eq_iff_iff, iff_false]
  show ¬ (1 + (quoL s.data.toList).toArray.size > _)
  rw [List.size_toArray]
  omega

end Go.Proofs.Ytipipookgcdfbaa

/-
  A string read as a text, over lists: both ways of it.
-/
namespace Go.Proofs.Ytipipookgcdfbaa
open Go.RowKit

/-- Backslashes left out. -/
def plnL : List UInt8 → List UInt8
  | [] => []
  | [c] => [c]
  | c :: d :: r => if decide (c = 92) && specB d then d :: plnL r else c :: plnL (d :: r)
theorem pln_yes {d : UInt8} (h : specB d = true) (r : List UInt8) : plnL (92 :: d :: r) = d :: plnL r := by
  show (if decide ((92 : UInt8) = 92) && specB d then _ else _) = _
  rw [h]
  rfl
theorem pln_one {c : UInt8} (h : c ≠ 92) (r : List UInt8) : plnL (c :: r) = c :: plnL r := by
  cases r with
  | nil => rfl
  | cons d r =>
    show (if decide (c = 92) && specB d then _ else _) = _
    rw [decide_eq_false h]
    rfl
theorem pln_no {d : UInt8} (h : specB d = false) (r : List UInt8) : plnL (92 :: d :: r) = 92 :: plnL (d :: r) := by
  show (if decide ((92 : UInt8) = 92) && specB d then _ else _) = _
  rw [h]
  rfl
theorem pln_le : ∀ l : List UInt8, (plnL l).length ≤ l.length
  | [] => Nat.le_refl _
  | [c] => Nat.le_refl _
  | c :: d :: r => by
    have h1 := pln_le r
    have h2 := pln_le (d :: r)
    show (if decide (c = 92) && specB d then d :: plnL r else c :: plnL (d :: r)).length ≤ _
    split
    · simp only [List.length_cons]; omega
    · simp only [List.length_cons] at h2 ⊢; omega

/-- What may stand between quotes is read so. -/
theorem unq_some : ∀ (l : List UInt8), (unqL l).isSome = true → unqL l = some (plnL l) ∧ ∀ y, qN 34 false (l ++ 34 :: y) = some (l.length + 1)
  | [], _ => ⟨rfl, fun y => rfl⟩
  | [c], h => by
    have h : (if c = 34 ∨ c = 10 ∨ c = 92 then none else some [c] : Option (List UInt8)).isSome = true := h
    by_cases hc : c = 34 ∨ c = 10 ∨ c = 92
    · rw [if_pos hc] at h; cases h
    · refine ⟨?_, fun y => ?_⟩
      · show (if c = 34 ∨ c = 10 ∨ c = 92 then none else some [c]) = _
        rw [if_neg hc]; rfl
      · show (if c = 10 then none else if false = true then _ else if c = 92 then _ else if c = 34 then some 1 else (qN 34 false (34 :: y)).map (· + 1)) = _
        rw [if_neg (fun e => hc (.inr (.inl e))), if_neg (by simp), if_neg (fun e => hc (.inr (.inr e))), if_neg (fun e => hc (.inl e))]
        rfl
  | c :: d :: r, h => by
    have e : unqL (c :: d :: r) = (if c = 34 ∨ c = 10 then none else if c ≠ 92 then (unqL (d :: r)).map (c :: ·) else if d = 34 ∨ d = 92 then (unqL r).map (d :: ·) else if d = 10 then none else (unqL r).map fun q => 92 :: d :: q) := rfl
    rw [e] at h ⊢
    by_cases hc : c = 34 ∨ c = 10
    · rw [if_pos hc] at h; cases h
    · rw [if_neg hc] at h ⊢
      by_cases h9 : c = 92
      · subst h9
        rw [if_neg (by simp)] at h ⊢
        have hq : ∀ y, d ≠ 10 → qN 34 false (r ++ 34 :: y) = some (r.length + 1) → qN 34 false ((92 :: d :: r) ++ 34 :: y) = some ((92 :: d :: r).length + 1) := by
          intro y hd hy
          show (if (92 : UInt8) = 10 then none else if false = true then _ else if (92 : UInt8) = 92 then ((if d = 10 then none else if true = true then (qN 34 false (r ++ 34 :: y)).map (· + 1) else _).map (· + 1)) else _) = _
          rw [if_neg (by decide), if_neg (by simp), if_pos rfl, if_neg hd, if_pos rfl, hy]
          rfl
        by_cases hs : d = 34 ∨ d = 92
        · rw [if_pos hs] at h ⊢
          have hr : (unqL r).isSome = true := by simpa using h
          obtain ⟨g1, g2⟩ := unq_some r hr
          refine ⟨?_, fun y => hq y (by rcases hs with rfl | rfl <;> decide) (g2 y)⟩
          rw [g1, pln_yes (by unfold specB; simpa using hs)]
          rfl
        · rw [if_neg hs] at h ⊢
          by_cases hd : d = 10
          · rw [if_pos hd] at h; cases h
          · rw [if_neg hd] at h ⊢
            have hr : (unqL r).isSome = true := by simpa using h
            obtain ⟨g1, g2⟩ := unq_some r hr
            refine ⟨?_, fun y => hq y hd (g2 y)⟩
            rw [g1, pln_no (by unfold specB; simpa using hs), pln_one (fun e => hs (.inr e))]
            rfl
      · rw [if_pos h9] at h ⊢
        have hr : (unqL (d :: r)).isSome = true := by simpa using h
        obtain ⟨g1, g2⟩ := unq_some (d :: r) hr
        refine ⟨by rw [g1, pln_one h9]; rfl, fun y => ?_⟩
        show (if c = 10 then none else if false = true then _ else if c = 92 then _ else if c = 34 then some 1 else (qN 34 false ((d :: r) ++ 34 :: y)).map (· + 1)) = _
        rw [if_neg (fun e => hc (.inr e)), if_neg (by simp), if_neg h9, if_neg (fun e => hc (.inl e)), g2 y]
        rfl
/-- .. and what is read so may. -/
theorem unq_of : ∀ (x : List UInt8), qN 34 false (x ++ [10]) = some x.length → ∃ l, x = l ++ [34] ∧ (unqL l).isSome = true
  | [], h => by cases h
  | [c], h => by
    have h : (if c = 10 then none else if false = true then _ else if c = 92 then (qN 34 true [10]).map (· + 1) else if c = 34 then some 1 else (qN 34 false [10]).map (· + 1)) = some 1 := h
    by_cases h1 : c = 10
    · rw [if_pos h1] at h; cases h
    · rw [if_neg h1, if_neg (by simp)] at h
      by_cases h2 : c = 92
      · rw [if_pos h2] at h; cases h
      · rw [if_neg h2] at h
        by_cases h3 : c = 34
        · subst h3; exact ⟨[], rfl, rfl⟩
        · rw [if_neg h3] at h; cases h
  | c :: d :: r, h => by
    have h : (if c = 10 then none else if false = true then _ else if c = 92 then (qN 34 true ((d :: r) ++ [10])).map (· + 1) else if c = 34 then some 1 else (qN 34 false ((d :: r) ++ [10])).map (· + 1)) = some (r.length + 2) := h
    by_cases h1 : c = 10
    · rw [if_pos h1] at h; cases h
    · rw [if_neg h1, if_neg (by simp)] at h
      by_cases h2 : c = 92
      · subst h2
        rw [if_pos rfl] at h
        have h : ((if d = 10 then none else if true = true then (qN 34 false (r ++ [10])).map (· + 1) else _).map (· + 1)) = some (r.length + 2) := h
        by_cases h3 : d = 10
        · rw [if_pos h3] at h; cases h
        · rw [if_neg h3, if_pos rfl] at h
          have hr : qN 34 false (r ++ [10]) = some r.length := by
            cases hq : qN 34 false (r ++ [10]) with
            | none => rw [hq] at h; cases h
            | some n => rw [hq] at h; simp at h; rw [h]
          obtain ⟨l, rfl, hl⟩ := unq_of r hr
          refine ⟨92 :: d :: l, rfl, ?_⟩
          show (if (92 : UInt8) = 34 ∨ (92 : UInt8) = 10 then none else if (92 : UInt8) ≠ 92 then _ else if d = 34 ∨ d = 92 then (unqL l).map (d :: ·) else if d = 10 then none else (unqL l).map fun q => 92 :: d :: q : Option (List UInt8)).isSome = true
          rw [if_neg (by decide), if_neg (by simp), if_neg h3]
          split <;> simpa using hl
      · rw [if_neg h2] at h
        by_cases h3 : c = 34
        · rw [if_pos h3] at h; simp at h
        · rw [if_neg h3] at h
          have hr : qN 34 false ((d :: r) ++ [10]) = some (d :: r).length := by
            cases hq : qN 34 false ((d :: r) ++ [10]) with
            | none => rw [hq] at h; cases h
            | some n => rw [hq] at h; simp at h; rw [h]; rfl
          obtain ⟨l, hl1, hl⟩ := unq_of (d :: r) hr
          refine ⟨c :: l, by rw [hl1]; rfl, ?_⟩
          cases l with
          | nil =>
            show (if c = 34 ∨ c = 10 ∨ c = 92 then none else some [c] : Option (List UInt8)).isSome = true
            rw [if_neg (by intro e; rcases e with e | e | e; exact h3 e; exact h1 e; exact h2 e)]
            rfl
          | cons e l =>
            show (if c = 34 ∨ c = 10 then none else if c ≠ 92 then (unqL (e :: l)).map (c :: ·) else _ : Option (List UInt8)).isSome = true
            rw [if_neg (by intro e; rcases e with e | e; exact h3 e; exact h1 e), if_pos h2]
            simpa using hl

end Go.Proofs.Ytipipookgcdfbaa
