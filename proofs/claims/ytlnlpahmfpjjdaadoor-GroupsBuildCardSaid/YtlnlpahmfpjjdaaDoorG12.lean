/-
  Texts of the proof, put together: DkMem, DkHash, DkKind.
-/
import Derived.Test.YtlnlpahmfpjjdaaDoorG02
import Derived.Test.YtlnlpahmfpjjdaaDoorG11

/-
  Tokens that lie somewhere, any: their sites too.
-/
namespace Go.Proofs.YtlnlpahmfpjjdaaDoor
open Go.RowKit

def SitA (s : Xs) (g o : Nat) (w : World) : Prop :=
  w.cell? ⟨g, o, none⟩ = some (.string s.m) ∧ w.cell? ⟨g, o + 1, none⟩ = some (.string s.g) ∧ w.cell? ⟨g, o + 2, none⟩ = some (.int .i64 s.f) ∧ w.cell? ⟨g, o + 3, none⟩ = some (.int .i64 s.t) ∧ w.cell? ⟨g, o + 4, none⟩ = some (.bool s.d)
/-- A row of sites, as it is read. -/
def SitsA (S : List Xs) (v : Value) (w : World) : Prop :=
  ∃ a cap, v = .slice a S.length cap ∧ S.length ≤ cap ∧ cap ≤ maxLen ∧ ∀ k s, S[k]? = some s → ∃ g o, a = some ⟨g, o, none⟩ ∧ g < w.heap.size ∧ SitA s g (o + k * 5) w
def TokX (t : Xt) (sv : Value) (g o : Nat) (w : World) : Prop :=
  w.cell? ⟨g, o, none⟩ = some (.int .i64 t.k) ∧ w.cell? ⟨g, o + 1, none⟩ = some (.string t.x) ∧ w.cell? ⟨g, o + 2, none⟩ = some (.bool t.sp) ∧ w.cell? ⟨g, o + 3, none⟩ = some (.string t.g) ∧
  w.cell? ⟨g, o + 4, none⟩ = some (.int .i64 t.f) ∧ w.cell? ⟨g, o + 5, none⟩ = some (.int .i64 t.t) ∧ w.cell? ⟨g, o + 6, none⟩ = some (.bool t.d) ∧ w.cell? ⟨g, o + 7, none⟩ = some sv
/-- A row of tokens, as it is read. -/
def ToksX (T : List Xt) (v : Value) (w : World) : Prop :=
  ∃ a cap, v = .slice a T.length cap ∧ T.length ≤ cap ∧ cap ≤ maxLen ∧ ∀ k t, T[k]? = some t → ∃ g o, a = some ⟨g, o, none⟩ ∧ g < w.heap.size ∧ ∃ sv, TokX t sv g (o + k * 8) w ∧ SitsA t.ss sv w

theorem SitA.next {s : Xs} {g o : Nat} {w w' : World} (h : SitA s g o w) (b : Below w.heap.size w w') (hg : g < w.heap.size) : SitA s g o w' :=
  ⟨bcell b h.1 hg, bcell b h.2.1 hg, bcell b h.2.2.1 hg, bcell b h.2.2.2.1 hg, bcell b h.2.2.2.2 hg⟩
theorem SitsA.over {S : List Xs} {v : Value} {w w' : World} (h : SitsA S v w) (b : Below w.heap.size w w') : SitsA S v w' := by
  obtain ⟨a, cap, hv, h1, h2, h3⟩ := h
  refine ⟨a, cap, hv, h1, h2, fun k s hs => ?_⟩
  obtain ⟨g, o, ha, hg, hc⟩ := h3 k s hs
  exact ⟨g, o, ha, Nat.lt_of_lt_of_le hg b.size, hc.next b hg⟩
theorem TokX.next {t : Xt} {sv : Value} {g o : Nat} {w w' : World} (h : TokX t sv g o w) (b : Below w.heap.size w w') (hg : g < w.heap.size) : TokX t sv g o w' := by
  obtain ⟨c0, c1, c2, c3, c4, c5, c6, c7⟩ := h
  exact ⟨bcell b c0 hg, bcell b c1 hg, bcell b c2 hg, bcell b c3 hg, bcell b c4 hg, bcell b c5 hg, bcell b c6 hg, bcell b c7 hg⟩
theorem ToksX.over {T : List Xt} {v : Value} {w w' : World} (h : ToksX T v w) (b : Below w.heap.size w w') : ToksX T v w' := by
  obtain ⟨a, cap, hv, h1, h2, h3⟩ := h
  refine ⟨a, cap, hv, h1, h2, fun k s hs => ?_⟩
  obtain ⟨g, o, ha, hg, sv, hc, hs⟩ := h3 k s hs
  exact ⟨g, o, ha, Nat.lt_of_lt_of_le hg b.size, sv, hc.next b hg, hs.over b⟩

theorem SitsA.form {S : List Xs} {v : Value} {w : World} (h : SitsA S v w) : ∃ a n cap, v = .slice a n cap ∧ n = S.length ∧ n ≤ cap ∧ cap ≤ maxLen := by
  obtain ⟨a, cap, hv, h1, h2, -⟩ := h
  exact ⟨a, _, cap, hv, rfl, h1, h2⟩
theorem sits_nil (w : World) : SitsA [] (.slice none 0 0) w := ⟨none, 0, rfl, Nat.le_refl _, Nat.zero_le _, fun k s h => by simp at h⟩
theorem toksX_nil (w : World) : ToksX [] (.slice none 0 0) w := ⟨none, 0, rfl, Nat.le_refl _, Nat.zero_le _, fun k s h => by simp at h⟩

/-- A token that was lexed, as any. -/
def xtOf (F : ByteArray) (t : Tk) : Xt := ⟨(t.k : Int), ⟨t.x.toArray⟩, t.sp, F, (t.f : Int), (t.t : Int), false, []⟩
theorem ToksAt.x {F : ByteArray} {T : List Tk} {v : Value} {w : World} (h : ToksAt F T v w) : ToksX (T.map (xtOf F)) v w := by
  obtain ⟨a, cap, hv, h1, h2, h3⟩ := h
  refine ⟨a, cap, by rw [List.length_map]; exact hv, by rw [List.length_map]; exact h1, h2, fun k t ht => ?_⟩
  rw [List.getElem?_map, Option.map_eq_some_iff] at ht
  obtain ⟨u, hu, rfl⟩ := ht
  obtain ⟨g, ha, hg, c0, c1, c2, c3, c4, c5, c6, c7⟩ := h3 k u hu
  exact ⟨g, 0, ha, hg, _, ⟨by simpa [xtOf] using c0, by simpa [xtOf] using c1, by simpa [xtOf] using c2, by simpa [xtOf] using c3, by simpa [xtOf] using c4, by simpa [xtOf] using c5, by simpa [xtOf] using c6, by simpa [xtOf] using c7⟩, sits_nil w⟩

end Go.Proofs.YtlnlpahmfpjjdaaDoor

/-
  Is a token a hash: the project's and the document's.
-/
namespace Go.Proofs.YtlnlpahmfpjjdaaDoor
open Go.RowKit

def BoolNew (b : Bool) (w : World) (e : Ending) (w' : World) : Prop := e = .returned (.bool b) ∧ Below w.heap.size w w'
def IntNew (n : Int) (w : World) (e : Ending) (w' : World) : Prop := e = .returned (.int .i64 n) ∧ Below w.heap.size w w'

theorem str_eq {a b : ByteArray} (h : a.toList = b.toList) : a = b := by
  rw [ByteArray.toList_eq, ByteArray.toList_eq] at h
  apply ByteArray.ext
  exact Array.toList_inj.1 h
theorem str_is (a b : ByteArray) : (a.toList == b.toList) = decide (a = b) := by
  by_cases h : a = b
  · subst h; simp
  · simp [h]
    exact fun e => h (str_eq e)
theorem bool_new {a b : Bool} {w w' : World} (h : a = b) (hb : Below w.heap.size w w') : BoolNew b w (.returned (.bool a)) w' := ⟨by rw [h], hb⟩
theorem int_new {a b : Int} {w w' : World} (h : a = b) (hb : Below w.heap.size w w') : IntNew b w (.returned (.int .i64 a)) w' := ⟨by rw [h], hb⟩

/-- A token's box, behind what a call made. -/
theorem box8 {w w1 : World} {c0 c1 c2 c3 c4 c5 c6 c7 : Value} {T : TypeId} (hb : Below (w.alloc (.cells #[c0, c1, c2, c3, c4, c5, c6, c7] T)).heap.size (w.alloc (.cells #[c0, c1, c2, c3, c4, c5, c6, c7] T)) w1) :
    w1.cell? ⟨w.heap.size, 0, none⟩ = some c0 ∧ w1.cell? ⟨w.heap.size, 1, none⟩ = some c1 ∧ w1.cell? ⟨w.heap.size, 2, none⟩ = some c2 ∧ w1.cell? ⟨w.heap.size, 3, none⟩ = some c3 ∧
    w1.cell? ⟨w.heap.size, 4, none⟩ = some c4 ∧ w1.cell? ⟨w.heap.size, 5, none⟩ = some c5 ∧ w1.cell? ⟨w.heap.size, 6, none⟩ = some c6 ∧ w1.cell? ⟨w.heap.size, 7, none⟩ = some c7 := by
  have hg : w.heap.size < (w.alloc (.cells #[c0, c1, c2, c3, c4, c5, c6, c7] T)).heap.size := by simp
  have hh : ∀ j u, (#[c0, c1, c2, c3, c4, c5, c6, c7] : Array Value)[j]? = some u → (w.alloc (.cells #[c0, c1, c2, c3, c4, c5, c6, c7] T)).cell? ⟨w.heap.size, j, none⟩ = some u := fun j u h => by
    rw [Lib.cell_of_heap (heap_alloc_new w _)]
    exact h
  exact ⟨bcell hb (hh 0 _ rfl) hg, bcell hb (hh 1 _ rfl) hg, bcell hb (hh 2 _ rfl) hg, bcell hb (hh 3 _ rfl) hg, bcell hb (hh 4 _ rfl) hg, bcell hb (hh 5 _ rfl) hg, bcell hb (hh 6 _ rfl) hg, bcell hb (hh 7 _ rfl) hg⟩

def isX (t : Xt) (s : ByteArray) : Bool := decide (t.k = 5) && (t.x.toList == s.toList)

set_option maxRecDepth 100000 in
set_option maxHeartbeats 1600000 in
theorem isX_any (t : Xt) (s : ByteArray) (sa : Option Addr) (sn sc : Nat) (w : World) : Calls Tryd.prog 59 #[.agg #[.int .i64 t.k, .string t.x, .bool t.sp, .string t.g, .int .i64 t.f, .int .i64 t.t, .bool t.d, .slice sa sn sc], .string s] w (BoolNew (isX t s) w) := by
  obtain ⟨b, hb⟩ : ∃ b, isX t s = b := ⟨_, rfl⟩
  have HB := Lib.hid hb
  rw [hb]
  clear hb
  go_enter Tryd.func59, Tryd.ntmps59
  go_wp2
  all_goals go_ret
  all_goals
    refine bool_new ?_ (by first | exact (Below.refl _ _).alloc (Nat.le_refl _) _ | exact ((Below.refl _ _).alloc (Nat.le_refl _) _).drew)
    rw [← HB.out]
    unfold isX
    simp [*]

set_option maxRecDepth 100000 in
set_option maxHeartbeats 1600000 in
theorem rHash_any (t : Xt) (sa : Option Addr) (sn sc : Nat) (w : World) : Calls Tryd.prog 38 #[.agg #[.int .i64 t.k, .string t.x, .bool t.sp, .string t.g, .int .i64 t.f, .int .i64 t.t, .bool t.d, .slice sa sn sc]] w (BoolNew (hashX t) w) := by
  have hb : hashX t = (isX t ⟨#[35]⟩ || isX t ⟨#[37, 58]⟩) := by
    unfold hashX isX
    rw [ByteArray.toList_eq ⟨#[35]⟩, ByteArray.toList_eq ⟨#[37, 58]⟩]
    cases decide (t.k = 5) <;> rfl
  have HB := Lib.hid hb
  obtain ⟨b1, h1⟩ : ∃ b, isX t ⟨#[35]⟩ = b := ⟨_, rfl⟩
  obtain ⟨b2, h2⟩ : ∃ b, isX t ⟨#[37, 58]⟩ = b := ⟨_, rfl⟩
  have C1 : Hid (∀ W : World, Calls Tryd.prog 59 #[.agg #[.int .i64 t.k, .string t.x, .bool t.sp, .string t.g, .int .i64 t.f, .int .i64 t.t, .bool t.d, .slice sa sn sc], .string ⟨#[35]⟩] W (BoolNew b1 W)) := Lib.hid (fun W => h1 ▸ isX_any t _ sa sn sc W)
  have C2 : Hid (∀ W : World, Calls Tryd.prog 59 #[.agg #[.int .i64 t.k, .string t.x, .bool t.sp, .string t.g, .int .i64 t.f, .int .i64 t.t, .bool t.d, .slice sa sn sc], .string ⟨#[37, 58]⟩] W (BoolNew b2 W)) := Lib.hid (fun W => h2 ▸ isX_any t _ sa sn sc W)
  rw [hb, h1, h2]
  clear hb HB h1 h2
  cases b1
  all_goals
    go_enter Tryd.func38, Tryd.ntmps38
    go_wp2_with (first
      | (go_at_call 59; (with_reducible refine (C1.out _).mono ?_); rintro e w1 ⟨rfl, hb1⟩; have HB1 := Lib.hid hb1; obtain ⟨k0, k1, k2, k3, k4, k5, k6, k7⟩ := box8 hb1; clear hb1)
      | (go_at_call 59; (with_reducible refine (C2.out _).mono ?_); rintro e w2 ⟨rfl, hb2⟩; have HB2 := Lib.hid hb2; clear hb2))
    go_ret
  · exact bool_new rfl (((Below.refl _ _).alloc (Nat.le_refl _) _).trans ((HB1.out.mono (by simp)).trans (HB2.out.mono (by have := HB1.out.size; simp at this; omega))))
  · exact bool_new rfl (((Below.refl _ _).alloc (Nat.le_refl _) _).trans (HB1.out.mono (by simp)))

set_option maxRecDepth 100000 in
set_option maxHeartbeats 1600000 in
theorem punct_any (t : Xt) (s : ByteArray) (sa : Option Addr) (sn sc : Nat) (w : World) : Calls Tryd.prog 58 #[.agg #[.int .i64 t.k, .string t.x, .bool t.sp, .string t.g, .int .i64 t.f, .int .i64 t.t, .bool t.d, .slice sa sn sc], .string s] w (BoolNew (isX t s) w) := by
  obtain ⟨b, hb⟩ : ∃ b, isX t s = b := ⟨_, rfl⟩
  have HB := Lib.hid hb
  rw [hb]
  clear hb
  go_enter Tryd.func58, Tryd.ntmps58
  go_wp2
  all_goals go_ret
  all_goals
    refine bool_new ?_ (by first | exact (Below.refl _ _).alloc (Nat.le_refl _) _ | exact ((Below.refl _ _).alloc (Nat.le_refl _) _).drew)
    rw [← HB.out]
    unfold isX
    simp [*]

set_option maxRecDepth 100000 in
set_option maxHeartbeats 1600000 in
theorem hash_any (t : Xt) (sa : Option Addr) (sn sc : Nat) (w : World) : Calls Tryd.prog 36 #[.agg #[.int .i64 t.k, .string t.x, .bool t.sp, .string t.g, .int .i64 t.f, .int .i64 t.t, .bool t.d, .slice sa sn sc]] w (BoolNew (hashX t) w) := by
  have hb : hashX t = (isX t ⟨#[35]⟩ || isX t ⟨#[37, 58]⟩) := by
    unfold hashX isX
    rw [ByteArray.toList_eq ⟨#[35]⟩, ByteArray.toList_eq ⟨#[37, 58]⟩]
    cases decide (t.k = 5) <;> rfl
  have HB := Lib.hid hb
  obtain ⟨b1, h1⟩ : ∃ b, isX t ⟨#[35]⟩ = b := ⟨_, rfl⟩
  obtain ⟨b2, h2⟩ : ∃ b, isX t ⟨#[37, 58]⟩ = b := ⟨_, rfl⟩
  have C1 : Hid (∀ W : World, Calls Tryd.prog 58 #[.agg #[.int .i64 t.k, .string t.x, .bool t.sp, .string t.g, .int .i64 t.f, .int .i64 t.t, .bool t.d, .slice sa sn sc], .string ⟨#[35]⟩] W (BoolNew b1 W)) := Lib.hid (fun W => h1 ▸ punct_any t _ sa sn sc W)
  have C2 : Hid (∀ W : World, Calls Tryd.prog 58 #[.agg #[.int .i64 t.k, .string t.x, .bool t.sp, .string t.g, .int .i64 t.f, .int .i64 t.t, .bool t.d, .slice sa sn sc], .string ⟨#[37, 58]⟩] W (BoolNew b2 W)) := Lib.hid (fun W => h2 ▸ punct_any t _ sa sn sc W)
  rw [hb, h1, h2]
  clear hb HB h1 h2
  cases b1
  all_goals
    go_enter Tryd.func36, Tryd.ntmps36
    go_wp2_with (first
      | (go_at_call 58; (with_reducible refine (C1.out _).mono ?_); rintro e w1 ⟨rfl, hb1⟩; have HB1 := Lib.hid hb1; obtain ⟨k0, k1, k2, k3, k4, k5, k6, k7⟩ := box8 hb1; clear hb1)
      | (go_at_call 58; (with_reducible refine (C2.out _).mono ?_); rintro e w2 ⟨rfl, hb2⟩; have HB2 := Lib.hid hb2; clear hb2))
    go_ret
  · exact bool_new rfl (((Below.refl _ _).alloc (Nat.le_refl _) _).trans ((HB1.out.mono (by simp)).trans (HB2.out.mono (by have := HB1.out.size; simp at this; omega))))
  · exact bool_new rfl (((Below.refl _ _).alloc (Nat.le_refl _) _).trans (HB1.out.mono (by simp)))

def pasteX (t : Xt) : Bool := isX t ⟨#[35, 35]⟩ || isX t ⟨#[37, 58, 37, 58]⟩

end Go.Proofs.YtlnlpahmfpjjdaaDoor

/-
  A line's kind: the document's.
-/
namespace Go.Proofs.YtlnlpahmfpjjdaaDoor
open Go.RowKit

def WordsAt (g : Nat) (w : World) : Prop := ∀ i, i < 14 → w.cell? ⟨g, i, none⟩ = some (.string (wB i))
def WordsPost (w : World) (e : Ending) (w' : World) : Prop := ∃ g, e = .returned (.slice (some ⟨g, 0, none⟩) 14 14) ∧ Below w.heap.size w w' ∧ g < w'.heap.size ∧ WordsAt g w'

theorem WordsAt.next {g : Nat} {w w' : World} (h : WordsAt g w) (b : Below w.heap.size w w') (hg : g < w.heap.size) : WordsAt g w' := fun i hi => bcell b (h i hi) hg

set_option maxRecDepth 100000 in
set_option maxHeartbeats 1600000 in
theorem rwords_any (w : World) : Calls Tryd.prog 39 #[] w (WordsPost w) := by
  go_enter Tryd.func39, Tryd.ntmps39
  go_wp2
  go_ret
  refine ⟨w.heap.size, rfl, (Below.refl _ _).alloc (Nat.le_refl _) _, by simp, fun i hi => ?_⟩
  rw [Lib.cell_of_heap (heap_alloc_new w _)]
  have : i = 0 ∨ i = 1 ∨ i = 2 ∨ i = 3 ∨ i = 4 ∨ i = 5 ∨ i = 6 ∨ i = 7 ∨ i = 8 ∨ i = 9 ∨ i = 10 ∨ i = 11 ∨ i = 12 ∨ i = 13 := by omega
  rcases this with rfl | rfl | rfl | rfl | rfl | rfl | rfl | rfl | rfl | rfl | rfl | rfl | rfl | rfl <;> rfl

/-- The first token, and the second one. -/
theorem ToksX.get {T : List Xt} {a : Option Addr} {n cap : Nat} {w : World} (h : ToksX T (.slice a n cap) w) {k : Nat} {t : Xt} (ht : T[k]? = some t) :
    ∃ g o sa sn sc, a = some ⟨g, o, none⟩ ∧ g < w.heap.size ∧ sn = t.ss.length ∧ TokX t (.slice sa sn sc) g (o + k * 8) w ∧ SitsA t.ss (.slice sa sn sc) w := by
  obtain ⟨a', cap', hv, -, -, h3⟩ := h
  obtain ⟨g, o, ha, hg, sv, hc, hs⟩ := h3 k t ht
  obtain ⟨sa, sn, sc, rfl, hn, -⟩ := hs.form
  simp only [Value.slice.injEq] at hv
  exact ⟨g, o, sa, sn, sc, by rw [hv.1]; exact ha, hg, hn, hc, hs⟩
theorem ToksX.len {T : List Xt} {a : Option Addr} {n cap : Nat} {w : World} (h : ToksX T (.slice a n cap) w) : n = T.length ∧ n ≤ cap ∧ cap ≤ maxLen := by
  obtain ⟨a', cap', hv, h1, h2, -⟩ := h
  simp only [Value.slice.injEq] at hv
  obtain ⟨-, e1, e2⟩ := hv
  exact ⟨e1, by omega, by omega⟩
theorem ToksX.form {T : List Xt} {v : Value} {w : World} (h : ToksX T v w) : ∃ a n cap, v = .slice a n cap := by
  obtain ⟨a, cap, hv, -⟩ := h
  exact ⟨a, _, cap, hv⟩

theorem kind_nil : kindL [] = 0 := rfl
theorem kind_no {t : Xt} {r : List Xt} (h : hashX t = false) : kindL (t :: r) = 0 := by
  show (if hashX t = true then _ else 0) = 0
  rw [h]
  rfl
theorem kind_one {t : Xt} (h : hashX t = true) : kindL [t] = 1 := by
  show (if hashX t = true then _ else 0) = 1
  rw [h]
  rfl
theorem kind_two {t s : Xt} {r : List Xt} (h : hashX t = true) : kindL (t :: s :: r) = if s.k = 1 then wKind s.x else 14 := by
  show (if hashX t = true then _ else 0) = _
  rw [h]
  rfl

set_option maxRecDepth 100000 in
set_option maxHeartbeats 3200000 in
theorem rKind_any {T : List Xt} {v : Value} {w : World} (h : ToksX T v w) : Calls Tryd.prog 13 #[v] w (IntNew (kindL T : Nat) w) := by
  obtain ⟨a, n, cap, rfl⟩ := h.form
  obtain ⟨hn, hc1, hc2⟩ := h.len
  unfold maxLen at hc2
  cases T with
  | nil =>
    obtain rfl : n = 0 := hn
    clear h
    go_enter Tryd.func13, Tryd.ntmps13
    go_wp2
    go_ret
    exact int_new rfl (Below.refl _ _)
  | cons t r =>
    obtain ⟨g, o, sa, sn, sc, rfl, hg, -, ⟨c0, c1, c2, c3, c4, c5, c6, c7⟩, -⟩ := h.get (k := 0) (t := t) rfl
    rw [Nat.zero_mul, Nat.add_zero] at c0 c1 c2 c3 c4 c5 c6 c7
    have hn1 : 0 < n := by rw [hn]; simp
    have HN := Lib.hid hn
    have HX := Lib.hid h
    clear h hn
    by_cases hh : hashX t = true
    · have HS : Hid (∀ X : World, Calls Tryd.prog 38 #[.agg #[.int .i64 t.k, .string t.x, .bool t.sp, .string t.g, .int .i64 t.f, .int .i64 t.t, .bool t.d, .slice sa sn sc]] X (BoolNew true X)) := Lib.hid (fun X => hh ▸ rHash_any t sa sn sc X)
      cases r with
      | nil =>
        have hk := kind_one hh
        obtain rfl : n = 1 := HN.out
        rw [hk]
        clear hh hk HN
        go_enter Tryd.func13, Tryd.ntmps13
        go_wp2_with (go_at_call 38; (with_reducible refine (HS.out _).mono ?_); rintro e w1 ⟨rfl, hb1⟩; have HB1 := Lib.hid hb1; clear hb1)
        go_ret
        exact int_new rfl HB1.out
      | cons s r =>
        obtain ⟨g', o', sa', sn', sc', he, -, -, ⟨d0, d1, -, -, -, -, -, -⟩, -⟩ := HX.out.get (k := 1) (t := s) rfl
        obtain ⟨rfl, rfl⟩ : g = g' ∧ o = o' := by simpa using he
        rw [Nat.one_mul] at d0 d1
        have hk := kind_two (s := s) (r := r) hh
        have hn2 : 1 < n := by rw [HN.out]; simp
        have hne : ((n : Int) == 1) = false := by simp; omega
        rw [hk]
        clear hh hk he
        have HD0 : Hid (w.cell? ⟨g, o + 8, none⟩ = some (.int .i64 s.k) ∧ w.cell? ⟨g, o + 8 + 1, none⟩ = some (.string s.x)) := Lib.hid ⟨d0, d1⟩
        obtain ⟨K, hK⟩ : ∃ K, (if s.k = 1 then wKind s.x else 14) = K := ⟨_, rfl⟩
        rw [hK]
        have HK := Lib.hid hK
        clear hK d0 d1
        go_enter Tryd.func13, Tryd.ntmps13
        go_wp2_with (first
          | (go_at_call 38; (with_reducible refine (HS.out _).mono ?_); rintro e w1 ⟨rfl, hb1⟩; have HB1 := Lib.hid hb1; clear hb1)
          | (go_at_call 39; (with_reducible refine (rwords_any _).mono ?_); rintro e w2 ⟨gw, rfl, hb2, hgw, hw2⟩; have HB2 := Lib.hid hb2; have HW2 := Lib.hid hw2; clear hb2 hw2))
        go_loopw [4] (fun i wr => ∃ k : Nat, i = .int .i64 (k : Int) ∧ 2 ≤ k ∧ k ≤ 14 ∧ (s.k = 1 → wFrom s.x (14 - k) k = K) ∧ Below w2.heap.size w2 wr) (fun i _ => 14 - (intOf i).toNat)
        case atStart => exact ⟨2, rfl, by omega, by omega, fun h1 => by rw [← HK.out, if_pos h1]; rfl, Below.refl _ _⟩
        case round =>
          obtain ⟨k, rfl, hk2, hk14, hwk, hb⟩ := hrel
          have HWK := Lib.hid hwk
          have HB := Lib.hid hb
          have HBA : Hid (Below w.heap.size w wr) := Lib.hid ((HB1.out.trans (HB2.out.mono HB1.out.size)).trans (hb.mono (by have := HB1.out.size; have := HB2.out.size; omega)))
          clear hwk hb
          by_cases hlt : k < 14
          · have d0 := bcell HBA.out HD0.out.1 hg
            have d1 := bcell HBA.out HD0.out.2 hg
            have e0 := bcell HB.out (HW2.out k hlt) hgw
            by_cases h1 : s.k = 1
            · have hd1 : (s.k == 1) = true := by simpa using h1
              by_cases hx : s.x = wB k
              · have hx1 : (s.x.toList == (wB k).toList) = true := by rw [hx]; simp
                have HF : Hid ((k : Int) = (K : Int)) := Lib.hid (by rw [← HWK.out h1, wFrom_yes hx hlt])
                clear hx h1
                go_wp2
                go_quiet (fail)
                go_wp2
                go_ret
                exact int_new HF.out (HBA.out.trans ((Below.of_drews _ _).mono HBA.out.size))
              · have hx1 : (s.x.toList == (wB k).toList) = false := by rw [str_is]; simpa using hx
                have HF : Hid (s.k = 1 → wFrom s.x (14 - (k + 1)) (k + 1) = K) := Lib.hid (fun h => by rw [← wFrom_no hx hlt]; exact HWK.out h)
                clear hx h1
                go_wp2
                go_quiet (fail)
                go_wp2
                go_roundw
                case rel => exact ⟨k + 1, by go_num, by omega, by omega, HF.out, HB.out.trans ((Below.of_drews _ _).mono HB.out.size)⟩
                case measure => simp [intOf]; omega
            · have hd1 : (s.k == 1) = false := by simpa using h1
              have HF : Hid (s.k = 1 → wFrom s.x (14 - (k + 1)) (k + 1) = K) := Lib.hid (fun h => absurd h h1)
              clear h1
              go_wp2
              go_quiet (fail)
              go_wp2
              go_roundw
              case rel => exact ⟨k + 1, by go_num, by omega, by omega, HF.out, HB.out.trans ((Below.of_drews _ _).mono HB.out.size)⟩
              case measure => simp [intOf]; omega
          · have h14 : Hid ((14 : Int) = (K : Int)) := Lib.hid (by
              obtain rfl : k = 14 := by omega
              by_cases h1 : s.k = 1
              · rw [← HWK.out h1]; rfl
              · rw [← HK.out, if_neg h1]; rfl)
            go_wp2
            go_ret
            exact int_new h14.out HBA.out
    · have hh' : hashX t = false := by simpa using hh
      have HS : Hid (∀ X : World, Calls Tryd.prog 38 #[.agg #[.int .i64 t.k, .string t.x, .bool t.sp, .string t.g, .int .i64 t.f, .int .i64 t.t, .bool t.d, .slice sa sn sc]] X (BoolNew false X)) := Lib.hid (fun X => hh' ▸ rHash_any t sa sn sc X)
      rw [kind_no hh']
      clear hh hh' HN
      go_enter Tryd.func13, Tryd.ntmps13
      go_wp2_with (go_at_call 38; (with_reducible refine (HS.out _).mono ?_); rintro e w1 ⟨rfl, hb1⟩; have HB1 := Lib.hid hb1; clear hb1)
      go_ret
      exact int_new rfl HB1.out

end Go.Proofs.YtlnlpahmfpjjdaaDoor
