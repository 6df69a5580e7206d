/-
  Texts of the proof, put together: LBytes, SmT, SmL, DkMem, DkHash, McL, DkKind, DkSame.
-/
import Derived.Test.YtobplffailbkbaaG10
import Derived.BigQuiet
import Derived.StillTailTactics
import Derived.Test.YtobplffailbkbaaG01

/-
  LexBytes, walked.
-/
namespace Go.Proofs.Ytobplffailbkbaa
open Go.RowKit

theorem TokAt.next {F : ByteArray} {t : Tk} {g j : Nat} {w w' : World} (h : TokAt F t g j w) (b : Below w.heap.size w w') (hg : g < w.heap.size) : TokAt F t g j w' := by
  obtain ⟨h0, h1, h2, h3, h4, h5, h6, h7⟩ := h
  exact ⟨bcell b h0 hg, bcell b h1 hg, bcell b h2 hg, bcell b h3 hg, bcell b h4 hg, bcell b h5 hg, bcell b h6 hg, bcell b h7 hg⟩
theorem ToksAt.next {F : ByteArray} {T : List Tk} {v : Value} {w w' : World} (h : ToksAt F T v w) (b : Below w.heap.size w w') : ToksAt F T v w' := by
  obtain ⟨a, cap, hv, h1, h2, h3⟩ := h
  refine ⟨a, cap, hv, h1, h2, fun k t ht => ?_⟩
  obtain ⟨g, hg, hlt, hk⟩ := h3 k t ht
  exact ⟨g, hg, Nat.lt_of_lt_of_le hlt b.size, hk.next b hlt⟩
theorem LinesAt.next {F : ByteArray} {lines : List Ln} {v : Value} {w w' : World} (h : LinesAt F lines v w) (b : Below w.heap.size w w') : LinesAt F lines v w' := by
  obtain ⟨a, cap, hv, h1, h2, h3⟩ := h
  refine ⟨a, cap, hv, h1, h2, fun k t ht => ?_⟩
  obtain ⟨g, tv, hg, hlt, k0, k1, k2, k3, hT⟩ := h3 k t ht
  exact ⟨g, tv, hg, Nat.lt_of_lt_of_le hlt b.size, bcell b k0 hlt, bcell b k1 hlt, bcell b k2 hlt, bcell b k3 hlt, hT.next b⟩

theorem below_up {W w w' : World} (h : Below W.heap.size W w) (b : Below w.heap.size w w') : Below W.heap.size W w' := h.trans (b.mono h.size)

theorem awake_more {W w : World} (b : Below W.heap.size W w) {e : Ending} {w' : World} (h : AwakePost w e w') : AwakePost W e w' := ⟨h.1, b.trans (h.2.mono b.size)⟩

/-- What the great test loads. -/
def BackS (b g gt k jn : Nat) (t : Tk) (to : Nat) (tv : Value) (X : ByteArray) (w : World) : Prop :=
  w.cell? ⟨b, 0, none⟩ = some (.string ⟨#[102]⟩) ∧ w.cell? ⟨b, 1, none⟩ = some (.int .i64 (t.f : Int)) ∧ w.cell? ⟨b, 2, none⟩ = some (.int .i64 (t.t : Int)) ∧ w.cell? ⟨g, k * 4, none⟩ = some tv ∧ w.cell? ⟨g, k * 4 + 2, none⟩ = some (.int .i64 (to : Int)) ∧ w.cell? ⟨gt, jn * 8 + 1, none⟩ = some (.string X)
theorem BackS.next {b g gt k jn : Nat} {t : Tk} {to : Nat} {tv : Value} {X : ByteArray} {w w' : World} (h : BackS b g gt k jn t to tv X w) (hb : Below w.heap.size w w') (h1 : b < w.heap.size) (h2 : g < w.heap.size) (h3 : gt < w.heap.size) : BackS b g gt k jn t to tv X w' := by
  obtain ⟨a0, a1, a2, a3, a4, a5⟩ := h
  exact ⟨bcell hb a0 h1, bcell hb a1 h1, bcell hb a2 h1, bcell hb a3 h2, bcell hb a4 h2, bcell hb a5 h3⟩
theorem backS_of {w : World} {g gt k jn : Nat} {t : Tk} {to : Nat} {tv : Value} {X : ByteArray} (h2 : g < w.heap.size) (h3 : gt < w.heap.size) (a3 : w.cell? ⟨g, k * 4, none⟩ = some tv) (a4 : w.cell? ⟨g, k * 4 + 2, none⟩ = some (.int .i64 (to : Int))) (a5 : w.cell? ⟨gt, jn * 8 + 1, none⟩ = some (.string X)) :
    BackS w.heap.size g gt k jn t to tv X ((w.alloc (.cells #[.string ⟨#[102]⟩, .int .i64 (t.f : Int), .int .i64 (t.t : Int)] 23)).drew) := by
  have hn := Lib.cell_of_heap (heap_alloc_new w (.cells #[.string ⟨#[102]⟩, .int .i64 (t.f : Int), .int .i64 (t.t : Int)] 23))
  have ha : ∀ (b o : Nat) (v : Value), b < w.heap.size → w.cell? ⟨b, o, none⟩ = some v → (w.alloc (.cells #[.string ⟨#[102]⟩, .int .i64 (t.f : Int), .int .i64 (t.t : Int)] 23)).drew.cell? ⟨b, o, none⟩ = some v := fun b o v hb hv => (World.cell?_alloc_lt w _ ⟨b, o, none⟩ hb).trans hv
  exact ⟨(hn 0).trans rfl, (hn 1).trans rfl, (hn 2).trans rfl, ha _ _ _ h2 a3, ha _ _ _ h2 a4, ha _ _ _ h3 a5⟩
theorem below_back {wo wr w3 : World} {o : Obj} (h : Below wo.heap.size wo wr) (b : Below (wr.alloc o).drew.heap.size (wr.alloc o).drew w3) : Below wo.heap.size wo w3 :=
  h.trans ((((Below.refl _ _).alloc (Nat.le_refl _) o).drew.trans (b.mono (by simp))).mono h.size)

theorem LnOk.le {l : List UInt8} : ∀ {a : Nat} {T : List Ln}, LnOk l a T → a ≤ lastT a T
  | _, [], _ => Nat.le_refl _
  | _, _ :: _, h => Nat.le_trans h.2.1 (LnOk.le h.2.2.2.2)

end Go.Proofs.Ytobplffailbkbaa

/-
  The document's SameToken and SameDiags, of what is the same.
-/
namespace Go.Proofs.Ytobplffailbkbaa
open Go.RowKit

def tokV (F : ByteArray) (t : Tk) : Value := .agg #[.int .i64 (t.k : Int), .string ⟨t.x.toArray⟩, .bool t.sp, .string F, .int .i64 (t.f : Int), .int .i64 (t.t : Int), .bool false, .slice none 0 0]
def TruePost (w : World) (e : Ending) (w' : World) : Prop := e = .returned (.bool true) ∧ Below w.heap.size w w'

set_option maxRecDepth 100000 in
set_option maxHeartbeats 1600000 in
theorem sameToken_any (F : ByteArray) (t : Tk) (w : World) : Calls Try.prog 11 #[tokV F t, tokV F t] w (TruePost w) := by
  unfold tokV
  obtain ⟨X, hX⟩ : ∃ X : ByteArray, (⟨t.x.toArray⟩ : ByteArray) = X := ⟨_, rfl⟩
  rw [hX]
  clear hX
  go_enter Try.func11, Try.ntmps11
  go_wp2
  obtain ⟨o, ho⟩ : ∃ o : Obj, Obj.cells #[.int .i64 (t.k : Int), .string X, .bool t.sp, .string F, .int .i64 (t.f : Int), .int .i64 (t.t : Int), .bool false, .slice none 0 0] 26 = o := ⟨_, rfl⟩
  have hB : Below w.heap.size w ((w.alloc o).alloc o) := ((Below.refl _ _).alloc (Nat.le_refl _) o).alloc (by simp) o
  have hc : ((w.alloc o).alloc o).cell? ⟨w.heap.size, 7, none⟩ = some (.slice none 0 0) := by
    rw [Lib.cell_of_heap (show ((w.alloc o).alloc o).heap[w.heap.size]? = some (.cells #[.int .i64 (t.k : Int), .string X, .bool t.sp, .string F, .int .i64 (t.f : Int), .int .i64 (t.t : Int), .bool false, .slice none 0 0] 26 (0, 0)) from by rw [heap_one, ho])]
    rfl
  rw [ho]
  obtain ⟨w2, hw2⟩ : ∃ w2, (w.alloc o).alloc o = w2 := ⟨_, rfl⟩
  rw [hw2] at hB hc ⊢
  have HB := Lib.hid hB
  clear hB hw2 ho
  go_loop [5] (fun i => i = .int .i64 0) (fun _ => 1)
  case atStart => rfl
  case round =>
    subst hrel
    go_wp2
    go_ret
    exact ⟨rfl, HB.out⟩

def diagV (F : ByteArray) (d : Dg) : Value := .agg #[.int .i64 (d.c : Int), .string F, .int .i64 (d.f : Int), .int .i64 (d.t : Int)]

end Go.Proofs.Ytobplffailbkbaa

/-
  The document's SameTokens and SameLines, of what is the same.
-/
namespace Go.Proofs.Ytobplffailbkbaa
open Go.RowKit

theorem ToksAt.over {F : ByteArray} {T : List Tk} {v : Value} {w w' : World} (h : ToksAt F T v w) (b : Below w.heap.size w w') : ToksAt F T v w' := by
  obtain ⟨a, cap, hv, h1, h2, h3⟩ := h
  refine ⟨a, cap, hv, h1, h2, fun k t ht => ?_⟩
  obtain ⟨g, hg, hlt, hta⟩ := h3 k t ht
  exact ⟨g, hg, Nat.lt_of_lt_of_le hlt b.size, hta.next b hlt⟩

end Go.Proofs.Ytobplffailbkbaa

/-
  Tokens that lie somewhere, any: their sites too.
-/
namespace Go.Proofs.Ytobplffailbkbaa
open Go.RowKit

def SitA (s : Xs) (g o : Nat) (w : World) : Prop :=
  w.cell? ⟨g, o, none⟩ = some (.string s.m) ∧ w.cell? ⟨g, o + 1, none⟩ = some (.string s.g) ∧ w.cell? ⟨g, o + 2, none⟩ = some (.int .i64 s.f) ∧ w.cell? ⟨g, o + 3, none⟩ = some (.int .i64 s.t) ∧ w.cell? ⟨g, o + 4, none⟩ = some (.bool s.d)
/-- A row of sites, as it is read. -/
def SitsA (S : List Xs) (v : Value) (w : World) : Prop :=
  ∃ a cap, v = .slice a S.length cap ∧ S.length ≤ cap ∧ cap ≤ maxLen ∧ ∀ k s, S[k]? = some s → ∃ g o, a = some ⟨g, o, none⟩ ∧ g < w.heap.size ∧ SitA s g (o + k * 5) w
def TokX (t : Xt) (sv : Value) (g o : Nat) (w : World) : Prop :=
  w.cell? ⟨g, o, none⟩ = some (.int .i64 t.k) ∧ w.cell? ⟨g, o + 1, none⟩ = some (.string t.x) ∧ w.cell? ⟨g, o + 2, none⟩ = some (.bool t.sp) ∧ w.cell? ⟨g, o + 3, none⟩ = some (.string t.g) ∧
  w.cell? ⟨g, o + 4, none⟩ = some (.int .i64 t.f) ∧ w.cell? ⟨g, o + 5, none⟩ = some (.int .i64 t.t) ∧ w.cell? ⟨g, o + 6, none⟩ = some (.bool t.d) ∧ w.cell? ⟨g, o + 7, none⟩ = some sv
/-- A row of tokens, as it is read. -/
def ToksX (T : List Xt) (v : Value) (w : World) : Prop :=
  ∃ a cap, v = .slice a T.length cap ∧ T.length ≤ cap ∧ cap ≤ maxLen ∧ ∀ k t, T[k]? = some t → ∃ g o, a = some ⟨g, o, none⟩ ∧ g < w.heap.size ∧ ∃ sv, TokX t sv g (o + k * 8) w ∧ SitsA t.ss sv w

theorem SitA.next {s : Xs} {g o : Nat} {w w' : World} (h : SitA s g o w) (b : Below w.heap.size w w') (hg : g < w.heap.size) : SitA s g o w' :=
  ⟨bcell b h.1 hg, bcell b h.2.1 hg, bcell b h.2.2.1 hg, bcell b h.2.2.2.1 hg, bcell b h.2.2.2.2 hg⟩
theorem SitsA.over {S : List Xs} {v : Value} {w w' : World} (h : SitsA S v w) (b : Below w.heap.size w w') : SitsA S v w' := by
  obtain ⟨a, cap, hv, h1, h2, h3⟩ := h
  refine ⟨a, cap, hv, h1, h2, fun k s hs => ?_⟩
  obtain ⟨g, o, ha, hg, hc⟩ := h3 k s hs
  exact ⟨g, o, ha, Nat.lt_of_lt_of_le hg b.size, hc.next b hg⟩
theorem TokX.next {t : Xt} {sv : Value} {g o : Nat} {w w' : World} (h : TokX t sv g o w) (b : Below w.heap.size w w') (hg : g < w.heap.size) : TokX t sv g o w' := by
  obtain ⟨c0, c1, c2, c3, c4, c5, c6, c7⟩ := h
  exact ⟨bcell b c0 hg, bcell b c1 hg, bcell b c2 hg, bcell b c3 hg, bcell b c4 hg, bcell b c5 hg, bcell b c6 hg, bcell b c7 hg⟩
theorem ToksX.over {T : List Xt} {v : Value} {w w' : World} (h : ToksX T v w) (b : Below w.heap.size w w') : ToksX T v w' := by
  obtain ⟨a, cap, hv, h1, h2, h3⟩ := h
  refine ⟨a, cap, hv, h1, h2, fun k s hs => ?_⟩
  obtain ⟨g, o, ha, hg, sv, hc, hs⟩ := h3 k s hs
  exact ⟨g, o, ha, Nat.lt_of_lt_of_le hg b.size, sv, hc.next b hg, hs.over b⟩

theorem SitsA.form {S : List Xs} {v : Value} {w : World} (h : SitsA S v w) : ∃ a n cap, v = .slice a n cap ∧ n = S.length ∧ n ≤ cap ∧ cap ≤ maxLen := by
  obtain ⟨a, cap, hv, h1, h2, -⟩ := h
  exact ⟨a, _, cap, hv, rfl, h1, h2⟩
theorem sits_nil (w : World) : SitsA [] (.slice none 0 0) w := ⟨none, 0, rfl, Nat.le_refl _, Nat.zero_le _, fun k s h => by simp at h⟩
theorem toksX_nil (w : World) : ToksX [] (.slice none 0 0) w := ⟨none, 0, rfl, Nat.le_refl _, Nat.zero_le _, fun k s h => by simp at h⟩

/-- A token that was lexed, as any. -/
def xtOf (F : ByteArray) (t : Tk) : Xt := ⟨(t.k : Int), ⟨t.x.toArray⟩, t.sp, F, (t.f : Int), (t.t : Int), false, []⟩
theorem ToksAt.x {F : ByteArray} {T : List Tk} {v : Value} {w : World} (h : ToksAt F T v w) : ToksX (T.map (xtOf F)) v w := by
  obtain ⟨a, cap, hv, h1, h2, h3⟩ := h
  refine ⟨a, cap, by rw [List.length_map]; exact hv, by rw [List.length_map]; exact h1, h2, fun k t ht => ?_⟩
  rw [List.getElem?_map, Option.map_eq_some_iff] at ht
  obtain ⟨u, hu, rfl⟩ := ht
  obtain ⟨g, ha, hg, c0, c1, c2, c3, c4, c5, c6, c7⟩ := h3 k u hu
  exact ⟨g, 0, ha, hg, _, ⟨by simpa [xtOf] using c0, by simpa [xtOf] using c1, by simpa [xtOf] using c2, by simpa [xtOf] using c3, by simpa [xtOf] using c4, by simpa [xtOf] using c5, by simpa [xtOf] using c6, by simpa [xtOf] using c7⟩, sits_nil w⟩

end Go.Proofs.Ytobplffailbkbaa

/-
  Is a token a hash: the project's and the document's.
-/
namespace Go.Proofs.Ytobplffailbkbaa
open Go.RowKit

def BoolNew (b : Bool) (w : World) (e : Ending) (w' : World) : Prop := e = .returned (.bool b) ∧ Below w.heap.size w w'
def IntNew (n : Int) (w : World) (e : Ending) (w' : World) : Prop := e = .returned (.int .i64 n) ∧ Below w.heap.size w w'

theorem str_eq {a b : ByteArray} (h : a.toList = b.toList) : a = b := by
  rw [ByteArray.toList_eq, ByteArray.toList_eq] at h
  apply ByteArray.ext
  exact Array.toList_inj.1 h
theorem str_is (a b : ByteArray) : (a.toList == b.toList) = decide (a = b) := by
  by_cases h : a = b
  · subst h; simp
  · simp [h]
    exact fun e => h (str_eq e)
theorem bool_new {a b : Bool} {w w' : World} (h : a = b) (hb : Below w.heap.size w w') : BoolNew b w (.returned (.bool a)) w' := ⟨by rw [h], hb⟩
theorem int_new {a b : Int} {w w' : World} (h : a = b) (hb : Below w.heap.size w w') : IntNew b w (.returned (.int .i64 a)) w' := ⟨by rw [h], hb⟩

/-- A token's box, behind what a call made. -/
theorem box8 {w w1 : World} {c0 c1 c2 c3 c4 c5 c6 c7 : Value} {T : TypeId} (hb : Below (w.alloc (.cells #[c0, c1, c2, c3, c4, c5, c6, c7] T)).heap.size (w.alloc (.cells #[c0, c1, c2, c3, c4, c5, c6, c7] T)) w1) :
    w1.cell? ⟨w.heap.size, 0, none⟩ = some c0 ∧ w1.cell? ⟨w.heap.size, 1, none⟩ = some c1 ∧ w1.cell? ⟨w.heap.size, 2, none⟩ = some c2 ∧ w1.cell? ⟨w.heap.size, 3, none⟩ = some c3 ∧
    w1.cell? ⟨w.heap.size, 4, none⟩ = some c4 ∧ w1.cell? ⟨w.heap.size, 5, none⟩ = some c5 ∧ w1.cell? ⟨w.heap.size, 6, none⟩ = some c6 ∧ w1.cell? ⟨w.heap.size, 7, none⟩ = some c7 := by
  have hg : w.heap.size < (w.alloc (.cells #[c0, c1, c2, c3, c4, c5, c6, c7] T)).heap.size := by simp
  have hh : ∀ j u, (#[c0, c1, c2, c3, c4, c5, c6, c7] : Array Value)[j]? = some u → (w.alloc (.cells #[c0, c1, c2, c3, c4, c5, c6, c7] T)).cell? ⟨w.heap.size, j, none⟩ = some u := fun j u h => by
    rw [Lib.cell_of_heap (heap_alloc_new w _)]
    exact h
  exact ⟨bcell hb (hh 0 _ rfl) hg, bcell hb (hh 1 _ rfl) hg, bcell hb (hh 2 _ rfl) hg, bcell hb (hh 3 _ rfl) hg, bcell hb (hh 4 _ rfl) hg, bcell hb (hh 5 _ rfl) hg, bcell hb (hh 6 _ rfl) hg, bcell hb (hh 7 _ rfl) hg⟩

def isX (t : Xt) (s : ByteArray) : Bool := decide (t.k = 5) && (t.x.toList == s.toList)

set_option maxRecDepth 100000 in
set_option maxHeartbeats 1600000 in
theorem isX_any (t : Xt) (s : ByteArray) (sa : Option Addr) (sn sc : Nat) (w : World) : Calls Try.prog 27 #[.agg #[.int .i64 t.k, .string t.x, .bool t.sp, .string t.g, .int .i64 t.f, .int .i64 t.t, .bool t.d, .slice sa sn sc], .string s] w (BoolNew (isX t s) w) := by
  obtain ⟨b, hb⟩ : ∃ b, isX t s = b := ⟨_, rfl⟩
  have HB := Lib.hid hb
  rw [hb]
  clear hb
  go_enter Try.func27, Try.ntmps27
  go_wp2
  all_goals go_ret
  all_goals
    refine bool_new ?_ (by first | exact (Below.refl _ _).alloc (Nat.le_refl _) _ | exact ((Below.refl _ _).alloc (Nat.le_refl _) _).drew)
    rw [← HB.out]
    unfold isX
    simp [*]

set_option maxRecDepth 100000 in
set_option maxHeartbeats 1600000 in
theorem rHash_any (t : Xt) (sa : Option Addr) (sn sc : Nat) (w : World) : Calls Try.prog 47 #[.agg #[.int .i64 t.k, .string t.x, .bool t.sp, .string t.g, .int .i64 t.f, .int .i64 t.t, .bool t.d, .slice sa sn sc]] w (BoolNew (hashX t) w) := by
  have hb : hashX t = (isX t ⟨#[35]⟩ || isX t ⟨#[37, 58]⟩) := by
    unfold hashX isX
    rw [ByteArray.toList_eq ⟨#[35]⟩, ByteArray.toList_eq ⟨#[37, 58]⟩]
    cases decide (t.k = 5) <;> rfl
  have HB := Lib.hid hb
  obtain ⟨b1, h1⟩ : ∃ b, isX t ⟨#[35]⟩ = b := ⟨_, rfl⟩
  obtain ⟨b2, h2⟩ : ∃ b, isX t ⟨#[37, 58]⟩ = b := ⟨_, rfl⟩
  have C1 : Hid (∀ W : World, Calls Try.prog 27 #[.agg #[.int .i64 t.k, .string t.x, .bool t.sp, .string t.g, .int .i64 t.f, .int .i64 t.t, .bool t.d, .slice sa sn sc], .string ⟨#[35]⟩] W (BoolNew b1 W)) := Lib.hid (fun W => h1 ▸ isX_any t _ sa sn sc W)
  have C2 : Hid (∀ W : World, Calls Try.prog 27 #[.agg #[.int .i64 t.k, .string t.x, .bool t.sp, .string t.g, .int .i64 t.f, .int .i64 t.t, .bool t.d, .slice sa sn sc], .string ⟨#[37, 58]⟩] W (BoolNew b2 W)) := Lib.hid (fun W => h2 ▸ isX_any t _ sa sn sc W)
  rw [hb, h1, h2]
  clear hb HB h1 h2
  cases b1
  all_goals
    go_enter Try.func47, Try.ntmps47
    go_wp2_with (first
      | (go_at_call 27; (with_reducible refine (C1.out _).mono ?_); rintro e w1 ⟨rfl, hb1⟩; have HB1 := Lib.hid hb1; obtain ⟨k0, k1, k2, k3, k4, k5, k6, k7⟩ := box8 hb1; clear hb1)
      | (go_at_call 27; (with_reducible refine (C2.out _).mono ?_); rintro e w2 ⟨rfl, hb2⟩; have HB2 := Lib.hid hb2; clear hb2))
    go_ret
  · exact bool_new rfl (((Below.refl _ _).alloc (Nat.le_refl _) _).trans ((HB1.out.mono (by simp)).trans (HB2.out.mono (by have := HB1.out.size; simp at this; omega))))
  · exact bool_new rfl (((Below.refl _ _).alloc (Nat.le_refl _) _).trans (HB1.out.mono (by simp)))

set_option maxRecDepth 100000 in
set_option maxHeartbeats 1600000 in
theorem punct_any (t : Xt) (s : ByteArray) (sa : Option Addr) (sn sc : Nat) (w : World) : Calls Try.prog 84 #[.agg #[.int .i64 t.k, .string t.x, .bool t.sp, .string t.g, .int .i64 t.f, .int .i64 t.t, .bool t.d, .slice sa sn sc], .string s] w (BoolNew (isX t s) w) := by
  obtain ⟨b, hb⟩ : ∃ b, isX t s = b := ⟨_, rfl⟩
  have HB := Lib.hid hb
  rw [hb]
  clear hb
  go_enter Try.func84, Try.ntmps84
  go_wp2
  all_goals go_ret
  all_goals
    refine bool_new ?_ (by first | exact (Below.refl _ _).alloc (Nat.le_refl _) _ | exact ((Below.refl _ _).alloc (Nat.le_refl _) _).drew)
    rw [← HB.out]
    unfold isX
    simp [*]

set_option maxRecDepth 100000 in
set_option maxHeartbeats 1600000 in
theorem hash_any (t : Xt) (sa : Option Addr) (sn sc : Nat) (w : World) : Calls Try.prog 70 #[.agg #[.int .i64 t.k, .string t.x, .bool t.sp, .string t.g, .int .i64 t.f, .int .i64 t.t, .bool t.d, .slice sa sn sc]] w (BoolNew (hashX t) w) := by
  have hb : hashX t = (isX t ⟨#[35]⟩ || isX t ⟨#[37, 58]⟩) := by
    unfold hashX isX
    rw [ByteArray.toList_eq ⟨#[35]⟩, ByteArray.toList_eq ⟨#[37, 58]⟩]
    cases decide (t.k = 5) <;> rfl
  have HB := Lib.hid hb
  obtain ⟨b1, h1⟩ : ∃ b, isX t ⟨#[35]⟩ = b := ⟨_, rfl⟩
  obtain ⟨b2, h2⟩ : ∃ b, isX t ⟨#[37, 58]⟩ = b := ⟨_, rfl⟩
  have C1 : Hid (∀ W : World, Calls Try.prog 84 #[.agg #[.int .i64 t.k, .string t.x, .bool t.sp, .string t.g, .int .i64 t.f, .int .i64 t.t, .bool t.d, .slice sa sn sc], .string ⟨#[35]⟩] W (BoolNew b1 W)) := Lib.hid (fun W => h1 ▸ punct_any t _ sa sn sc W)
  have C2 : Hid (∀ W : World, Calls Try.prog 84 #[.agg #[.int .i64 t.k, .string t.x, .bool t.sp, .string t.g, .int .i64 t.f, .int .i64 t.t, .bool t.d, .slice sa sn sc], .string ⟨#[37, 58]⟩] W (BoolNew b2 W)) := Lib.hid (fun W => h2 ▸ punct_any t _ sa sn sc W)
  rw [hb, h1, h2]
  clear hb HB h1 h2
  cases b1
  all_goals
    go_enter Try.func70, Try.ntmps70
    go_wp2_with (first
      | (go_at_call 84; (with_reducible refine (C1.out _).mono ?_); rintro e w1 ⟨rfl, hb1⟩; have HB1 := Lib.hid hb1; obtain ⟨k0, k1, k2, k3, k4, k5, k6, k7⟩ := box8 hb1; clear hb1)
      | (go_at_call 84; (with_reducible refine (C2.out _).mono ?_); rintro e w2 ⟨rfl, hb2⟩; have HB2 := Lib.hid hb2; clear hb2))
    go_ret
  · exact bool_new rfl (((Below.refl _ _).alloc (Nat.le_refl _) _).trans ((HB1.out.mono (by simp)).trans (HB2.out.mono (by have := HB1.out.size; simp at this; omega))))
  · exact bool_new rfl (((Below.refl _ _).alloc (Nat.le_refl _) _).trans (HB1.out.mono (by simp)))

def pasteX (t : Xt) : Bool := isX t ⟨#[35, 35]⟩ || isX t ⟨#[37, 58, 37, 58]⟩

set_option maxRecDepth 100000 in
set_option maxHeartbeats 1600000 in
theorem paste_any (t : Xt) (sa : Option Addr) (sn sc : Nat) (w : World) : Calls Try.prog 69 #[.agg #[.int .i64 t.k, .string t.x, .bool t.sp, .string t.g, .int .i64 t.f, .int .i64 t.t, .bool t.d, .slice sa sn sc]] w (BoolNew (pasteX t) w) := by
  have hb : pasteX t = (isX t ⟨#[35, 35]⟩ || isX t ⟨#[37, 58, 37, 58]⟩) := by
    rfl
  have HB := Lib.hid hb
  obtain ⟨b1, h1⟩ : ∃ b, isX t ⟨#[35, 35]⟩ = b := ⟨_, rfl⟩
  obtain ⟨b2, h2⟩ : ∃ b, isX t ⟨#[37, 58, 37, 58]⟩ = b := ⟨_, rfl⟩
  have C1 : Hid (∀ W : World, Calls Try.prog 84 #[.agg #[.int .i64 t.k, .string t.x, .bool t.sp, .string t.g, .int .i64 t.f, .int .i64 t.t, .bool t.d, .slice sa sn sc], .string ⟨#[35, 35]⟩] W (BoolNew b1 W)) := Lib.hid (fun W => h1 ▸ punct_any t _ sa sn sc W)
  have C2 : Hid (∀ W : World, Calls Try.prog 84 #[.agg #[.int .i64 t.k, .string t.x, .bool t.sp, .string t.g, .int .i64 t.f, .int .i64 t.t, .bool t.d, .slice sa sn sc], .string ⟨#[37, 58, 37, 58]⟩] W (BoolNew b2 W)) := Lib.hid (fun W => h2 ▸ punct_any t _ sa sn sc W)
  rw [hb, h1, h2]
  clear hb HB h1 h2
  cases b1
  all_goals
    go_enter Try.func69, Try.ntmps69
    go_wp2_with (first
      | (go_at_call 84; (with_reducible refine (C1.out _).mono ?_); rintro e w1 ⟨rfl, hb1⟩; have HB1 := Lib.hid hb1; obtain ⟨k0, k1, k2, k3, k4, k5, k6, k7⟩ := box8 hb1; clear hb1)
      | (go_at_call 84; (with_reducible refine (C2.out _).mono ?_); rintro e w2 ⟨rfl, hb2⟩; have HB2 := Lib.hid hb2; clear hb2))
    go_ret
  · exact bool_new rfl (((Below.refl _ _).alloc (Nat.le_refl _) _).trans ((HB1.out.mono (by simp)).trans (HB2.out.mono (by have := HB1.out.size; simp at this; omega))))
  · exact bool_new rfl (((Below.refl _ _).alloc (Nat.le_refl _) _).trans (HB1.out.mono (by simp)))

end Go.Proofs.Ytobplffailbkbaa

/-
  Macros, over lists: what a definition is read as, and when two are the same.
-/
namespace Go.Proofs.Ytobplffailbkbaa

/-- A macro. -/
structure Xm where
  n : ByteArray
  fn : Bool
  va : Bool
  ps : List ByteArray
  bd : List Xt
  g : ByteArray
  f : Int
  t : Int

abbrev vaB : ByteArray := ⟨#[95, 95, 86, 65, 95, 65, 82, 71, 83, 95, 95]⟩
abbrev dfB : ByteArray := ⟨#[100, 101, 102, 105, 110, 101, 100]⟩
abbrev flB : ByteArray := ⟨#[95, 95, 70, 73, 76, 69, 95, 95]⟩
abbrev lnB : ByteArray := ⟨#[95, 95, 76, 73, 78, 69, 95, 95]⟩
abbrev oB : ByteArray := ⟨#[40]⟩
abbrev cB : ByteArray := ⟨#[41]⟩
abbrev kB : ByteArray := ⟨#[44]⟩
abbrev eB : ByteArray := ⟨#[46, 46, 46]⟩

/-- A name that no macro may have. -/
def resB (x : ByteArray) : Bool := decide (x = dfB) || decide (x = flB) || decide (x = lnB) || decide (x = vaB)

def memB (x : ByteArray) (ps : List ByteArray) : Bool := ps.any fun y => decide (y = x)
theorem memB_iff {x : ByteArray} {ps : List ByteArray} : memB x ps = true ↔ x ∈ ps := by
  unfold memB
  simp
theorem memB_not {x : ByteArray} {ps : List ByteArray} (h : memB x ps = false) : x ∉ ps := fun hx => by
  rw [memB_iff.2 hx] at h
  cases h

/-- May a token be a parameter's name? -/
def parB (ps : List ByteArray) (t : Xt) : Bool := decide (t.k = 1) && !decide (t.x = vaB) && !memB t.x ps

/-- A sign, if it is the next one. -/
def takeL (s : ByteArray) : List Xt → Option (List Xt)
  | [] => none
  | t :: r => if isX t s then some r else none

/-- A parameter that has a name. -/
def parL (ps : List ByteArray) : List Xt → Option (ByteArray × List Xt)
  | [] => none
  | t :: r => if parB ps t then some (t.x, r) else none

/-- The row of parameters, from a parameter on. -/
def rowL (ps : List ByteArray) : List Xt → Option (Bool × List ByteArray × List Xt)
  | [] => none
  | [_] => none
  | t :: u :: r =>
    if isX t eB then (if isX u cB then some (true, ps ++ [vaB], r) else none)
    else if parB ps t then (if isX u cB then some (false, ps ++ [t.x], r) else if isX u kB then rowL (ps ++ [t.x]) r else none)
    else none

/-- Func, Variadic, Params, and what is left. -/
def headL (T : List Xt) : Option (Bool × Bool × List ByteArray × List Xt) :=
  match T with
  | [] => some (false, false, [], [])
  | t :: r =>
    if t.sp = false ∧ isX t oB = true then
      (match r with
      | [] => none
      | u :: q => if isX u cB then some (true, false, [], q) else (rowL [] r).map fun x => (true, x.1, x.2.1, x.2.2))
    else some (false, false, [], t :: r)

/-- What is left, as a body. -/
def bareL : List Xt → List Xt
  | [] => []
  | t :: r => { t with sp := false } :: r

/-- Does a parameter stand there? -/
def isPar (ps : List ByteArray) (T : List Xt) (i : Nat) : Bool :=
  match T[i]? with
  | none => false
  | some t => decide (t.k = 1) && memB t.x ps

/-- May a token of a body not stand there? -/
def illX (fn va : Bool) (ps : List ByteArray) (T : List Xt) (i : Nat) (t : Xt) : Bool :=
  (pasteX t && (decide (i = 0) || decide (i + 1 = T.length))) || (hashX t && fn && !isPar ps T (i + 1)) || (decide (t.k = 1) && decide (t.x = vaB) && !va)

/-- The first one that may not, from a place on. -/
def misL (fn va : Bool) (ps : List ByteArray) (T : List Xt) : Nat → Nat → Option Nat
  | 0, _ => none
  | n + 1, i => match T[i]? with
    | none => none
    | some t => if illX fn va ps T i t then some i else misL fn va ps T n (i + 1)

/-- What is told. -/
structure Ill where
  c : Int
  g : ByteArray
  f : Int
  t : Int

def illOf (c : Int) (t : Xt) : Ill := ⟨c, t.g, t.f, t.t⟩

/-- A definition. -/
def parseL (T : List Xt) : Xm ⊕ Ill :=
  match T with
  | [] => .inr ⟨4, ⟨#[]⟩, 0, 0⟩
  | t :: r =>
    if t.k ≠ 1 then .inr (illOf 4 t)
    else if resB t.x then .inr (illOf 5 t)
    else match headL r with
      | none => .inr (illOf 5 t)
      | some (fn, va, ps, q) => match misL fn va ps (bareL q) (bareL q).length 0 with
        | some i => match (bareL q)[i]? with
          | some u => .inr (illOf 5 u)
          | none => .inr (illOf 5 t)
        | none => .inl ⟨t.x, fn, va, ps, bareL q, t.g, t.f, t.t⟩

theorem takeL_yes {t : Xt} {s : ByteArray} {r : List Xt} (h : isX t s = true) : takeL s (t :: r) = some r := by
  show (if isX t s = true then some r else none) = _
  rw [h]
  rfl
theorem takeL_no {t : Xt} {s : ByteArray} {r : List Xt} (h : isX t s = false) : takeL s (t :: r) = none := by
  show (if isX t s = true then some r else none) = _
  rw [h]
  rfl

/-- The row, by what is taken. -/
theorem rowL_take (ps : List ByteArray) (R : List Xt) : rowL ps R = match takeL eB R with
    | some R1 => (match takeL cB R1 with
      | some q => some (true, ps ++ [vaB], q)
      | none => none)
    | none => match R with
      | [] => none
      | t :: r => if parB ps t then (match takeL cB r with
        | some q => some (false, ps ++ [t.x], q)
        | none => match takeL kB r with
          | some r' => rowL (ps ++ [t.x]) r'
          | none => none) else none := by
  match R with
  | [] => rfl
  | [t] =>
    rw [show rowL ps [t] = none from rfl]
    cases he : isX t eB with
    | true => rw [takeL_yes he]; rfl
    | false =>
      rw [takeL_no he]
      show none = if parB ps t = true then _ else none
      split <;> rfl
  | t :: u :: r =>
    rw [show rowL ps (t :: u :: r) = (if isX t eB then (if isX u cB then some (true, ps ++ [vaB], r) else none)
      else if parB ps t then (if isX u cB then some (false, ps ++ [t.x], r) else if isX u kB then rowL (ps ++ [t.x]) r else none)
      else none) from rfl]
    cases he : isX t eB with
    | true =>
      rw [takeL_yes he, if_pos rfl]
      cases hc : isX u cB with
      | true => simp only [takeL_yes hc, if_pos]
      | false => simp only [takeL_no hc, Bool.false_eq_true, if_false]
    | false =>
      rw [takeL_no he, if_neg (by simp)]
      show _ = if parB ps t = true then _ else none
      cases hp : parB ps t with
      | false => rfl
      | true =>
        rw [if_pos rfl, if_pos rfl]
        cases hc : isX u cB with
        | true => simp only [takeL_yes hc, if_pos]
        | false =>
          simp only [takeL_no hc, Bool.false_eq_true, if_false]
          cases hk : isX u kB with
          | true => simp only [takeL_yes hk, if_pos]
          | false => simp only [takeL_no hk, Bool.false_eq_true, if_false]

theorem misL_is {fn va : Bool} {ps : List ByteArray} {T : List Xt} : ∀ (n i : Nat), i + n = T.length →
    (misL fn va ps T n i = none ∧ ∀ j t, i ≤ j → T[j]? = some t → illX fn va ps T j t = false) ∨
    (∃ j t, i ≤ j ∧ T[j]? = some t ∧ misL fn va ps T n i = some j ∧ illX fn va ps T j t = true ∧ ∀ k u, i ≤ k → k < j → T[k]? = some u → illX fn va ps T k u = false)
  | 0, i, h => .inl ⟨rfl, fun j t hj ht => by
      have h1 := (List.getElem?_eq_some_iff.1 ht).1
      exact absurd h1 (by omega)⟩
  | n + 1, i, h => by
    obtain ⟨t, ht⟩ : ∃ t, T[i]? = some t := ⟨_, List.getElem?_eq_getElem (l := T) (i := i) (by omega)⟩
    have e : misL fn va ps T (n + 1) i = if illX fn va ps T i t then some i else misL fn va ps T n (i + 1) := by
      show (match T[i]? with | none => none | some t => if illX fn va ps T i t then some i else misL fn va ps T n (i + 1)) = _
      rw [ht]
    rw [e]
    by_cases hb : illX fn va ps T i t = true
    · rw [if_pos hb]
      exact .inr ⟨i, t, Nat.le_refl _, ht, rfl, hb, fun k u h1 h2 => by omega⟩
    · rw [if_neg hb]
      have hf : ∀ k u, i ≤ k → k < i + 1 → T[k]? = some u → illX fn va ps T k u = false := fun k u h1 h2 hu => by
        obtain rfl : k = i := by omega
        rw [ht] at hu
        cases hu
        simpa using hb
      rcases misL_is (fn := fn) (va := va) (ps := ps) (T := T) n (i + 1) (by omega) with ⟨h1, h2⟩ | ⟨j, u, h1, h2, h3, h4, h5⟩
      · refine .inl ⟨h1, fun j u hj hu => ?_⟩
        rcases Nat.lt_or_ge j (i + 1) with hk | hk
        · exact hf j u hj hk hu
        · exact h2 j u hk hu
      · refine .inr ⟨j, u, by omega, h2, h3, h4, fun k v hk1 hk2 hv => ?_⟩
        rcases Nat.lt_or_ge k (i + 1) with hk | hk
        · exact hf k v hk1 hk hv
        · exact h5 k v hk hk2 hv

end Go.Proofs.Ytobplffailbkbaa

/-
  A line's kind: the document's.
-/
namespace Go.Proofs.Ytobplffailbkbaa
open Go.RowKit

def WordsAt (g : Nat) (w : World) : Prop := ∀ i, i < 14 → w.cell? ⟨g, i, none⟩ = some (.string (wB i))
def WordsPost (w : World) (e : Ending) (w' : World) : Prop := ∃ g, e = .returned (.slice (some ⟨g, 0, none⟩) 14 14) ∧ Below w.heap.size w w' ∧ g < w'.heap.size ∧ WordsAt g w'

theorem WordsAt.next {g : Nat} {w w' : World} (h : WordsAt g w) (b : Below w.heap.size w w') (hg : g < w.heap.size) : WordsAt g w' := fun i hi => bcell b (h i hi) hg

/-- The first token, and the second one. -/
theorem ToksX.get {T : List Xt} {a : Option Addr} {n cap : Nat} {w : World} (h : ToksX T (.slice a n cap) w) {k : Nat} {t : Xt} (ht : T[k]? = some t) :
    ∃ g o sa sn sc, a = some ⟨g, o, none⟩ ∧ g < w.heap.size ∧ sn = t.ss.length ∧ TokX t (.slice sa sn sc) g (o + k * 8) w ∧ SitsA t.ss (.slice sa sn sc) w := by
  obtain ⟨a', cap', hv, -, -, h3⟩ := h
  obtain ⟨g, o, ha, hg, sv, hc, hs⟩ := h3 k t ht
  obtain ⟨sa, sn, sc, rfl, hn, -⟩ := hs.form
  simp only [Value.slice.injEq] at hv
  exact ⟨g, o, sa, sn, sc, by rw [hv.1]; exact ha, hg, hn, hc, hs⟩
theorem ToksX.len {T : List Xt} {a : Option Addr} {n cap : Nat} {w : World} (h : ToksX T (.slice a n cap) w) : n = T.length ∧ n ≤ cap ∧ cap ≤ maxLen := by
  obtain ⟨a', cap', hv, h1, h2, -⟩ := h
  simp only [Value.slice.injEq] at hv
  obtain ⟨-, e1, e2⟩ := hv
  exact ⟨e1, by omega, by omega⟩
theorem ToksX.form {T : List Xt} {v : Value} {w : World} (h : ToksX T v w) : ∃ a n cap, v = .slice a n cap := by
  obtain ⟨a, cap, hv, -⟩ := h
  exact ⟨a, _, cap, hv⟩

theorem kind_nil : kindL [] = 0 := rfl
theorem kind_no {t : Xt} {r : List Xt} (h : hashX t = false) : kindL (t :: r) = 0 := by
  show (if hashX t = true then _ else 0) = 0
  rw [h]
  rfl
theorem kind_one {t : Xt} (h : hashX t = true) : kindL [t] = 1 := by
  show (if hashX t = true then _ else 0) = 1
  rw [h]
  rfl
theorem kind_two {t s : Xt} {r : List Xt} (h : hashX t = true) : kindL (t :: s :: r) = if s.k = 1 then wKind s.x else 14 := by
  show (if hashX t = true then _ else 0) = _
  rw [h]
  rfl

end Go.Proofs.Ytobplffailbkbaa

/-
  The document's SameToken and SameTokens, of what is the same, any.
-/
namespace Go.Proofs.Ytobplffailbkbaa
open Go.RowKit

/-- Two boxes of eight cells, one behind the other: their last cells. -/
theorem two_boxes (w : World) (c0 c1 c2 c3 c4 c5 c6 c7 e7 : Value) (T : TypeId) :
    Below w.heap.size w ((w.alloc (.cells #[c0, c1, c2, c3, c4, c5, c6, c7] T)).alloc (.cells #[c0, c1, c2, c3, c4, c5, c6, e7] T)) ∧
    ((w.alloc (.cells #[c0, c1, c2, c3, c4, c5, c6, c7] T)).alloc (.cells #[c0, c1, c2, c3, c4, c5, c6, e7] T)).cell? ⟨w.heap.size, 7, none⟩ = some c7 ∧
    ((w.alloc (.cells #[c0, c1, c2, c3, c4, c5, c6, c7] T)).alloc (.cells #[c0, c1, c2, c3, c4, c5, c6, e7] T)).cell? ⟨w.heap.size + 1, 7, none⟩ = some e7 ∧
    ((w.alloc (.cells #[c0, c1, c2, c3, c4, c5, c6, c7] T)).alloc (.cells #[c0, c1, c2, c3, c4, c5, c6, e7] T)).heap.size = w.heap.size + 2 := by
  refine ⟨((Below.refl _ _).alloc (Nat.le_refl _) _).alloc (by simp) _, ?_, ?_, by simp⟩
  · rw [Lib.cell_of_heap (heap_one w _ _)]
    rfl
  · have h := heap_alloc_new (w.alloc (.cells #[c0, c1, c2, c3, c4, c5, c6, c7] T)) (.cells #[c0, c1, c2, c3, c4, c5, c6, e7] T)
    rw [show (w.alloc (.cells #[c0, c1, c2, c3, c4, c5, c6, c7] T)).heap.size = w.heap.size + 1 from by simp] at h
    rw [Lib.cell_of_heap h]
    rfl

theorem SitsA.len {S : List Xs} {a : Option Addr} {n cap : Nat} {w : World} (h : SitsA S (.slice a n cap) w) : n = S.length ∧ n ≤ cap ∧ cap ≤ maxLen := by
  obtain ⟨a', cap', hv, h1, h2, -⟩ := h
  simp only [Value.slice.injEq] at hv
  obtain ⟨-, e1, e2⟩ := hv
  exact ⟨e1, by omega, by omega⟩
theorem SitsA.get {S : List Xs} {a : Option Addr} {n cap : Nat} {w : World} (h : SitsA S (.slice a n cap) w) {k : Nat} {s : Xs} (hs : S[k]? = some s) : ∃ g o, a = some ⟨g, o, none⟩ ∧ g < w.heap.size ∧ SitA s g (o + k * 5) w := by
  obtain ⟨a', cap', hv, -, -, h3⟩ := h
  simp only [Value.slice.injEq] at hv
  obtain ⟨g, o, ha, hg, hc⟩ := h3 k s hs
  exact ⟨g, o, by rw [hv.1]; exact ha, hg, hc⟩

set_option maxRecDepth 100000 in
set_option maxHeartbeats 3200000 in
theorem sameTok_any (t : Xt) {a a' : Option Addr} {n cap n' cap' : Nat} {w : World} (h : SitsA t.ss (.slice a n cap) w) (h' : SitsA t.ss (.slice a' n' cap') w) :
    Calls Try.prog 11 #[.agg #[.int .i64 t.k, .string t.x, .bool t.sp, .string t.g, .int .i64 t.f, .int .i64 t.t, .bool t.d, .slice a n cap], .agg #[.int .i64 t.k, .string t.x, .bool t.sp, .string t.g, .int .i64 t.f, .int .i64 t.t, .bool t.d, .slice a' n' cap']] w (TruePost w) := by
  obtain ⟨hn, hc1, hc2⟩ := h.len
  obtain ⟨hn', hc1', hc2'⟩ := h'.len
  obtain rfl : n = n' := hn.trans hn'.symm
  unfold maxLen at hc2 hc2'
  have HX := Lib.hid h
  have HX' := Lib.hid h'
  have HN := Lib.hid hn
  clear h h' hn hn'
  go_enter Try.func11, Try.ntmps11
  go_wp2
  obtain ⟨hB, k7, m7, hsz⟩ := two_boxes w (.int .i64 t.k) (.string t.x) (.bool t.sp) (.string t.g) (.int .i64 t.f) (.int .i64 t.t) (.bool t.d) (.slice a n cap) (.slice a' n cap') 26
  obtain ⟨o1, ho1⟩ : ∃ o : Obj, Obj.cells #[.int .i64 t.k, .string t.x, .bool t.sp, .string t.g, .int .i64 t.f, .int .i64 t.t, .bool t.d, .slice a n cap] 26 = o := ⟨_, rfl⟩
  obtain ⟨o2, ho2⟩ : ∃ o : Obj, Obj.cells #[.int .i64 t.k, .string t.x, .bool t.sp, .string t.g, .int .i64 t.f, .int .i64 t.t, .bool t.d, .slice a' n cap'] 26 = o := ⟨_, rfl⟩
  rw [ho1, ho2] at hB k7 m7 hsz ⊢
  obtain ⟨w2, hw2⟩ : ∃ w2, (w.alloc o1).alloc o2 = w2 := ⟨_, rfl⟩
  rw [hw2] at hB k7 m7 hsz ⊢
  have HB := Lib.hid hB
  have HK7 := Lib.hid k7
  have HM7 := Lib.hid m7
  have hz1 : w.heap.size < w2.heap.size := by omega
  have hz2 : w.heap.size + 1 < w2.heap.size := by omega
  clear hB hw2 ho1 ho2 k7 m7 hsz
  go_loopw [5] (fun i wr => ∃ k : Nat, i = .int .i64 (k : Int) ∧ k ≤ n ∧ Below w2.heap.size w2 wr) (fun i _ => n - (intOf i).toNat)
  case atStart => exact ⟨0, rfl, Nat.zero_le _, Below.refl _ _⟩
  case round =>
    obtain ⟨k, rfl, hk, hb⟩ := hrel
    have k7 := bcell hb HK7.out hz1
    have m7 := bcell hb HM7.out hz2
    have HBW : Hid (Below w.heap.size w wr) := Lib.hid (HB.out.trans (hb.mono HB.out.size))
    have HB2 := Lib.hid hb
    clear hb
    by_cases hlt : k < n
    · obtain ⟨s, hs⟩ : ∃ s, t.ss[k]? = some s := ⟨_, List.getElem?_eq_getElem (by rw [← HN.out]; exact hlt)⟩
      obtain ⟨g, o, rfl, hg, hsa⟩ := HX.out.get hs
      obtain ⟨g', o', rfl, hg', hsb⟩ := HX'.out.get hs
      obtain ⟨e0, e1, e2, e3, e4⟩ := hsa.next HBW.out hg
      obtain ⟨f0, f1, f2, f3, f4⟩ := hsb.next HBW.out hg'
      have hkI : (k : Int) < (n : Int) := by omega
      have hk0 : (0 : Int) ≤ (k : Int) := by omega
      clear hs hsa hsb
      go_wp2
      go_quiet (fail)
      go_wp2
      go_roundw
      case rel => exact ⟨k + 1, by go_num, hlt, HB2.out.trans ((Below.of_drews _ _).mono HB2.out.size)⟩
      case measure => simp [intOf]; omega
    · have hkI : ¬ (k : Int) < (n : Int) := by omega
      go_wp2
      go_ret
      exact ⟨rfl, HBW.out⟩

end Go.Proofs.Ytobplffailbkbaa
