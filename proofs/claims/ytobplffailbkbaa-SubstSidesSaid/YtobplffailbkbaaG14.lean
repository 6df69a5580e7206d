/-
  Texts of the proof, put together: McPw, McPx, McSame, McTxt, SuRp, McClone, McTab, McDef.
-/
import Derived.Test.YtobplffailbkbaaG13
import Derived.Maps.OwnSet
import Derived.BigRegion
import Derived.Deep.RegionHeld3

/-
  Parse, walked.
-/
namespace Go.Proofs.Ytobplffailbkbaa
open Go.RowKit Go.Maps

end Go.Proofs.Ytobplffailbkbaa

/-
  Parse, walked: what has a name.
-/
namespace Go.Proofs.Ytobplffailbkbaa
open Go.RowKit Go.Maps

theorem site_off {s : Xs} {g o : Nat} {w : World} {q : Nat} (h : SitA s g o w) (hq : w.heap[q]? = some zeroObj) : g ≠ q := by
  rintro rfl
  obtain ⟨c0, c1, -⟩ := h
  unfold zeroObj at hq
  rw [Lib.cell_of_heap hq] at c0 c1
  match o with
  | 0 => simp at c1
  | 1 => simp at c0
  | 2 => simp at c0
  | 3 => simp at c0
  | 4 => simp at c0
  | 5 => simp at c1
  | 6 => simp at c0
  | 7 => simp at c0
  | o + 8 => simp at c0
theorem tok_off {t : Xt} {sv : Value} {g o : Nat} {w : World} {q : Nat} (h : TokX t sv g o w) (hq : w.heap[q]? = some zeroObj) : g ≠ q := by
  rintro rfl
  obtain ⟨c0, c1, -⟩ := h
  unfold zeroObj at hq
  rw [Lib.cell_of_heap hq] at c0 c1
  match o with
  | 0 => simp at c0
  | 1 => simp at c0
  | 2 => simp at c0
  | 3 => simp at c0
  | 4 => simp at c0
  | 5 => simp at c0
  | 6 => simp at c1
  | 7 => simp at c1
  | o + 8 => simp at c0
theorem SitsA.off {S : List Xs} {v : Value} {w w' : World} {q : Nat} (h : SitsA S v w) (hq : w.heap[q]? = some zeroObj) (hs : w'.heap.size = w.heap.size) (hf : ∀ g, g ≠ q → w'.heap[g]? = w.heap[g]?) : SitsA S v w' := by
  obtain ⟨a, cap, hv, h1, h2, h3⟩ := h
  refine ⟨a, cap, hv, h1, h2, fun k s hk => ?_⟩
  obtain ⟨g, o, ha, hg, hc⟩ := h3 k s hk
  have hb := hf g (site_off hc hq)
  obtain ⟨c0, c1, c2, c3, c4⟩ := hc
  exact ⟨g, o, ha, by rw [hs]; exact hg, (World.cell?_of_block hb).trans c0, (World.cell?_of_block hb).trans c1, (World.cell?_of_block hb).trans c2, (World.cell?_of_block hb).trans c3, (World.cell?_of_block hb).trans c4⟩
theorem ToksX.off {T : List Xt} {v : Value} {w w' : World} {q : Nat} (h : ToksX T v w) (hq : w.heap[q]? = some zeroObj) (hs : w'.heap.size = w.heap.size) (hf : ∀ g, g ≠ q → w'.heap[g]? = w.heap[g]?) : ToksX T v w' := by
  obtain ⟨a, cap, hv, h1, h2, h3⟩ := h
  refine ⟨a, cap, hv, h1, h2, fun k t hk => ?_⟩
  obtain ⟨g, o, ha, hg, sv, hc, hss⟩ := h3 k t hk
  have hb := hf g (tok_off hc hq)
  obtain ⟨c0, c1, c2, c3, c4, c5, c6, c7⟩ := hc
  exact ⟨g, o, ha, by rw [hs]; exact hg, sv, ⟨(World.cell?_of_block hb).trans c0, (World.cell?_of_block hb).trans c1, (World.cell?_of_block hb).trans c2, (World.cell?_of_block hb).trans c3, (World.cell?_of_block hb).trans c4, (World.cell?_of_block hb).trans c5, (World.cell?_of_block hb).trans c6, (World.cell?_of_block hb).trans c7⟩, hss.off hq hs hf⟩

end Go.Proofs.Ytobplffailbkbaa

/-
  When two macros are the same.
-/
namespace Go.Proofs.Ytobplffailbkbaa
open Go.RowKit Go.Maps

def alikeX (t u : Xt) : Bool := decide (t.k = u.k) && decide (t.x = u.x) && (t.sp == u.sp)
def alikeL : List Xt → List Xt → Bool
  | [], [] => true
  | t :: r, u :: s => alikeX t u && alikeL r s
  | _, _ => false
def sameM (x y : Xm) : Bool := decide (x.n = y.n) && (x.fn == y.fn) && (x.va == y.va) && decide (x.ps = y.ps) && alikeL x.bd y.bd

theorem alikeL_len : ∀ {T U : List Xt}, T.length ≠ U.length → alikeL T U = false
  | [], [], h => absurd rfl h
  | [], _ :: _, _ => rfl
  | _ :: _, [], _ => rfl
  | t :: r, u :: s, h => by
    have := alikeL_len (T := r) (U := s) (by simpa using h)
    show (alikeX t u && alikeL r s) = false
    rw [this, Bool.and_false]
theorem alikeL_yes : ∀ {T U : List Xt}, T.length = U.length → (∀ (j : Nat) (t u : Xt), T[j]? = some t → U[j]? = some u → alikeX t u = true) → alikeL T U = true
  | [], [], _, _ => rfl
  | [], _ :: _, h, _ => by simp at h
  | _ :: _, [], h, _ => by simp at h
  | t :: r, u :: s, h, ha => by
    show (alikeX t u && alikeL r s) = true
    rw [ha 0 t u rfl rfl, alikeL_yes (by simpa using h) (fun j a b h1 h2 => ha (j + 1) a b (by simpa using h1) (by simpa using h2))]
    rfl
theorem alikeL_no : ∀ {T U : List Xt} {j : Nat} {t u : Xt}, T[j]? = some t → U[j]? = some u → alikeX t u = false → alikeL T U = false
  | [], _, _, _, _, h, _, _ => by simp at h
  | _ :: _, [], _, _, _, _, h, _ => by simp at h
  | a :: r, b :: s, 0, t, u, h1, h2, h3 => by
    simp only [List.getElem?_cons_zero, Option.some.injEq] at h1 h2
    subst h1 h2
    show (alikeX a b && alikeL r s) = false
    rw [h3, Bool.false_and]
  | a :: r, b :: s, j + 1, t, u, h1, h2, h3 => by
    show (alikeX a b && alikeL r s) = false
    rw [alikeL_no (T := r) (U := s) (j := j) (by simpa using h1) (by simpa using h2) h3, Bool.and_false]

end Go.Proofs.Ytobplffailbkbaa

/-
  Rows of texts: are two the same; where a text stands.
-/
namespace Go.Proofs.Ytobplffailbkbaa
open Go.RowKit Go.Maps

theorem ret_intM {k : IntKind} {a b : Int} (h : a = b) : Ending.returned (.int k a) = .returned (.int k b) := by rw [h]
/-- Where a text stands. -/
def idxI (x : ByteArray) : List ByteArray → Int → Int
  | [], _ => -1
  | y :: r, k => if x = y then k else idxI x r (k + 1)
theorem idx_drop {x : ByteArray} : ∀ (X : List ByteArray) (k : Nat), (∀ j, j < k → X[j]? ≠ some x) → idxI x X 0 = idxI x (X.drop k) k
  | X, 0, _ => by simp
  | X, k + 1, h => by
    rw [idx_drop X k fun j hj => h j (by omega)]
    rcases Nat.lt_or_ge k X.length with hk | hk
    · rw [List.drop_eq_getElem_cons hk]
      show (if x = X[k] then (k : Int) else idxI x (X.drop (k + 1)) (k + 1)) = _
      rw [if_neg fun e => h k (by omega) (by rw [List.getElem?_eq_getElem hk, e])]
      rfl
    · rw [List.drop_eq_nil_of_le hk, List.drop_eq_nil_of_le (by omega)]
      rfl
theorem idx_at {x : ByteArray} {X : List ByteArray} {k : Nat} (h : ∀ j, j < k → X[j]? ≠ some x) (hk : X[k]? = some x) : (k : Int) = idxI x X 0 := by
  have hl := (List.getElem?_eq_some_iff.1 hk).1
  rw [idx_drop X k h, List.drop_eq_getElem_cons hl]
  show _ = if x = X[k] then (k : Int) else _
  rw [List.getElem?_eq_getElem hl] at hk
  rw [if_pos (Option.some.inj hk).symm]
theorem idx_none {x : ByteArray} {X : List ByteArray} (h : ∀ j, j < X.length → X[j]? ≠ some x) : (-1 : Int) = idxI x X 0 := by
  rw [idx_drop X X.length h, List.drop_length]
  rfl

/-- A macro's box. -/
def BoxM (m : Xm) (pv bv : Value) (g : Nat) (w : World) : Prop :=
  w.cell? ⟨g, 0, none⟩ = some (.string m.n) ∧ w.cell? ⟨g, 1, none⟩ = some (.bool m.fn) ∧ w.cell? ⟨g, 2, none⟩ = some (.bool m.va) ∧ w.cell? ⟨g, 3, none⟩ = some pv ∧ w.cell? ⟨g, 4, none⟩ = some bv ∧ w.cell? ⟨g, 5, none⟩ = some (.string m.g) ∧ w.cell? ⟨g, 6, none⟩ = some (.int .i64 m.f) ∧ w.cell? ⟨g, 7, none⟩ = some (.int .i64 m.t)
theorem BoxM.next {m : Xm} {pv bv : Value} {g : Nat} {w w' : World} (h : BoxM m pv bv g w) (b : Below w.heap.size w w') (hg : g < w.heap.size) : BoxM m pv bv g w' := by
  obtain ⟨c0, c1, c2, c3, c4, c5, c6, c7⟩ := h
  exact ⟨bcell b c0 hg, bcell b c1 hg, bcell b c2 hg, bcell b c3 hg, bcell b c4 hg, bcell b c5 hg, bcell b c6 hg, bcell b c7 hg⟩
theorem boxM_new (m : Xm) (pv bv : Value) (T : TypeId) (w : World) : BoxM m pv bv w.heap.size (w.alloc (.cells #[.string m.n, .bool m.fn, .bool m.va, pv, bv, .string m.g, .int .i64 m.f, .int .i64 m.t] T)) := by
  have hh : ∀ j u, (#[.string m.n, .bool m.fn, .bool m.va, pv, bv, .string m.g, .int .i64 m.f, .int .i64 m.t] : Array Value)[j]? = some u → (w.alloc (.cells #[.string m.n, .bool m.fn, .bool m.va, pv, bv, .string m.g, .int .i64 m.f, .int .i64 m.t] T)).cell? ⟨w.heap.size, j, none⟩ = some u := fun j u h => by
    rw [Lib.cell_of_heap (heap_alloc_new w _)]
    exact h
  exact ⟨hh 0 _ rfl, hh 1 _ rfl, hh 2 _ rfl, hh 3 _ rfl, hh 4 _ rfl, hh 5 _ rfl, hh 6 _ rfl, hh 7 _ rfl⟩

theorem same_ways (b1 b2 b3 b4 : Bool) : b1 = false ∨ (b1 = true ∧ b2 = false) ∨ (b1 = true ∧ b2 = true ∧ b3 = false) ∨ (b1 = true ∧ b2 = true ∧ b3 = true ∧ b4 = false) ∨ (b1 = true ∧ b2 = true ∧ b3 = true ∧ b4 = true) := by
  cases b1 <;> cases b2 <;> cases b3 <;> cases b4 <;> simp

end Go.Proofs.Ytobplffailbkbaa

/-
  What the document's Parse asks of tokens and names: Paster, Param, kept.
-/
namespace Go.Proofs.Ytobplffailbkbaa
open Go.RowKit Go.Maps

set_option maxRecDepth 100000 in
set_option maxHeartbeats 1600000 in
theorem rPaster_any (t : Xt) (sa : Option Addr) (sn sc : Nat) (w : World) : Calls Try.prog 46 #[.agg #[.int .i64 t.k, .string t.x, .bool t.sp, .string t.g, .int .i64 t.f, .int .i64 t.t, .bool t.d, .slice sa sn sc]] w (BoolNew (pasteX t) w) := by
  have hb : pasteX t = (isX t ⟨#[35, 35]⟩ || isX t ⟨#[37, 58, 37, 58]⟩) := rfl
  have HB := Lib.hid hb
  obtain ⟨b1, h1⟩ : ∃ b, isX t ⟨#[35, 35]⟩ = b := ⟨_, rfl⟩
  obtain ⟨b2, h2⟩ : ∃ b, isX t ⟨#[37, 58, 37, 58]⟩ = b := ⟨_, rfl⟩
  have C1 : Hid (∀ W : World, Calls Try.prog 27 #[.agg #[.int .i64 t.k, .string t.x, .bool t.sp, .string t.g, .int .i64 t.f, .int .i64 t.t, .bool t.d, .slice sa sn sc], .string ⟨#[35, 35]⟩] W (BoolNew b1 W)) := Lib.hid (fun W => h1 ▸ isX_any t _ sa sn sc W)
  have C2 : Hid (∀ W : World, Calls Try.prog 27 #[.agg #[.int .i64 t.k, .string t.x, .bool t.sp, .string t.g, .int .i64 t.f, .int .i64 t.t, .bool t.d, .slice sa sn sc], .string ⟨#[37, 58, 37, 58]⟩] W (BoolNew b2 W)) := Lib.hid (fun W => h2 ▸ isX_any t _ sa sn sc W)
  rw [hb, h1, h2]
  clear hb HB h1 h2
  cases b1
  all_goals
    go_enter Try.func46, Try.ntmps46
    go_wp2_with (first
      | (go_at_call 27; (with_reducible refine (C1.out _).mono ?_); rintro e w1 ⟨rfl, hb1⟩; have HB1 := Lib.hid hb1; obtain ⟨k0, k1, k2, k3, k4, k5, k6, k7⟩ := box8 hb1; clear hb1)
      | (go_at_call 27; (with_reducible refine (C2.out _).mono ?_); rintro e w2 ⟨rfl, hb2⟩; have HB2 := Lib.hid hb2; clear hb2))
    go_ret
  · exact bool_new rfl (((Below.refl _ _).alloc (Nat.le_refl _) _).trans ((HB1.out.mono (by simp)).trans (HB2.out.mono (by have := HB1.out.size; simp at this; omega))))
  · exact bool_new rfl (((Below.refl _ _).alloc (Nat.le_refl _) _).trans (HB1.out.mono (by simp)))

set_option maxRecDepth 100000 in
set_option maxHeartbeats 3200000 in
theorem rParam_any {m : Xm} {pv bv : Value} {w : World} (h : StrsV m.ps pv w) (hb : ∃ a n c, bv = .slice a n c) (x : ByteArray) : Calls Try.prog 45 #[macV m pv bv, .string x] w (IntNew (idxI x m.ps 0) w) := by
  obtain ⟨a, n, cap, rfl⟩ := h.form
  obtain ⟨ba, bn, bc, rfl⟩ := hb
  obtain ⟨hn, hc1, hc2⟩ := h.len
  unfold maxLen at hc2
  unfold macV
  obtain ⟨Z, hZ⟩ : ∃ Z, idxI x m.ps 0 = Z := ⟨_, rfl⟩
  have HZ := Lib.hid hZ
  rw [hZ]
  have HN := Lib.hid hn
  have hb1 := (Below.refl w.heap.size w).alloc (Nat.le_refl _) (.cells #[.string m.n, .bool m.fn, .bool m.va, .slice a n cap, .slice ba bn bc, .string m.g, .int .i64 m.f, .int .i64 m.t] 38)
  have HX := Lib.hid (h.over hb1)
  obtain ⟨-, -, -, k3, -⟩ := boxM_new m (.slice a n cap) (.slice ba bn bc) 38 w
  have HB1 := Lib.hid hb1
  clear h hn hZ hb1
  go_enter Try.func45, Try.ntmps45
  go_wp2
  obtain ⟨w1, hw1⟩ : ∃ w1, w.alloc (.cells #[.string m.n, .bool m.fn, .bool m.va, .slice a n cap, .slice ba bn bc, .string m.g, .int .i64 m.f, .int .i64 m.t] 38) = w1 := ⟨_, rfl⟩
  rw [hw1] at k3 HX HB1 ⊢
  clear hw1
  go_loop [5] (fun i => ∃ k : Nat, i = .int .i64 (k : Int) ∧ k ≤ n ∧ idxI x m.ps 0 = idxI x (m.ps.drop k) k) (fun i => n - (intOf i).toNat)
  case atStart => exact ⟨0, rfl, Nat.zero_le _, rfl⟩
  case round =>
    obtain ⟨k, rfl, hk, he⟩ := hrel
    have HE := Lib.hid he
    clear he
    by_cases hlt : k < n
    · obtain ⟨s, hs⟩ : ∃ s, m.ps[k]? = some s := ⟨_, List.getElem?_eq_getElem (by rw [← HN.out]; exact hlt)⟩
      obtain ⟨g, o, rfl, hg, hc⟩ := HX.out.get hs
      have hdr : m.ps.drop k = s :: m.ps.drop (k + 1) := by
        obtain ⟨hlt', rfl⟩ := List.getElem?_eq_some_iff.1 hs
        exact List.drop_eq_getElem_cons hlt'
      have hkI : (k : Int) < (n : Int) := by omega
      have hk0 : (0 : Int) ≤ (k : Int) := by omega
      have hee := HE.out
      rw [hdr, show idxI x (s :: m.ps.drop (k + 1)) (k : Int) = if x = s then (k : Int) else idxI x (m.ps.drop (k + 1)) ((k : Int) + 1) from rfl] at hee
      obtain ⟨b, hbb⟩ : ∃ b, (s.toList == x.toList) = b := ⟨_, rfl⟩
      have hsx : b = decide (s = x) := by rw [← hbb, ← str_is]
      cases b with
      | true =>
        have HO : Hid ((k : Int) = Z) := Lib.hid (by
          rw [← HZ.out, hee, if_pos (by simpa using hsx.symm : s = x).symm])
        clear hs hdr hee hsx
        go_wp2
        go_ret
        exact int_new HO.out HB1.out
      | false =>
        have HO : Hid (idxI x m.ps 0 = idxI x (m.ps.drop (k + 1)) ((k : Int) + 1)) := Lib.hid (by
          rw [hee, if_neg]
          intro e
          rw [e] at hsx
          simp at hsx)
        clear hs hdr hee hsx
        go_wp2
        go_round
        case rel => exact ⟨k + 1, by go_num, hlt, HO.out⟩
        case measure => simp [intOf]; omega
    · have hkI : ¬ (k : Int) < (n : Int) := by omega
      have HO : Hid ((-1 : Int) = Z) := Lib.hid (by rw [← HZ.out, HE.out, List.drop_eq_nil_of_le (by have := HN.out; omega)]; rfl)
      go_wp2
      go_ret
      exact int_new HO.out HB1.out

set_option maxRecDepth 100000 in
set_option maxHeartbeats 1600000 in
theorem rKept_no (x : ByteArray) (hx : resB x = false) (w : World) : Calls Try.prog 26 #[.string x] w (BoolPost false w) := by
  have h1 := df_is x
  have h2 := fl_is x
  have h3 := ln_is x
  have h4 := va_is x
  unfold resB at hx
  simp only [Bool.or_eq_false_iff] at hx
  obtain ⟨⟨⟨e1, e2⟩, e3⟩, e4⟩ := hx
  rw [e1] at h1
  rw [e2] at h2
  rw [e3] at h3
  rw [e4] at h4
  clear e1 e2 e3 e4
  go_enter Try.func26, Try.ntmps26
  go_wp2
  go_ret
  exact ⟨rfl, rfl⟩

end Go.Proofs.Ytobplffailbkbaa

/-
  A macro as new memory.
-/
namespace Go.Proofs.Ytobplffailbkbaa
open Go.RowKit Go.Maps

/-- No site and no token begins in that block. -/
def Bare (w : World) (q : Nat) : Prop := (∀ s o, ¬ SitA s q o w) ∧ ∀ t sv o, ¬ TokX t sv q o w
theorem SitsA.bare {S : List Xs} {v : Value} {w w' : World} {q : Nat} (h : SitsA S v w) (hq : Bare w q) (hs : w.heap.size ≤ w'.heap.size) (hf : ∀ g, g < w.heap.size → g ≠ q → w'.heap[g]? = w.heap[g]?) : SitsA S v w' := by
  obtain ⟨a, cap, hv, h1, h2, h3⟩ := h
  refine ⟨a, cap, hv, h1, h2, fun k s hk => ?_⟩
  obtain ⟨g, o, ha, hg, hc⟩ := h3 k s hk
  have hb := hf g hg (fun e => hq.1 s _ (e ▸ hc))
  obtain ⟨c0, c1, c2, c3, c4⟩ := hc
  exact ⟨g, o, ha, Nat.lt_of_lt_of_le hg hs, (World.cell?_of_block hb).trans c0, (World.cell?_of_block hb).trans c1, (World.cell?_of_block hb).trans c2, (World.cell?_of_block hb).trans c3, (World.cell?_of_block hb).trans c4⟩
theorem ToksX.bare {T : List Xt} {v : Value} {w w' : World} {q : Nat} (h : ToksX T v w) (hq : Bare w q) (hs : w.heap.size ≤ w'.heap.size) (hf : ∀ g, g < w.heap.size → g ≠ q → w'.heap[g]? = w.heap[g]?) : ToksX T v w' := by
  obtain ⟨a, cap, hv, h1, h2, h3⟩ := h
  refine ⟨a, cap, hv, h1, h2, fun k t hk => ?_⟩
  obtain ⟨g, o, ha, hg, sv, hc, hss⟩ := h3 k t hk
  have hb := hf g hg (fun e => hq.2 t sv _ (e ▸ hc))
  obtain ⟨c0, c1, c2, c3, c4, c5, c6, c7⟩ := hc
  exact ⟨g, o, ha, Nat.lt_of_lt_of_le hg hs, sv, ⟨(World.cell?_of_block hb).trans c0, (World.cell?_of_block hb).trans c1, (World.cell?_of_block hb).trans c2, (World.cell?_of_block hb).trans c3, (World.cell?_of_block hb).trans c4, (World.cell?_of_block hb).trans c5, (World.cell?_of_block hb).trans c6, (World.cell?_of_block hb).trans c7⟩, hss.bare hq hs hf⟩
/-- No text stands in that block. -/
def NoStr (w : World) (q : Nat) : Prop := ∀ o s, w.cell? ⟨q, o, none⟩ ≠ some (.string s)
theorem NoStr.bare {w : World} {q : Nat} (h : NoStr w q) : Bare w q := ⟨fun _ o hs => h o _ hs.1, fun _ _ _ ht => h _ _ ht.2.1⟩
theorem StrsV.bare {S : List ByteArray} {v : Value} {w w' : World} {q : Nat} (h : StrsV S v w) (hq : NoStr w q) (hs : w.heap.size ≤ w'.heap.size) (hf : ∀ g, g < w.heap.size → g ≠ q → w'.heap[g]? = w.heap[g]?) : StrsV S v w' := by
  obtain ⟨a, cap, hv, h1, h2, h3⟩ := h
  refine ⟨a, cap, hv, h1, h2, fun k s hk => ?_⟩
  obtain ⟨g, o, ha, hg, hc⟩ := h3 k s hk
  have hb := hf g hg (fun e => hq _ _ (e ▸ hc))
  exact ⟨g, o, ha, Nat.lt_of_lt_of_le hg hs, (World.cell?_of_block hb).trans hc⟩
theorem MacAt.bare {m : Xm} {pv bv : Value} {w w' : World} {q : Nat} (h : MacAt m pv bv w) (hq : NoStr w q) (hs : w.heap.size ≤ w'.heap.size) (hf : ∀ g, g < w.heap.size → g ≠ q → w'.heap[g]? = w.heap[g]?) : MacAt m pv bv w' := ⟨h.1.bare hq hs hf, h.2.bare hq.bare hs hf⟩

/-- A macro's object. -/
def mObj (m : Xm) (pv bv : Value) : Obj := .cells #[.string m.n, .bool m.fn, .bool m.va, pv, bv, .string m.g, .int .i64 m.f, .int .i64 m.t] 45 (0, 0)
theorem mObj_bare {m : Xm} {w : World} {q : Nat} {a b : Option Addr} {n c k d : Nat} (hq : w.heap[q]? = some (mObj m (.slice a n c) (.slice b k d))) : Bare w q := by
  unfold mObj at hq
  constructor
  · rintro s o ⟨c0, c1, -⟩
    rw [Lib.cell_of_heap hq] at c0 c1
    match o with
    | 0 => simp at c1
    | 1 => simp at c0
    | 2 => simp at c0
    | 3 => simp at c0
    | 4 => simp at c0
    | 5 => simp at c1
    | 6 => simp at c0
    | 7 => simp at c0
    | o + 8 => simp at c0
  · rintro t sv o ⟨c0, c1, -⟩
    rw [Lib.cell_of_heap hq] at c0 c1
    match o with
    | 0 => simp at c0
    | 1 => simp at c0
    | 2 => simp at c0
    | 3 => simp at c0
    | 4 => simp at c0
    | 5 => simp at c0
    | 6 => simp at c1
    | 7 => simp at c1
    | o + 8 => simp at c0
theorem mObj_cells {m : Xm} {pv bv : Value} {w : World} {q : Nat} (h : w.heap[q]? = some (mObj m pv bv)) : BoxM m pv bv q w ∧ ∀ j, w.frozen? ⟨q, j, none⟩ = false := by
  unfold mObj at h
  refine ⟨⟨?_, ?_, ?_, ?_, ?_, ?_, ?_, ?_⟩, fun j => Lib.frozen_of_heap h _⟩ <;> (rw [Lib.cell_of_heap h]; rfl)

/-- A macro that was cloned. -/
def MacNew (W : World) (m : Xm) (e : Ending) (w' : World) : Prop := ∃ pv bv, e = .returned (macV m pv bv) ∧ MacAt m pv bv w' ∧ Below W.heap.size W w'

end Go.Proofs.Ytobplffailbkbaa

/-
  A table of macros in memory: its block, its map; the map made its own.
-/
namespace Go.Proofs.Ytobplffailbkbaa
open Go.RowKit Go.Maps

/-- A map's element, as it is. -/
def rawElem (v : Value) : Option (DataW Value × List MemPlace) := some (.held v, [])
theorem rawElem_inv {v x : Value} {ps : List MemPlace} (h : rawElem v = some (.held x, ps)) : v = x := by
  simp only [rawElem, Option.some.injEq, Prod.mk.injEq, DataW.held.injEq] at h
  exact h.1
def noM : Xm := ⟨⟨#[]⟩, false, false, [], [], ⟨#[]⟩, 0, 0⟩
def zeroV : Value := macV noM (.slice none 0 0) (.slice none 0 0)

/-- The macro of a name. -/
def look (x : ByteArray) (L : List Xm) : Option Xm := L.find? fun m => decide (m.n = x)
theorem look_name {x : ByteArray} {L : List Xm} {m : Xm} (h : look x L = some m) : m.n = x := by
  have := List.find?_some h
  simpa using this

theorem zeroMac_run (w : World) : (zeroValue 45).run Try.prog w = .ok zeroV w := by kernel_rfl

end Go.Proofs.Ytobplffailbkbaa

/-
  A macro is defined.
-/
namespace Go.Proofs.Ytobplffailbkbaa
open Go.RowKit Go.Maps

/-- Blocks without texts have turned, and there are new ones. -/
structure Turned (Q : Nat → Prop) (w w' : World) : Prop where
  os : w'.os = w.os
  tape : w'.tape = w.tape
  output : w'.output = w.output
  size : w.heap.size ≤ w'.heap.size
  block : ∀ g, g < w.heap.size → ¬ Q g → w'.heap[g]? = w.heap[g]?
  nos : ∀ g, Q g → g < w.heap.size → NoStr w g
theorem Turned.refl {Q : Nat → Prop} {w : World} (h : ∀ g, Q g → g < w.heap.size → NoStr w g) : Turned Q w w := ⟨rfl, rfl, rfl, Nat.le_refl _, fun _ _ _ => rfl, h⟩
theorem Turned.below {Q : Nat → Prop} {w w' w'' : World} (h : Turned Q w w') (b : Below w'.heap.size w' w'') : Turned Q w w'' :=
  ⟨b.os.trans h.os, b.tape.trans h.tape, b.output.trans h.output, Nat.le_trans h.size b.size, fun g hg hq => (b.block g (Nat.lt_of_lt_of_le hg h.size)).trans (h.block g hg hq), h.nos⟩
theorem Turned.grown {Q : Nat → Prop} {w w' w'' : World} {q : Nat} (h : Turned Q w w') (b : w'.grownBy w'' (some q)) (hq : q < w.heap.size → Q q) : Turned Q w w'' :=
  ⟨b.os.trans h.os, b.tape.trans h.tape, b.output.trans h.output, Nat.le_trans h.size b.size, fun g hg hn => (b.block g (Nat.lt_of_lt_of_le hg h.size) (fun e => hn (by cases e; exact hq hg))).trans (h.block g hg hn), h.nos⟩
theorem Turned.trans {Q : Nat → Prop} {w w' w'' : World} (h : Turned Q w w') (b : Turned Q w' w'') : Turned Q w w'' :=
  ⟨b.os.trans h.os, b.tape.trans h.tape, b.output.trans h.output, Nat.le_trans h.size b.size, fun g hg hn => (b.block g (Nat.lt_of_lt_of_le hg h.size) hn).trans (h.block g hg hn), h.nos⟩
theorem Turned.ended {Q : Nat → Prop} {W w w' : World} (h : Turned Q w w') (hb : Below W.heap.size W w) (hq : ∀ g, Q g → W.heap.size ≤ g) : Below W.heap.size W w' :=
  ⟨h.os.trans hb.os, h.tape.trans hb.tape, h.output.trans hb.output, Nat.le_trans hb.size h.size, fun g hg => (h.block g (Nat.lt_of_lt_of_le hg hb.size) (fun e => by have := hq g e; omega)).trans (hb.block g hg)⟩
theorem Turned.wide {Q R : Nat → Prop} {w w' : World} (h : Turned Q w w') (hr : ∀ g, Q g → R g) (hn : ∀ g, R g → g < w.heap.size → NoStr w g) : Turned R w w' :=
  ⟨h.os, h.tape, h.output, h.size, fun g hg hq => h.block g hg fun e => hq (hr g e), hn⟩

theorem StrsV.turn {S : List ByteArray} {v : Value} {Q : Nat → Prop} {w w' : World} (h : StrsV S v w) (t : Turned Q w w') : StrsV S v w' := by
  obtain ⟨a, cap, hv, h1, h2, h3⟩ := h
  refine ⟨a, cap, hv, h1, h2, fun k s hk => ?_⟩
  obtain ⟨g, o, ha, hg, hc⟩ := h3 k s hk
  exact ⟨g, o, ha, Nat.lt_of_lt_of_le hg t.size, (World.cell?_of_block (t.block g hg fun e => t.nos g e hg _ _ hc)).trans hc⟩
theorem SitsA.turn {S : List Xs} {v : Value} {Q : Nat → Prop} {w w' : World} (h : SitsA S v w) (t : Turned Q w w') : SitsA S v w' := by
  obtain ⟨a, cap, hv, h1, h2, h3⟩ := h
  refine ⟨a, cap, hv, h1, h2, fun k s hk => ?_⟩
  obtain ⟨g, o, ha, hg, hc⟩ := h3 k s hk
  have hb := t.block g hg fun e => t.nos g e hg _ _ hc.1
  obtain ⟨c0, c1, c2, c3, c4⟩ := hc
  exact ⟨g, o, ha, Nat.lt_of_lt_of_le hg t.size, (World.cell?_of_block hb).trans c0, (World.cell?_of_block hb).trans c1, (World.cell?_of_block hb).trans c2, (World.cell?_of_block hb).trans c3, (World.cell?_of_block hb).trans c4⟩
theorem ToksX.turn {T : List Xt} {v : Value} {Q : Nat → Prop} {w w' : World} (h : ToksX T v w) (t : Turned Q w w') : ToksX T v w' := by
  obtain ⟨a, cap, hv, h1, h2, h3⟩ := h
  refine ⟨a, cap, hv, h1, h2, fun k x hk => ?_⟩
  obtain ⟨g, o, ha, hg, sv, hc, hss⟩ := h3 k x hk
  have hb := t.block g hg fun e => t.nos g e hg _ _ hc.2.1
  obtain ⟨c0, c1, c2, c3, c4, c5, c6, c7⟩ := hc
  exact ⟨g, o, ha, Nat.lt_of_lt_of_le hg t.size, sv, ⟨(World.cell?_of_block hb).trans c0, (World.cell?_of_block hb).trans c1, (World.cell?_of_block hb).trans c2, (World.cell?_of_block hb).trans c3, (World.cell?_of_block hb).trans c4, (World.cell?_of_block hb).trans c5, (World.cell?_of_block hb).trans c6, (World.cell?_of_block hb).trans c7⟩, hss.turn t⟩
theorem MacAt.turn {m : Xm} {pv bv : Value} {Q : Nat → Prop} {w w' : World} (h : MacAt m pv bv w) (t : Turned Q w w') : MacAt m pv bv w' := ⟨h.1.turn t, h.2.turn t⟩

theorem own_not {H : Type} {R : Value → Option (DataW H × List MemPlace)} {w : World} {k : TypeId} {b n : Nat} {D : DataW H} (h : w.ownsMap Try.prog k R b n D) {m : Xm} {pv bv : Value} (hq : w.heap[b]? = some (mObj m pv bv)) : False := by
  obtain ⟨es, c, h1, -⟩ := h
  rw [h1] at hq
  cases hq

end Go.Proofs.Ytobplffailbkbaa
