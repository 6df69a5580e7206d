/-
  Texts of the proof, put together: MtRow, MtFlat, MtShort, MtFew, LxLift.
-/
import Derived.Test.YtipipookgcdfbaaG20
import Derived.Test.YtipipookgcdfbaaG42
import Derived.Test.YtipipookgcdfbaaG21
import Derived.Test.YtipipookgcdfbaaG01
import Derived.ProofKit
import Derived.OpenShut
import Derived.ChangeMaps5
import Derived.Below
import Derived.Carry
import Derived.SliceStrings

/-
  Rows of macros, as they are read.
-/
namespace Go.Proofs.Ytipipookgcdfbaa
open Go.RowKit Go.Maps

/-- A macro with its two rows' values. -/
structure Mv where
  m : Xm
  pv : Value
  bv : Value
def mcell (x : Mv) : List Value := [.string x.m.n, .bool x.m.fn, .bool x.m.va, x.pv, x.bv, .string x.m.g, .int .i64 x.m.f, .int .i64 x.m.t]
def mcells (P : List Mv) : List Value := P.flatMap mcell
theorem mcells_append (P Q : List Mv) : mcells (P ++ Q) = mcells P ++ mcells Q := by simp [mcells]
theorem mcells_len : ∀ P : List Mv, (mcells P).length = P.length * 8
  | [] => rfl
  | a :: r => by
    show (mcell a ++ mcells r).length = _
    rw [List.length_append, mcells_len r, List.length_cons]
    show 8 + _ = _
    omega
theorem mcells_split (P : List Mv) (k : Nat) (hk : k ≤ P.length) : mcells (P.take k) = (mcells P).take (k * 8) ∧ mcells (P.drop k) = (mcells P).drop (k * 8) := by
  have e : mcells P = mcells (P.take k) ++ mcells (P.drop k) := by rw [← mcells_append, List.take_append_drop]
  have hl : (mcells (P.take k)).length = k * 8 := by rw [mcells_len, List.length_take, Nat.min_eq_left hk]
  rw [e]
  exact ⟨(List.take_left' hl).symm, (List.drop_left' hl).symm⟩
theorem mcells_get : ∀ (P : List Mv) (k j : Nat) (x : Mv) (u : Value), P[k]? = some x → (mcell x)[j]? = some u → (mcells P)[k * 8 + j]? = some u
  | [], _, _, _, _, h, _ => by simp at h
  | a :: r, 0, j, x, u, h, hj => by
    simp only [List.getElem?_cons_zero, Option.some.injEq] at h
    subst h
    show (mcell a ++ mcells r)[_]? = _
    rw [Nat.zero_mul, Nat.zero_add, List.getElem?_append_left (List.getElem?_eq_some_iff.1 hj).1, hj]
  | a :: r, k + 1, j, x, u, h, hj => by
    show (mcell a ++ mcells r)[_]? = _
    rw [List.getElem?_append_right (by show 8 ≤ _; omega), show (k + 1) * 8 + j - (mcell a).length = k * 8 + j from by show _ - 8 = _; omega]
    exact mcells_get r k j x u (by simpa using h) hj

/-- A row of macros. -/
def MRow (P : List Mv) (v : Value) (w : World) : Prop :=
  (∃ a cap, v = .slice a P.length cap ∧ P.length ≤ cap ∧ cap ≤ maxLen ∧ (a = none → cap = 0) ∧ ∀ j u, (mcells P)[j]? = some u → ∃ g o, a = some ⟨g, o, none⟩ ∧ g < w.heap.size ∧ w.cell? ⟨g, o + j, none⟩ = some u) ∧ ∀ x ∈ P, MacAt x.m x.pv x.bv w
theorem MRow.form {P : List Mv} {v : Value} {w : World} (h : MRow P v w) : ∃ a n cap, v = .slice a n cap := by
  obtain ⟨⟨a, cap, hv, -⟩, -⟩ := h
  exact ⟨a, _, cap, hv⟩
theorem MRow.len {P : List Mv} {a : Option Addr} {n cap : Nat} {w : World} (h : MRow P (.slice a n cap) w) : n = P.length ∧ n ≤ cap ∧ cap ≤ maxLen ∧ (a = none → cap = 0) := by
  obtain ⟨⟨a', cap', hv, h1, h2, h3, -⟩, -⟩ := h
  simp only [Value.slice.injEq] at hv
  obtain ⟨e0, e1, e2⟩ := hv
  subst e0 e1 e2
  exact ⟨rfl, h1, h2, h3⟩
def MacC (x : Mv) (g o : Nat) (w : World) : Prop :=
  w.cell? ⟨g, o, none⟩ = some (.string x.m.n) ∧ w.cell? ⟨g, o + 1, none⟩ = some (.bool x.m.fn) ∧ w.cell? ⟨g, o + 2, none⟩ = some (.bool x.m.va) ∧ w.cell? ⟨g, o + 3, none⟩ = some x.pv ∧
  w.cell? ⟨g, o + 4, none⟩ = some x.bv ∧ w.cell? ⟨g, o + 5, none⟩ = some (.string x.m.g) ∧ w.cell? ⟨g, o + 6, none⟩ = some (.int .i64 x.m.f) ∧ w.cell? ⟨g, o + 7, none⟩ = some (.int .i64 x.m.t)
theorem MacC.next {x : Mv} {g o : Nat} {w w' : World} (h : MacC x g o w) (b : Below w.heap.size w w') (hg : g < w.heap.size) : MacC x g o w' := by
  obtain ⟨c0, c1, c2, c3, c4, c5, c6, c7⟩ := h
  exact ⟨bcell b c0 hg, bcell b c1 hg, bcell b c2 hg, bcell b c3 hg, bcell b c4 hg, bcell b c5 hg, bcell b c6 hg, bcell b c7 hg⟩
theorem MRow.get {P : List Mv} {a : Option Addr} {n cap : Nat} {w : World} (h : MRow P (.slice a n cap) w) {k : Nat} {x : Mv} (hx : P[k]? = some x) : ∃ g o, a = some ⟨g, o, none⟩ ∧ g < w.heap.size ∧ MacC x g (o + k * 8) w ∧ MacAt x.m x.pv x.bv w := by
  obtain ⟨⟨a', cap', hv, h1, h2, h3, hc⟩, hm⟩ := h
  simp only [Value.slice.injEq] at hv
  obtain ⟨rfl, -, -⟩ := hv
  obtain ⟨g, o, rfl, hg, c0⟩ := hc _ _ (mcells_get P k 0 x _ hx rfl)
  have hq : ∀ j u, (mcell x)[j]? = some u → w.cell? ⟨g, o + k * 8 + j, none⟩ = some u := fun j u hj => by
    obtain ⟨g', o', he, -, hc'⟩ := hc _ _ (mcells_get P k j x _ hx hj)
    simp only [Option.some.injEq, Addr.mk.injEq, and_true] at he
    obtain ⟨rfl, rfl⟩ := he
    rw [Nat.add_assoc]
    exact hc'
  exact ⟨g, o, rfl, hg, ⟨hq 0 _ rfl, hq 1 _ rfl, hq 2 _ rfl, hq 3 _ rfl, hq 4 _ rfl, hq 5 _ rfl, hq 6 _ rfl, hq 7 _ rfl⟩, hm x (List.mem_of_getElem? hx)⟩
theorem MRow.over {P : List Mv} {v : Value} {w w' : World} (h : MRow P v w) (b : Below w.heap.size w w') : MRow P v w' := by
  obtain ⟨⟨a, cap, hv, h1, h2, h3, hc⟩, hm⟩ := h
  refine ⟨⟨a, cap, hv, h1, h2, h3, fun j u hj => ?_⟩, fun x hx => (hm x hx).over b⟩
  obtain ⟨g, o, ha, hg, hcc⟩ := hc j u hj
  exact ⟨g, o, ha, Nat.lt_of_lt_of_le hg b.size, bcell b hcc hg⟩
theorem MRow.turn {P : List Mv} {v : Value} {Q : Nat → Prop} {w w' : World} (h : MRow P v w) (t : Turned Q w w') : MRow P v w' := by
  obtain ⟨⟨a, cap, hv, h1, h2, h3, hc⟩, hm⟩ := h
  refine ⟨⟨a, cap, hv, h1, h2, h3, fun j u hj => ?_⟩, fun x hx => (hm x hx).turn t⟩
  obtain ⟨g, o, ha, hg, hcc⟩ := hc j u hj
  have hnq : ¬ Q g := fun hq => by
    obtain ⟨x, hx⟩ : ∃ x, P[0]? = some x := by
      cases P with
      | nil => simp [mcells] at hj
      | cons x r => exact ⟨x, rfl⟩
    obtain ⟨g', o', ha', -, hc'⟩ := hc _ _ (mcells_get P 0 0 x _ hx rfl)
    rw [ha] at ha'
    simp only [Option.some.injEq, Addr.mk.injEq, and_true] at ha'
    obtain ⟨rfl, rfl⟩ := ha'
    exact t.nos g hq hg _ _ hc'
  exact ⟨g, o, ha, Nat.lt_of_lt_of_le hg t.size, (World.cell?_of_block (t.block g hg hnq)).trans hcc⟩
theorem mrow_nil (w : World) : MRow [] (.slice none 0 0) w := ⟨⟨none, 0, rfl, Nat.le_refl _, Nat.zero_le _, fun _ => rfl, fun j u h => by simp [mcells] at h⟩, fun x hx => by cases hx⟩
theorem mcells_one {P : List Mv} {w : World} (h : ∀ x ∈ P, MacAt x.m x.pv x.bv w) : ∀ u ∈ mcells P, u.oneCell' = true := by
  intro u hu
  obtain ⟨x, hx, hu⟩ := List.mem_flatMap.1 hu
  obtain ⟨a, n, c, h1⟩ := (h x hx).1.form
  obtain ⟨b, k, d, h2⟩ := (h x hx).2.form
  unfold mcell at hu
  rw [h1, h2] at hu
  simp only [List.mem_cons, List.not_mem_nil, or_false] at hu
  rcases hu with rfl | rfl | rfl | rfl | rfl | rfl | rfl | rfl <;> rfl
theorem mrow_up {W w : World} {P : List Mv} {v : Value} {n : Nat} (h : Up W 27 8 v n (mcells P) w) (hn : n = P.length) (hm : ∀ x ∈ P, MacAt x.m x.pv x.bv w) : MRow P v w := by
  subst hn
  obtain ⟨a, cap, hv, h1, h2, h3⟩ := row_form h.1
  refine ⟨⟨a, cap, hv, h1, h2, fun ha => ?_, fun j u hj => ?_⟩, hm⟩
  · subst ha
    obtain ⟨-, ⟨hv', -⟩ | ⟨g', cap', cur, hv', -⟩⟩ := h.1
    · rw [hv] at hv'
      simp only [Value.slice.injEq] at hv'
      exact hv'.2.2
    · rw [hv] at hv'
      simp at hv'
  · obtain ⟨g, hg, hlt, hc⟩ := h3 j u hj
    exact ⟨g, 0, hg, hlt, by rw [Nat.zero_add]; exact hc⟩
theorem msrc_take {P : List Mv} {a : Option Addr} {n cap k : Nat} {w : World} (h : MRow P (.slice a n cap) w) (hk : k ≤ n) : Src w (.slice a k cap) k 8 (mcells (P.take k)) := by
  obtain ⟨hn, hc1, hc2, hz⟩ := h.len
  cases a with
  | none =>
    have := hz rfl
    have hk0 : k = 0 := by omega
    subst hk0 this
    exact .inl ⟨rfl, rfl, rfl⟩
  | some ad =>
    refine .inr ⟨_, _, rfl, by rw [mcells_len, List.length_take]; omega, fun j u hj => ?_⟩
    rw [(mcells_split P k (by omega)).1, List.getElem?_take] at hj
    split at hj
    · obtain ⟨⟨a', cap', hv, -, -, -, hc⟩, -⟩ := h
      simp only [Value.slice.injEq] at hv
      obtain ⟨g, o, ha, -, hcc⟩ := hc j u hj
      rw [← hv.1] at ha
      obtain rfl := Option.some.inj ha
      rw [addr_off]
      exact hcc
    · cases hj
theorem msrc_drop {P : List Mv} {g o n cap k : Nat} {w : World} (h : MRow P (.slice (some ⟨g, o, none⟩) n cap) w) (hk : k ≤ n) : Src w (.slice (if cap = k then some ⟨g, o, none⟩ else some ⟨g, o + k * 8, none⟩) (n - k) (cap - k)) (n - k) 8 (mcells (P.drop k)) := by
  obtain ⟨hn, hc1, hc2, hz⟩ := h.len
  have hl : (mcells (P.drop k)).length = (n - k) * 8 := by rw [mcells_len, List.length_drop, hn]
  have hq : ∀ j u, (mcells (P.drop k))[j]? = some u → w.cell? ⟨g, o + k * 8 + j, none⟩ = some u := fun j u hj => by
    rw [(mcells_split P k (by omega)).2, List.getElem?_drop] at hj
    obtain ⟨⟨a', cap', hv, -, -, -, hc⟩, -⟩ := h
    simp only [Value.slice.injEq] at hv
    obtain ⟨g', o', ha, -, hcc⟩ := hc _ u hj
    rw [← hv.1] at ha
    simp only [Option.some.injEq, Addr.mk.injEq, and_true] at ha
    obtain ⟨rfl, rfl⟩ := ha
    rw [Nat.add_assoc]
    exact hcc
  by_cases hck : cap = k
  · rw [if_pos hck]
    refine .inr ⟨_, _, rfl, hl, fun j u hj => ?_⟩
    rw [List.drop_eq_nil_of_le (by omega)] at hj
    simp [mcells] at hj
  · rw [if_neg hck]
    refine .inr ⟨_, _, rfl, hl, fun j u hj => ?_⟩
    rw [addr_off]
    exact hq j u hj

end Go.Proofs.Ytipipookgcdfbaa

/-
  The law's two ways of writing a macro.
-/
namespace Go.Proofs.Ytipipookgcdfbaa
open Go.RowKit Go.Maps

def SamePost (w : World) (m : Xm) (pv bv : Value) (e : Ending) (w' : World) : Prop := e = .returned (macV m pv bv) ∧ Below w.heap.size w w'

theorem two_box (w : World) (o : Obj) (m : Xm) (pv bv : Value) (T : TypeId) : BoxM m pv bv (w.heap.size + 1) ((w.alloc o).alloc (.cells #[.string m.n, .bool m.fn, .bool m.va, pv, bv, .string m.g, .int .i64 m.f, .int .i64 m.t] T)) := by
  have h0 := heap_alloc_new (w.alloc o) (.cells #[.string m.n, .bool m.fn, .bool m.va, pv, bv, .string m.g, .int .i64 m.f, .int .i64 m.t] T)
  rw [show (w.alloc o).heap.size = w.heap.size + 1 from by simp] at h0
  refine ⟨?_, ?_, ?_, ?_, ?_, ?_, ?_, ?_⟩ <;> (rw [Lib.cell_of_heap h0]; rfl)

set_option maxRecDepth 100000 in
theorem made9_any {m : Xm} {pv bv : Value} {w : World} (h : MacAt m pv bv w) : Calls Try.prog 16 #[macV m pv bv] w (SamePost w m pv bv) := by
  obtain ⟨a1, n1, c1, rfl⟩ := h.1.form
  obtain ⟨a2, n2, c2, rfl⟩ := h.2.form
  unfold SamePost macV
  clear h
  obtain ⟨y0, y1, y2, y3, y4, y5, y6, y7⟩ := two_box w (.cells #[.string m.n, .bool m.fn, .bool m.va, .slice a1 n1 c1, .slice a2 n2 c2, .string m.g, .int .i64 m.f, .int .i64 m.t] 27) m (.slice a1 n1 c1) (.slice a2 n2 c2) 38
  go_enter Try.func16, Try.ntmps16
  go_wp2
  exact bodyPost_ret (v := .agg #[.string m.n, .bool m.fn, .bool m.va, .slice a1 n1 c1, .slice a2 n2 c2, .string m.g, .int .i64 m.f, .int .i64 m.t]) (by simp [results, Try.results16, go_sem, y0, y1, y2, y3, y4, y5, y6, y7]) rfl ⟨rfl, ((Below.refl _ _).alloc (Nat.le_refl _) _).alloc (by simp) _⟩

end Go.Proofs.Ytipipookgcdfbaa

/-
  Short: are texts few, and short in all?
-/
namespace Go.Proofs.Ytipipookgcdfbaa
open Go.RowKit

def StrsAtM (a : Option Addr) (xs : List (List UInt8)) (w : World) : Prop := ∀ i x, xs[i]? = some x → ∃ ad, a = some ad ∧ ad.block < w.heap.size ∧ w.cell? (ad.add i) = some (.string ⟨x.toArray⟩)
def sumM (xs : List (List UInt8)) : Nat := (xs.map List.length).sum
def shortM (xs : List (List UInt8)) (most : Nat) : Bool := decide (xs.length ≤ most) && decide (sumM xs ≤ most)

theorem sumM_mem {xs : List (List UInt8)} {x : List UInt8} (h : x ∈ xs) : x.length ≤ sumM xs := by
  induction xs with
  | nil => cases h
  | cons a r ih =>
    simp only [sumM, List.map_cons, List.sum_cons] at ih ⊢
    rcases List.mem_cons.1 h with rfl | h
    · omega
    · have := ih h
      omega

def ShortMRel (xs : List (List UInt8)) (most : Nat) (n i : Value) : Prop :=
  ∃ k : Nat, i = .int .i64 (k : Int) ∧ n = .int .i64 (sumM (xs.take k) : Int) ∧ k ≤ xs.length ∧ k ≤ most + 1 ∧ sumM (xs.take k) ≤ k * most

theorem sumM_take {xs : List (List UInt8)} {k : Nat} {x : List UInt8} (h : xs[k]? = some x) : sumM (xs.take (k + 1)) = sumM (xs.take k) + x.length := by
  rw [List.take_add_one, h]
  simp [sumM]

set_option maxHeartbeats 1600000 in
set_option maxRecDepth 100000 in
theorem shortM_any {a : Option Addr} {cap : Nat} (xs : List (List UInt8)) (w : World) (hS : StrsAtM a xs w) (most : Nat) (hm : most ≤ 1000) (hlen : xs.length ≤ 9223372036854775807) (hb : ∀ x ∈ xs, x.length ≤ 9223372036854775807) :
    Calls Try.prog 9 #[.slice a xs.length cap, .int .i64 (most : Int)] w fun e w' => e = .returned (.bool (shortM xs most)) ∧ w = w' := by
  have HS := Lib.hid hS
  have HBD := Lib.hid hb
  clear hS hb
  go_enter Try.func9, Try.ntmps9
  go_wp2
  go_loop [5, 6] (ShortMRel xs most) (fun _ i => xs.length - (intOf i).toNat)
  case atStart => exact ⟨0, rfl, rfl, Nat.zero_le _, Nat.zero_le _, Nat.zero_le _⟩
  case round =>
    obtain ⟨k, rfl, rfl, hk, hkm, hsum⟩ := hrel
    have hsb : k * most ≤ 1001 * 1000 := Nat.mul_le_mul (by omega) hm
    by_cases hlt : k < xs.length
    · by_cases hle : k ≤ most
      · obtain ⟨x, hx⟩ : ∃ x, xs[k]? = some x := ⟨_, List.getElem?_eq_getElem hlt⟩
        obtain ⟨ad, had, -, hcell⟩ := HS.out k x hx
        subst had
        have hxl := HBD.out x (List.mem_of_getElem? hx)
        have hst := sumM_take hx
        obtain ⟨b, hb⟩ : ∃ b : ByteArray, (⟨x.toArray⟩ : ByteArray) = b := ⟨_, rfl⟩
        rw [hb] at hcell
        have hbx : b.size = x.length := by rw [← hb]; exact List.size_toArray
        generalize hs0 : sumM (xs.take k) = s0 at *
        have hs1 : s0 ≤ 1001000 := by omega
        by_cases hxm : x.length ≤ most
        · have hbm : ¬ ((most : Int) < (b.size : Int)) := by omega
          have HST := Lib.hid hst
          have HSUM := Lib.hid hsum
          have HBX := Lib.hid hbx
          have hb2 : b.size ≤ 1000 := by omega
          clear hst hsum hbx hs0 hsb hb hx
          go_wp2
          go_round
          case rel =>
            refine ⟨k + 1, by go_num, ?_, hlt, by omega, ?_⟩
            · rw [HST.out]
              have := HBX.out
              go_num
            · rw [HST.out, Nat.add_mul, Nat.one_mul]
              have := HSUM.out
              omega
          case measure => simp [intOf]; omega
        · have hbm : (most : Int) < (b.size : Int) := by omega
          have hno : shortM xs most = false := by
            unfold shortM
            rw [Bool.and_eq_false_iff]
            right
            have := sumM_mem (List.mem_of_getElem? hx)
            simp only [decide_eq_false_iff_not]
            omega
          have HN := Lib.hid hno
          clear hno hst hsum hbx hs0 hsb hb hx
          go_wp2
          go_ret
          exact ⟨ret_bool HN.out.symm, rfl⟩
      · have hle2 : ¬ ((k : Int) ≤ (most : Int)) := by omega
        have hno : shortM xs most = false := by
          unfold shortM
          rw [Bool.and_eq_false_iff]
          left
          simp only [decide_eq_false_iff_not]
          omega
        have hno2 : ¬ ((xs.length : Int) ≤ (most : Int)) := by omega
        have HN := Lib.hid hno
        generalize sumM (xs.take k) = s0 at *
        clear hno hsum
        go_wp2
        go_ret
        exact ⟨ret_bool HN.out.symm, rfl⟩
    · obtain rfl : k = xs.length := by omega
      have htk : xs.take xs.length = xs := List.take_length
      rw [htk] at hsum ⊢
      have hge : ¬ ((xs.length : Int) < (xs.length : Int)) := by omega
      by_cases h1 : xs.length ≤ most
      · have h1i : (xs.length : Int) ≤ (most : Int) := by omega
        have hno : shortM xs most = decide (sumM xs ≤ most) := by
          unfold shortM
          rw [decide_eq_true h1, Bool.true_and]
        have HN := Lib.hid hno
        generalize hs0 : sumM xs = s0 at *
        have HN2 : Hid (shortM xs most = decide ((s0 : Int) ≤ (most : Int))) := Lib.hid (by rw [HN.out]; exact decide_eq_decide.2 (by omega))
        clear hno hsum htk hs0 HN
        by_cases h2 : s0 ≤ most
        · have h2i : (s0 : Int) ≤ (most : Int) := by omega
          go_wp2
          go_ret
          exact ⟨ret_bool (HN2.out.trans (decide_eq_true h2i)).symm, rfl⟩
        · have h2i : ¬ ((s0 : Int) ≤ (most : Int)) := by omega
          go_wp2
          go_ret
          exact ⟨ret_bool (HN2.out.trans (decide_eq_false (by omega))).symm, rfl⟩
      · have h1i : ¬ ((xs.length : Int) ≤ (most : Int)) := by omega
        have hno : shortM xs most = false := by
          unfold shortM
          rw [decide_eq_false h1, Bool.false_and]
        have HN := Lib.hid hno
        generalize hs0 : sumM xs = s0 at *
        clear hno hsum htk hs0
        go_wp2
        go_ret
        exact ⟨ret_bool HN.out.symm, rfl⟩


theorem short9_any {S : List ByteArray} {v : Value} {w : World} (h : StrsV S v w) (most : Nat) (hm : most ≤ 1000) (hb : ∀ s ∈ S, s.size ≤ maxLen) :
    Calls Try.prog 9 #[v, .int .i64 (most : Int)] w fun e w' => e = .returned (.bool (shortM (S.map fun s => s.data.toList) most)) ∧ w = w' := by
  obtain ⟨a, n, cap, rfl⟩ := h.form
  obtain ⟨hn, hc1, hc2⟩ := h.len
  have hl : (S.map fun s => s.data.toList).length = n := by rw [List.length_map]; exact hn.symm
  unfold maxLen at hb hc2
  have := shortM_any (a := a) (cap := cap) (S.map fun s => s.data.toList) w (fun i x hx => ?_) most hm (by rw [hl]; omega) (fun x hx => ?_)
  · rw [hl] at this
    exact this
  · rw [List.getElem?_map, Option.map_eq_some_iff] at hx
    obtain ⟨s, hs, rfl⟩ := hx
    obtain ⟨g, o, rfl, hg, hc⟩ := h.get hs
    exact ⟨_, rfl, hg, by rw [addr_off]; exact hc⟩
  · obtain ⟨s, hs, rfl⟩ := List.mem_map.1 hx
    have := hb s hs
    rw [Array.length_toList]
    exact Nat.le_trans this (by omega)

end Go.Proofs.Ytipipookgcdfbaa

/-
  Macros that are looked at: few.
-/
namespace Go.Proofs.Ytipipookgcdfbaa
open Go.RowKit Go.Maps

def fewM (m : Xm) : Bool := fewB m.bd 40 && shortM (m.ps.map fun s => s.data.toList) 200 && decide (m.n.size ≤ 100)

theorem fewM_is {m : Xm} (h : fewM m = true) : m.n.size ≤ 100 ∧ m.ps.length ≤ 500000 ∧ m.bd.length ≤ 500000 ∧ ∀ t ∈ m.bd, t.ss.length ≤ 500000 := by
  unfold fewM at h
  simp only [Bool.and_eq_true, decide_eq_true_eq] at h
  obtain ⟨⟨h1, h2⟩, h3⟩ := h
  obtain ⟨g1, g2⟩ := few_is h1
  unfold shortM at h2
  simp only [Bool.and_eq_true, decide_eq_true_eq, List.length_map] at h2
  exact ⟨h3, by omega, by omega, fun t ht => by have := (g2 t ht).2; omega⟩

end Go.Proofs.Ytipipookgcdfbaa

/-
  From a law's walk to its statement: each argument reads behind the call as it did.
-/
namespace Go.Proofs.Ytipipookgcdfbaa
open Go.ChangeShapes Go.WideShapes Go.ChangeAt Go.RowKit

theorem lift_own : ownKnob Try.prog.godebug = none := by kernel_rfl
theorem lift_laid : laidOutB Try.prog = true := by kernel_rfl

/-- The post of a law that writes nothing that it was given, and says nothing of reading again. -/
theorem post_keep {H : Type} {enc : TypeId × Value → H} {P : Program} {f : Func} {s : ChangeSpec} {apart fresh handsOn : Bool} {W W' : World} {args : Array Value} {v : Value} {ds gs : List (DataW H)} {before pa : List MemPlace}
    (hW : DataW.Whole enc P f.params.toList s.vars apart W args.toList ds gs before)
    (hres : ∀ (b : Nat) (sp : Nat → Bool) (hd : Bool), DataW.TrodAll enc P W' b sp hd f.resultTypes.toList (v.resultList f.resultTypes.size) (s.fn H (ds ++ gs)).results [])
    (hargs : DataW.TrodAll enc P W' 0 (fun b => decide (b < W.heap.size)) true f.params.toList args.toList (s.fn H (ds ++ gs)).args pa)
    (hvars : ∀ sp : Nat → Bool, DataW.TrodVars enc P W' sp s.vars (s.fn H (ds ++ gs)).vars []) (hb : Below W.heap.size W W') :
    s.post enc P f apart fresh handsOn false W args v W' :=
  ⟨ds, gs, before, [], pa, [], hW, hres _ _ _, hargs, hvars _, hb.frame _, fun h => by cases h⟩

end Go.Proofs.Ytipipookgcdfbaa
