/-
  Texts of the proof, put together: LxR, RSpl, Tri, Take, RChars, Chars.
-/
import Derived.Test.YtobplffailbkbaaG02

/-
  Lines of a text, over lists: the run over the characters, item by item.
-/
namespace Go.Proofs.Ytobplffailbkbaa

structure Tk where
  k : Nat
  x : List UInt8
  sp : Bool
  f : Nat
  t : Nat
structure Ln where
  toks : List Tk
  f : Nat
  t : Nat
  o : Bool
structure Dg where
  c : Nat
  f : Nat
  t : Nat
structure Acc where
  fr : Nat
  sp : Bool
  toks : List Tk
  lines : List Ln
  diags : List Dg

def rnF (L : List Rn) (i : Nat) : Nat := match L[i]? with
  | some r => r.f
  | none => 0
def rnT (L : List Rn) (i : Nat) : Nat := match L[i]? with
  | some r => r.t
  | none => 0
def bytesOf (L : List Rn) : List UInt8 := L.map Rn.c

/-- Where a line ends, behind whose byte 10 (or open comment) the place i is. -/
def toA (L : List Rn) (sz i : Nat) : Nat := if i < L.length then rnT L (i - 1) else sz
def endA (a : Acc) (to : Nat) (o : Bool) : Acc := { a with fr := to, sp := false, toks := [], lines := a.lines ++ [⟨a.toks, a.fr, to, o⟩] }
def tellA (L : List Rn) (a : Acc) (c i e : Nat) : Acc := { a with diags := a.diags ++ [⟨c, rnF L i, rnT L (e - 1)⟩] }
def pushA (L : List Rn) (a : Acc) (k i n : Nat) : Acc := { a with sp := false, toks := a.toks ++ [⟨k, ((bytesOf L).drop i).take n, a.sp, rnF L i, rnT L (i + n - 1)⟩] }
def takeA (L : List Rn) (a : Acc) (k i n : Nat) : Acc := pushA L (if badN k ((bytesOf L).getD i 0) then tellA L a 2 i (i + n) else a) k i n

def lenA (L : List Rn) (i : Nat) : It → Nat
  | .nl => 1
  | .gap n => n
  | .opn => L.length - i
  | .tk _ n => n
def stepA (L : List Rn) (sz i : Nat) (a : Acc) : It → Acc
  | .nl => endA a (toA L sz (i + 1)) false
  | .gap _ => { a with sp := true }
  | .opn => endA (tellA L a 1 i (i + 2)) sz true
  | .tk k n => takeA L a k i n
def runA (L : List Rn) (sz : Nat) : Nat → Nat → Acc → Acc
  | 0, _, a => a
  | m + 1, i, a => if i < L.length then runA L sz m (i + lenA L i (item ((bytesOf L).drop i))) (stepA L sz i a (item ((bytesOf L).drop i))) else a

def acc0 : Acc := ⟨0, false, [], [], []⟩
def linesA (L : List Rn) (sz : Nat) : Acc := runA L sz L.length 0 acc0
/-- From i on. -/
def fromA (L : List Rn) (sz i : Nat) (a : Acc) : Acc := runA L sz (L.length - i) i a

theorem bytesOf_len (L : List Rn) : (bytesOf L).length = L.length := by simp [bytesOf]

theorem lenA_in {L : List Rn} {i : Nat} (hi : i < L.length) : 0 < lenA L i (item ((bytesOf L).drop i)) ∧ i + lenA L i (item ((bytesOf L).drop i)) ≤ L.length := by
  have hl : 0 < ((bytesOf L).drop i).length := by rw [List.length_drop, bytesOf_len]; omega
  have h := item_in (l := (bytesOf L).drop i) hl
  rw [List.length_drop, bytesOf_len] at h
  cases he : item ((bytesOf L).drop i) with
  | opn => simp only [lenA]; omega
  | nl => simp only [lenA]; omega
  | gap n =>
    rw [he] at h
    have := h (by simp)
    simp only [lenA, It.len] at *
    omega
  | tk k n =>
    rw [he] at h
    have := h (by simp)
    simp only [lenA, It.len] at *
    omega

theorem runA_fuel (L : List Rn) (sz : Nat) : ∀ (n m i : Nat) (a : Acc), L.length - i ≤ n → L.length - i ≤ m → runA L sz n i a = runA L sz m i a
  | 0, 0, _, _, _, _ => rfl
  | 0, m + 1, i, a, h, _ => by
    unfold runA
    rw [if_neg (by omega)]
  | n + 1, 0, i, a, _, h => by
    unfold runA
    rw [if_neg (by omega)]
  | n + 1, m + 1, i, a, h1, h2 => by
    unfold runA
    split
    · rename_i hi
      have := lenA_in hi
      exact runA_fuel L sz n m _ _ (by omega) (by omega)
    · rfl

theorem fromA_end {L : List Rn} {sz i : Nat} {a : Acc} (h : L.length ≤ i) : fromA L sz i a = a := by
  unfold fromA
  rw [show L.length - i = 0 from by omega]
  rfl
theorem fromA_step {L : List Rn} {sz i : Nat} {a : Acc} (h : i < L.length) : fromA L sz i a = fromA L sz (i + lenA L i (item ((bytesOf L).drop i))) (stepA L sz i a (item ((bytesOf L).drop i))) := by
  have hl := lenA_in h
  unfold fromA
  obtain ⟨n, hn⟩ : ∃ n, L.length - i = n + 1 := ⟨L.length - i - 1, by omega⟩
  rw [hn]
  show (if i < L.length then _ else _) = _
  rw [if_pos h]
  exact runA_fuel L sz n _ _ _ (by omega) (by omega)

end Go.Proofs.Ytobplffailbkbaa

/-
  The document's own spliced, in memory: what is left out.
-/
namespace Go.Proofs.Ytobplffailbkbaa
open Go.RowKit

theorem spL_two {a b : Rn} {r : List Rn} (h1 : a.c = 92) (h2 : b.c = 10) : spL (a :: b :: r) = spL r := by
  rw [spL, if_pos ⟨h1, h2⟩]
theorem spL_byte {a : Rn} {r : List Rn} (h : ¬ a.c = 92) : spL (a :: r) = a :: spL r := by
  cases r with
  | nil => rfl
  | cons b q => rw [spL, if_neg fun h1 => h h1.1]
theorem spL_next {a b : Rn} {r : List Rn} (h : ¬ b.c = 10) : spL (a :: b :: r) = a :: spL (b :: r) := by
  rw [spL, if_neg fun h1 => h h1.2]

theorem drop_get {P : List Rn} {k : Nat} {r : Rn} (h : P[k]? = some r) : P.drop k = r :: P.drop (k + 1) := by
  have hk : k < P.length := by
    rcases Nat.lt_or_ge k P.length with h1 | h1
    · exact h1
    · rw [List.getElem?_eq_none h1] at h; cases h
  rw [List.drop_eq_getElem_cons hk]
  rw [List.getElem?_eq_getElem hk] at h
  cases h
  rfl

def RSplRel (W : World) (P : List Rn) (o i : Value) (w : World) : Prop :=
  ∃ (k : Nat) (L : List Rn) (a : Option Addr) (n cap : Nat), i = .int .i64 (k : Int) ∧ k ≤ P.length ∧ L.length ≤ k ∧ o = .slice a n cap ∧ n = L.length ∧ L ++ spL (P.drop k) = spL P ∧ RRow W o L w

/-- What an argument's cells hold, kept over the call's own steps. -/
theorem rrow_cells {W : World} {v : Value} {L : List Rn} {w : World} (h : RRow W v L w) : ∃ a cap, v = .slice a L.length cap ∧ L.length ≤ cap ∧ cap ≤ maxLen ∧ ∀ i r, L[i]? = some r → ∃ g, a = some ⟨g, 0, none⟩ ∧ g < w.heap.size ∧
    w.cell? ⟨g, i * 3, none⟩ = some (.int .u8 (r.c.toNat : Int)) ∧ w.cell? ⟨g, i * 3 + 1, none⟩ = some (.int .i64 (r.f : Int)) ∧ w.cell? ⟨g, i * 3 + 2, none⟩ = some (.int .i64 (r.t : Int)) := by
  obtain ⟨a, cap, hv, h1, h2, h3⟩ := row_form h.1
  refine ⟨a, cap, hv, h1, h2, fun i r hr => ?_⟩
  obtain ⟨c0, c1, c2⟩ := rcells_get L i r hr
  obtain ⟨g, hg, hl, e0⟩ := h3 _ _ c0
  obtain ⟨g1, hg1, -, e1⟩ := h3 _ _ c1
  obtain ⟨g2, hg2, -, e2⟩ := h3 _ _ c2
  rw [hg] at hg1 hg2
  simp only [Option.some.injEq, Addr.mk.injEq, and_true] at hg1 hg2
  exact ⟨g, hg, hl, e0, by rw [hg1]; exact e1, by rw [hg2]; exact e2⟩

theorem Up.cell {W w : World} {e : TypeId} {size : Nat} {v : Value} {n : Nat} {xs : List Value} (h : Up W e size v n xs w) {g j : Nat} {u : Value} (hg : g < W.heap.size) (hc : W.cell? ⟨g, j, none⟩ = some u) : w.cell? ⟨g, j, none⟩ = some u := (h.2.cell (p := ⟨g, j, none⟩) hg).trans hc

theorem rspl_next {W : World} {P : List Rn} {k : Nat} {L : List Rn} {w : World} {a : Option Addr} {cap : Nat} {r : Rn} {i : Int} (hi : i = ((k + 1 : Nat) : Int)) (_hr : P[k]? = some r) (hk : k < P.length) (hLk : L.length ≤ k) (hs : spL (P.drop k) = r :: spL (P.drop (k + 1))) (hL : L ++ spL (P.drop k) = spL P) (hU : RRow W (.slice a (L.length + 1) cap) (L ++ [r]) w) :
    RSplRel W P (.slice a (L.length + 1) cap) (.int .i64 i) w := by
  refine ⟨k + 1, L ++ [r], a, L.length + 1, cap, by rw [hi], hk, by simp; omega, rfl, by simp, ?_, hU⟩
  rw [← hL, hs, List.append_assoc]
  rfl

theorem rspl_skip {W : World} {P : List Rn} {k : Nat} {L : List Rn} {w : World} {a : Option Addr} {cap : Nat} {i : Int} (hi : i = ((k + 2 : Nat) : Int)) (hk : k + 1 < P.length) (hLk : L.length ≤ k) (hs : spL (P.drop k) = spL (P.drop (k + 2))) (hL : L ++ spL (P.drop k) = spL P) (hU : RRow W (.slice a L.length cap) L w) :
    RSplRel W P (.slice a L.length cap) (.int .i64 i) w :=
  ⟨k + 2, L, a, L.length, cap, by rw [hi], hk, by omega, rfl, rfl, by rw [← hs]; exact hL, hU⟩

theorem c_of {c : UInt8} {x : Nat} (h : ((c.toNat : Nat) : Int) = (x : Int)) (hx : x < 256) : c = UInt8.ofNat x := by
  apply UInt8.toNat_inj.1
  simp
  omega

set_option maxRecDepth 100000 in
set_option maxHeartbeats 1600000 in
theorem rSpl_any {W w : World} {a0 : Option Addr} {cap0 : Nat} {P : List Rn} (h : RRow W (.slice a0 P.length cap0) P w) (hP : P.length ≤ 100000) : Calls Try.prog 67 #[.slice a0 P.length cap0] w (RRowPost w (spL P)) := by
  obtain ⟨i0, hi, hz0, hz1, hz2⟩ := info_parts Try.infoRRune
  obtain ⟨a', c', hv, hc1, hc2, hcell⟩ := rrow_cells h
  simp only [Value.slice.injEq] at hv
  obtain ⟨rfl, -, rfl⟩ := hv
  have HC := Lib.hid hcell
  have R0 : Up w 93 3 (.slice none 0 0) 0 [] w := up_nil w _ 3
  have HR0 := Lib.hid R0
  unfold maxLen at hc2
  clear R0 h hcell
  go_enter Try.func67, Try.ntmps67
  go_wp2
  go_loopw [3, 4] (fun o i w' => RSplRel w P o i w') (fun _ i _ => P.length - (intOf i).toNat)
  case atStart => exact ⟨0, [], none, 0, 0, rfl, Nat.zero_le _, Nat.le_refl _, rfl, rfl, by simp, HR0.out⟩
  case round =>
    obtain ⟨k, L, a, n, cap, rfl, hk, hLk, rfl, rfl, hL, hU⟩ := hrel
    have HU := Lib.hid hU
    have HLL := Lib.hid hL
    clear hU hL
    by_cases hlt : k < P.length
    · obtain ⟨r, hr⟩ : ∃ r, P[k]? = some r := ⟨_, List.getElem?_eq_getElem hlt⟩
      obtain ⟨g, rfl, hg, d0, d1, d2⟩ := HC.out k r hr
      have e0 := Up.cell HU.out hg d0
      have e1 := Up.cell HU.out hg d1
      have e2 := Up.cell HU.out hg d2
      have HR := Lib.hid hr
      obtain ⟨x, hx⟩ : ∃ x : Int, ((r.c.toNat : Nat) : Int) = x := ⟨_, rfl⟩
      rw [hx] at e0
      have HX := Lib.hid hx
      have hki : (k : Int) < (P.length : Int) := by omega
      clear d0 d1 d2 hr hx
      by_cases hq : x = 92
      · subst hq
        have hc : r.c = 92 := c_of (x := 92) HX.out (by omega)
        have HCC := Lib.hid hc
        clear hc
        by_cases hn : k + 1 < P.length
        · obtain ⟨r2, hr2⟩ : ∃ r, P[k + 1]? = some r := ⟨_, List.getElem?_eq_getElem hn⟩
          obtain ⟨g2, hg2, -, d0, -, -⟩ := HC.out (k + 1) r2 hr2
          simp only [Option.some.injEq, Addr.mk.injEq, and_true] at hg2
          subst hg2
          have f0 := Up.cell HU.out hg d0
          have HR2 := Lib.hid hr2
          obtain ⟨y, hy⟩ : ∃ y : Int, ((r2.c.toNat : Nat) : Int) = y := ⟨_, rfl⟩
          rw [hy] at f0
          have HY := Lib.hid hy
          have hni : (k : Int) + 1 < (P.length : Int) := by omega
          clear d0 hr2 hy
          by_cases hq2 : y = 10
          · subst hq2
            go_wp2
            go_roundw
            case rel => exact rspl_skip (by simp; omega) hn hLk (by rw [drop_get HR.out, drop_get HR2.out]; exact spL_two HCC.out (c_of (x := 10) HY.out (by omega))) HLL.out HU.out
            case measure => simp [intOf]; omega
          · have hb : (y == 10) = false := by simpa using hq2
            go_wp2_with (at_builtin; refine wpList_append_ex rfl (.tmp 35) (.tmp 40) 90 rfl _ (app_up Try.underlying90 hi hz0 hz1 hz2 rfl (by decide) (by decide) (HU.out.alloc _) (src_three _ _ _ _ _) three_one (by omega)) ?_; intro v2 w2 hu2; obtain ⟨a2, cap2, rfl, -, -, -⟩ := row_form hu2.1; have U2 := Lib.hid (RRow.push r hu2 HX.out.symm rfl rfl); clear hu2)
            go_roundw
            case rel => exact rspl_next (by simp) HR.out hlt hLk (by rw [drop_get HR.out, drop_get HR2.out]; exact spL_next fun e => hq2 (by rw [← HY.out, e]; rfl)) HLL.out U2.out
            case measure => simp [intOf]; omega
        · have hni : ¬ (k : Int) + 1 < (P.length : Int) := by omega
          go_wp2_with (at_builtin; refine wpList_append_ex rfl (.tmp 35) (.tmp 40) 90 rfl _ (app_up Try.underlying90 hi hz0 hz1 hz2 rfl (by decide) (by decide) (HU.out.alloc _) (src_three _ _ _ _ _) three_one (by omega)) ?_; intro v2 w2 hu2; obtain ⟨a2, cap2, rfl, -, -, -⟩ := row_form hu2.1; have U2 := Lib.hid (RRow.push r hu2 HX.out.symm rfl rfl); clear hu2)
          go_roundw
          case rel => exact rspl_next (by simp) HR.out hlt hLk (by rw [drop_get HR.out, List.drop_eq_nil_of_le (by omega : P.length ≤ k + 1)]; rfl) HLL.out U2.out
          case measure => simp [intOf]; omega
      · have hb : (x == 92) = false := by simpa using hq
        have hc : ¬ r.c = 92 := fun e => hq (by rw [← HX.out, e]; rfl)
        have HCC := Lib.hid hc
        clear hc
        go_wp2_with (at_builtin; refine wpList_append_ex rfl (.tmp 35) (.tmp 40) 90 rfl _ (app_up Try.underlying90 hi hz0 hz1 hz2 rfl (by decide) (by decide) (HU.out.alloc _) (src_three _ _ _ _ _) three_one (by omega)) ?_; intro v2 w2 hu2; obtain ⟨a2, cap2, rfl, -, -, -⟩ := row_form hu2.1; have U2 := Lib.hid (RRow.push r hu2 HX.out.symm rfl rfl); clear hu2)
        go_roundw
        case rel => exact rspl_next (by simp) HR.out hlt hLk (by rw [drop_get HR.out]; exact spL_byte HCC.out) HLL.out U2.out
        case measure => simp [intOf]; omega
    · have hni : ¬ (k : Int) < (P.length : Int) := by omega
      go_wp2
      go_ret
      have h3 := HLL.out
      rw [List.drop_eq_nil_of_le (by omega : P.length ≤ k)] at h3
      rw [show L ++ spL [] = L from List.append_nil L] at h3
      rw [← h3]
      exact ⟨a, _, cap, rfl, rfl, HU.out⟩

end Go.Proofs.Ytobplffailbkbaa

/-
  Trigraph of the project, walked.
-/
namespace Go.Proofs.Ytobplffailbkbaa
open Go.RowKit

theorem sign_cases (c : UInt8) : (∃ k, k < 9 ∧ signL.getD k 0 = c) ∨ ∀ j < 9, signL.getD j 0 ≠ c := by
  by_cases h : ∃ k, k < 9 ∧ signL.getD k 0 = c
  · exact .inl h
  · exact .inr fun j hj e => h ⟨j, hj, e⟩

theorem index_at (k : Nat) (hk : k < 9) : Lib.indexByte signL (signL.getD k 0) = (k : Int) := by
  match k, hk with
  | 0, _ | 1, _ | 2, _ | 3, _ | 4, _ | 5, _ | 6, _ | 7, _ | 8, _ => decide
  | n + 9, h => omega

theorem index_out {c : UInt8} : ∀ l : List UInt8, (∀ b ∈ l, b ≠ c) → Lib.indexByte l c = -1
  | [], _ => rfl
  | b :: l, h => by
    have h1 := index_out l fun x hx => h x (List.mem_cons_of_mem _ hx)
    have h2 : (b == c) = false := by simpa using h b (List.mem_cons_self ..)
    rw [Lib.indexByte, h2, h1]
    rfl

theorem index_none {c : UInt8} (h : ∀ j < 9, signL.getD j 0 ≠ c) : Lib.indexByte signL c = -1 := by
  apply index_out
  intro b hb
  obtain ⟨j, hj, rfl⟩ := List.getElem_of_mem hb
  have := h j (by simpa [signL] using hj)
  simpa [List.getD, hj] using this

def IdxPost (w : World) (i : Int) (e : Ending) (w' : World) : Prop := e = .returned (.int .i64 i) ∧ w = w'

theorem idx_any (c : UInt8) (i : Int) (h : Lib.indexByte signL c = i) (w : World) : Calls Try.prog 98 #[.string ⟨#[61, 47, 39, 40, 41, 33, 60, 62, 45]⟩, .int .u8 (c.toNat : Int)] w (IdxPost w i) := by
  refine (Try.strings_IndexByte _ _ w).mono ?_
  rintro e w' ⟨rfl, rfl⟩
  refine ⟨?_, rfl⟩
  rw [← h]
  congr 2
  simp [signL]

def AtPost (l : List UInt8) (k : Nat) (w : World) (e : Ending) (w' : World) : Prop :=
  e = .returned (.tuple #[.int .u8 (((triAt l k).getD 0).toNat : Int), .bool (triAt l k).isSome]) ∧ w = w'

theorem at_none {l : List UInt8} {k : Nat} {w : World} (h : triAt l k = none) : AtPost l k w (.returned (.tuple #[.int .u8 0, .bool false])) w := by
  refine ⟨?_, rfl⟩
  rw [h]
  rfl
theorem at_is {l : List UInt8} {k : Nat} {w : World} {c : UInt8} (h : triAt l k = tri c) : AtPost l k w (.returned (.tuple #[.int .u8 ((triB c).toNat : Int), .bool (isTri c)])) w := by
  refine ⟨?_, rfl⟩
  rw [h]
  rfl

theorem triAt_short {s : ByteArray} {k : Nat} (h : ¬ k + 2 < s.size) : triAt s.data.toList k = none := by
  unfold triAt
  rw [if_neg]
  rw [len_byte]
  exact fun h1 => h h1.1
theorem triAt_a {s : ByteArray} {k : Nat} (hk : k < s.size) (h : ¬ s[k] = 63) : triAt s.data.toList k = none := by
  apply triAt_not
  rw [get_byte s k hk]
  exact h
theorem triAt_b {s : ByteArray} {k : Nat} (hk : k + 1 < s.size) (h : ¬ s[k + 1] = 63) : triAt s.data.toList k = none := by
  apply triAt_not2
  rw [get_byte s (k + 1) hk]
  exact h
theorem triAt_c {s : ByteArray} {k : Nat} (hk : k + 2 < s.size) (ha : s[k] = 63) (hb : s[k + 1] = 63) : triAt s.data.toList k = tri s[k + 2] := by
  unfold triAt
  rw [if_pos ⟨by rw [len_byte]; exact hk, by rw [get_byte s k (by omega)]; exact ha, by rw [get_byte s (k + 1) (by omega)]; exact hb⟩, get_byte s (k + 2) hk]

theorem byte_is {c : UInt8} {x : Nat} (hx : x < 256) (h : ¬ c = UInt8.ofNat x) : ¬ ((c.toNat : Nat) : Int) = (x : Int) := fun e => h (by
  apply UInt8.toNat_inj.1
  simp
  omega)

end Go.Proofs.Ytobplffailbkbaa

/-
  take of the project, walked: the character at a place, and whether it stands.
-/
namespace Go.Proofs.Ytobplffailbkbaa
open Go.RowKit

def TakeIs (r : Rn) (st : Bool) (W : World) (e : Ending) (w' : World) : Prop :=
  e = .returned (.tuple #[.agg #[.int .u8 (r.c.toNat : Int), .int .i64 (r.f : Int), .int .i64 (r.t : Int)], .bool st]) ∧ Below W.heap.size W w'

theorem tk_out {l : List UInt8} {k : Nat} {r : Rn} (h : one l k = r) (h1 : r.c = 92) (h2 : r.t < l.length) (h3 : l.getD r.t 0 = 10) : tk l k = (⟨r.c, r.f, r.t + 1⟩, false) := by
  have hf := one_f l k
  unfold tk
  rw [if_pos]
  · rw [h] at hf ⊢
    rw [hf]
  · unfold spl
    rw [h, decide_eq_true h1, decide_eq_true h2, decide_eq_true h3]
    rfl
theorem tk_in {l : List UInt8} {k : Nat} {r : Rn} (h : one l k = r) (h1 : ¬ (r.c = 92 ∧ r.t < l.length ∧ l.getD r.t 0 = 10)) : tk l k = (r, true) := by
  unfold tk
  rw [if_neg, h]
  rw [h]
  intro hs
  exact h1 (spl_true hs)

theorem take_done {l : List UInt8} {k : Nat} {r : Rn} {st : Bool} {W w' : World} {x y z : Int} (h : tk l k = (r, st)) (hx : x = (r.c.toNat : Int)) (hy : y = (r.f : Int)) (hz : z = (r.t : Int)) (hb : Below W.heap.size W w') :
    TakeIs (tk l k).1 (tk l k).2 W (.returned (.tuple #[.agg #[.int .u8 x, .int .i64 y, .int .i64 z], .bool st])) w' := by
  rw [h, hx, hy, hz]
  exact ⟨rfl, hb⟩

theorem below_two (w : World) (o p : Obj) : Below w.heap.size w ((w.alloc o).alloc p) := ((Below.refl _ _).alloc (Nat.le_refl _) _).alloc (by simp) _

theorem byte_eq {c : UInt8} {x : Nat} (h : c = UInt8.ofNat x) (hx : x < 256) : ((c.toNat : Nat) : Int) = (x : Int) := by
  rw [h]
  simp
  omega

/-- take, where the character is known: behind the call of trigraphAt. -/
theorem one_of_some {l : List UInt8} {k : Nat} {d : UInt8} (h : triAt l k = some d) : one l k = ⟨d, k, k + 3⟩ := by unfold one; rw [h]
theorem one_of_none {l : List UInt8} {k : Nat} (h : triAt l k = none) : one l k = ⟨l.getD k 0, k, k + 1⟩ := by unfold one; rw [h]

end Go.Proofs.Ytobplffailbkbaa

/-
  The document's own Chars, in memory.
-/
namespace Go.Proofs.Ytobplffailbkbaa
open Go.RowKit

theorem Up.lower {W W1 w : World} {e : TypeId} {size : Nat} {v : Value} {n : Nat} {xs : List Value} (h : Up W1 e size v n xs w) (b : Below W.heap.size W W1) : Up W e size v n xs w :=
  ⟨row_low h.1 b.size, b.trans (h.2.mono b.size)⟩

theorem endsNl_last {L : List Rn} {m : Nat} {r : Rn} (hm : L.length = m + 1) (hr : L[m]? = some r) : endsNl L = decide (r.c = 10) := by
  unfold endsNl
  rw [List.getLast?_eq_getElem?, hm, Nat.add_sub_cancel, hr]
theorem endsNl_nil : endsNl [] = false := rfl

theorem charsL_ends {l : List UInt8} (hl : l ≠ []) (h : endsNl (chs l 0) = true) : charsL l = chs l 0 := by
  unfold charsL withNl
  rw [if_neg hl, if_pos h]
theorem charsL_not {l : List UInt8} (hl : l ≠ []) (h : endsNl (chs l 0) = false) : charsL l = chs l 0 ++ [⟨10, l.length, l.length⟩] := by
  unfold charsL withNl
  rw [if_neg hl, if_neg (by rw [h]; simp)]

theorem list_ne {s : ByteArray} (h : 0 < s.size) : s.data.toList ≠ [] := by
  intro e
  have := len_byte s
  rw [e] at this
  simp at this
  omega

theorem list_nil {s : ByteArray} (h : ¬ 0 < s.size) : s.data.toList = [] := List.eq_nil_of_length_eq_zero (by rw [len_byte]; omega)

set_option maxRecDepth 100000 in
set_option maxHeartbeats 1600000 in
theorem rChars_any (s : ByteArray) (w : World) (hs : s.size ≤ 100000) : Calls Try.prog 43 #[.string s] w (RRowPost w (charsL s.data.toList)) := by
  obtain ⟨i0, hi, hz0, hz1, hz2⟩ := info_parts Try.infoRRune
  have hlen := len_byte s
  have hpl := pls_len s.data.toList _ 0 (Nat.le_refl _)
  have hcl := chs_len s.data.toList _ 0 (Nat.le_refl _)
  have hsp := spL_all s.data.toList
  obtain ⟨P, hP⟩ : ∃ P, pls s.data.toList 0 = P := ⟨_, rfl⟩
  obtain ⟨C, hC⟩ : ∃ C, chs s.data.toList 0 = C := ⟨_, rfl⟩
  rw [hP] at hpl hsp
  rw [hC] at hcl hsp
  rw [hlen] at hpl hcl
  have HP := Lib.hid hP
  have HCC := Lib.hid hC
  have HSP := Lib.hid hsp
  have HL := Lib.hid hlen
  clear hlen hP hC hsp
  go_enter Try.func43, Try.ntmps43
  go_wp2_with (go_at_call 68; (with_reducible refine (rPlain_any s _ hs).mono ?_); rw [HP.out]; rintro e w1 ⟨a1, n1, cap1, rfl, rfl, u1⟩; have U1 := Lib.hid u1; clear u1)
  go_at_call 67
  (with_reducible refine (rSpl_any U1.out (by omega)).mono ?_)
  rw [HSP.out]
  rintro e w2 ⟨a2, n, cap2, hn, rfl, u2⟩
  have hu := Up.lower u2 U1.out.2
  obtain ⟨a', c', hv, hc1, hc2, hcell⟩ := rrow_cells (W := w) (L := C) hu
  simp only [Value.slice.injEq] at hv
  obtain ⟨rfl, -, rfl⟩ := hv
  have HC := Lib.hid hcell
  have hu' : Up w 93 3 (.slice a2 n cap2) n (rcells C) w2 := by
    unfold RRow at hu
    rw [← hn] at hu
    exact hu
  have U2 := Lib.hid hu'
  have HN := Lib.hid hn
  unfold maxLen at hc2
  rw [← hn] at hc1 hcl
  clear u2 hn hu hu' hcell
  by_cases hz : 0 < s.size
  · have hzi : (0 : Int) < (s.size : Int) := by omega
    cases n with
    | zero =>
      obtain rfl : C = [] := List.eq_nil_of_length_eq_zero HN.out.symm
      go_wp2_with (at_builtin; refine wpList_append_ex rfl (.tmp 25) (.tmp 31) 90 rfl _ (app_up Try.underlying90 hi hz0 hz1 hz2 rfl (by decide) (by decide) (U2.out.alloc _) (src_three _ _ _ _ _) three_one (by omega)) ?_; intro v3 w3 hu3; simp only [Nat.zero_add] at hu3; obtain ⟨a3, cap3, rfl, -, -, -⟩ := row_form hu3.1; have U3 := Lib.hid hu3; clear hu3)
      go_ret
      refine ⟨a3, 1, cap3, ?_, rfl, ?_⟩ <;> rw [charsL_not (list_ne hz) (by rw [HCC.out]; rfl), HCC.out, HL.out]
      · rfl
      · exact U3.out
    | succ m =>
      have hm : m < C.length := by have := HN.out; omega
      obtain ⟨r, hr⟩ : ∃ r, C[m]? = some r := ⟨_, List.getElem?_eq_getElem hm⟩
      obtain ⟨g, rfl, hg, e0, -, -⟩ := HC.out m r hr
      have HE := Lib.hid (endsNl_last HN.out.symm hr)
      obtain ⟨x, hx⟩ : ∃ x : Int, ((r.c.toNat : Nat) : Int) = x := ⟨_, rfl⟩
      rw [hx] at e0
      have HX := Lib.hid hx
      clear hr hx hm
      by_cases hq : x = 10
      · subst hq
        have hc : r.c = 10 := c_of (x := 10) HX.out (by omega)
        have HR := Lib.hid hc
        clear hc
        go_wp2
        go_ret
        refine ⟨some ⟨g, 0, none⟩, m + 1, cap2, ?_, rfl, ?_⟩ <;> rw [charsL_ends (list_ne hz) (by rw [HCC.out, HE.out, HR.out]; rfl), HCC.out]
        · exact HN.out
        · have h := U2.out
          unfold RRow
          rw [← HN.out]
          exact h
      · have hb : (x == 10) = false := by simpa using hq
        have hb2 : (x != 10) = true := by simpa using hq
        have hm0 : ((m : Int) + 1 == 0) = false := by simp; omega
        have hc : decide (r.c = 10) = false := by
          rw [decide_eq_false_iff_not]
          intro e
          apply hq
          rw [← HX.out, e]
          rfl
        have HR := Lib.hid hc
        clear hc
        go_wp2_with (at_builtin; refine wpList_append_ex rfl (.tmp 25) (.tmp 31) 90 rfl _ (app_up Try.underlying90 hi hz0 hz1 hz2 rfl (by decide) (by decide) (U2.out.alloc _) (src_three _ _ _ _ _) three_one (by omega)) ?_; intro v3 w3 hu3; obtain ⟨a3, cap3, rfl, -, -, -⟩ := row_form hu3.1; have U3 := Lib.hid hu3; clear hu3)
        go_ret
        refine ⟨a3, m + 1 + 1, cap3, ?_, rfl, ?_⟩ <;> rw [charsL_not (list_ne hz) (by rw [HCC.out, HE.out, HR.out]), HCC.out, HL.out]
        · rw [List.length_append, ← HN.out]
          rfl
        · have h := U3.out
          rw [rcells_push (x := 10) (y := (s.size : Int)) (z := (s.size : Int)) (r := ⟨10, s.size, s.size⟩) rfl rfl rfl] at h
          unfold RRow
          rw [List.length_append, ← HN.out]
          exact h
  · have hzi : ¬ (0 : Int) < (s.size : Int) := by omega
    go_wp2
    go_ret
    have e1 := list_nil hz
    have e2 : C = [] := List.eq_nil_of_length_eq_zero (by have := HN.out; omega)
    subst e2
    have e3 : charsL s.data.toList = [] := by unfold charsL; rw [if_pos e1]
    rw [e3]
    refine ⟨a2, n, cap2, HN.out, rfl, ?_⟩
    have h := U2.out
    have e4 : n = 0 := HN.out
    subst e4
    exact h

end Go.Proofs.Ytobplffailbkbaa

/-
  Chars of the project, in memory.
-/
namespace Go.Proofs.Ytobplffailbkbaa
open Go.RowKit

theorem Try.infoPRune : (Try.prog.info? 156).map (fun i => (i.zero, i.size, i.bytes)) = some (some (.agg #[.int .u8 0, .int .i64 0, .int .i64 0]), 3, 24) := by kernel_rfl

/-- A row of the project's characters. -/
def CRow (W : World) (v : Value) (L : List Rn) (w : World) : Prop := Up W 156 3 v L.length (rcells L) w
def CRowPost (W : World) (L : List Rn) (e : Ending) (w' : World) : Prop :=
  ∃ (a : Option Addr) (n cap : Nat), n = L.length ∧ e = .returned (.slice a n cap) ∧ CRow W (.slice a n cap) L w'

theorem CRow.push {W : World} {v : Value} {L : List Rn} {w : World} {x y z : Int} (r : Rn) (h : Up W 156 3 v (L.length + 1) (rcells L ++ [.int .u8 x, .int .i64 y, .int .i64 z]) w) (hx : x = (r.c.toNat : Int)) (hy : y = (r.f : Int)) (hz : z = (r.t : Int)) : CRow W v (L ++ [r]) w := by
  rw [rcells_push hx hy hz] at h
  unfold CRow
  rw [List.length_append]
  exact h

theorem crow_cells {W : World} {v : Value} {L : List Rn} {w : World} (h : CRow W v L w) : ∃ a cap, v = .slice a L.length cap ∧ L.length ≤ cap ∧ cap ≤ maxLen ∧ ∀ i r, L[i]? = some r → ∃ g, a = some ⟨g, 0, none⟩ ∧ g < w.heap.size ∧
    w.cell? ⟨g, i * 3, none⟩ = some (.int .u8 (r.c.toNat : Int)) ∧ w.cell? ⟨g, i * 3 + 1, none⟩ = some (.int .i64 (r.f : Int)) ∧ w.cell? ⟨g, i * 3 + 2, none⟩ = some (.int .i64 (r.t : Int)) := by
  obtain ⟨a, cap, hv, h1, h2, h3⟩ := row_form h.1
  refine ⟨a, cap, hv, h1, h2, fun i r hr => ?_⟩
  obtain ⟨c0, c1, c2⟩ := rcells_get L i r hr
  obtain ⟨g, hg, hl, e0⟩ := h3 _ _ c0
  obtain ⟨g1, hg1, -, e1⟩ := h3 _ _ c1
  obtain ⟨g2, hg2, -, e2⟩ := h3 _ _ c2
  rw [hg] at hg1 hg2
  simp only [Option.some.injEq, Addr.mk.injEq, and_true] at hg1 hg2
  exact ⟨g, hg, hl, e0, by rw [hg1]; exact e1, by rw [hg2]; exact e2⟩

theorem own_ne {B : Nat} {w : World} {e : TypeId} {size : Nat} {v : Value} {n : Nat} {xs : List Value} (h : w.ownsRow B e size v n xs) : v.ownBlock ≠ some w.heap.size := by
  intro hk
  exact absurd (World.ownsRow.lt h _ hk).2 (Nat.lt_irrefl _)

/-- An append behind two fresh blocks: the first of them stays. -/
theorem app_keep {t ty e : TypeId} {i0 : TypeInfo} {z : Value} {size bytes : Nat} {n m : Nat} {v sv : Value} {xs news : List Value} {W w : World} {o1 o2 : Obj}
    (ht : Try.prog.underlying t = some (.slice e)) (hi : Try.prog.info? e = some i0) (hz : i0.zero = some z) (hsz : i0.size = size) (hby : i0.bytes = bytes) (hzs : z.cells.size = size) (hpos : 0 < size) (hbb : bytes ≤ 100)
    (hd : Up W e size v n xs w) (hs : Src ((w.alloc o1).alloc o2) sv m size news) (h1 : ∀ u ∈ news, u.oneCell' = true) (hn : n + m ≤ 1000000) :
    ∃ v' w', (Builtin.append_ #[t, t] ty #[v, sv]).run Try.prog ((w.alloc o1).alloc o2) = .ok v' w' ∧ (Up W e size v' (n + m) (xs ++ news) w' ∧ w'.heap[w.heap.size]? = some o1) := by
  have hd2 := (hd.alloc o1).alloc o2
  obtain ⟨v', w', hr, h2, h3⟩ := run_app (ty := ty) ht hi hz hsz hby hzs hpos hbb hd2.1 hs h1 hn hd2.2.size
  refine ⟨v', w', hr, ⟨h2, hd2.2.grown h3 hd2.2.size fun k hk => (World.ownsRow.lt hd2.1 k hk).1⟩, ?_⟩
  rw [h3.block w.heap.size (by simp; omega) (own_ne hd.1).symm, Below.heap_alloc _ _ _ (by simp)]
  exact heap_alloc_new _ _

theorem src_three2 (w : World) (o : Obj) (x y z : Int) (e : TypeId) : Src ((w.alloc o).alloc (.cells #[.int .u8 x, .int .i64 y, .int .i64 z] e)) (.slice (some ⟨w.heap.size + 1, 0, none⟩) 1 1) 1 3 [.int .u8 x, .int .i64 y, .int .i64 z] := by
  have h := src_three (w.alloc o) x y z e
  rw [show (w.alloc o).heap.size = w.heap.size + 1 from by simp] at h
  exact h

def CRel (W : World) (l : List UInt8) (o i : Value) (w : World) : Prop :=
  ∃ (k : Nat) (L : List Rn) (a : Option Addr) (n cap : Nat), i = .int .i64 (k : Int) ∧ k ≤ l.length ∧ L.length ≤ k ∧ o = .slice a n cap ∧ n = L.length ∧ L ++ chs l k = chs l 0 ∧ CRow W o L w

theorem chs_in {l : List UInt8} {k : Nat} {r : Rn} (hk : k < l.length) (h : tk l k = (r, true)) : chs l k = r :: chs l r.t := by
  rw [chs_step hk, h]
  rfl
theorem chs_out {l : List UInt8} {k : Nat} {r : Rn} (hk : k < l.length) (h : tk l k = (r, false)) : chs l k = chs l r.t := by
  rw [chs_step hk, h]
  rfl

theorem crel_in {W : World} {l : List UInt8} {k : Nat} {L : List Rn} {w : World} {a : Option Addr} {cap : Nat} {r : Rn} (hk : k < l.length) (hLk : L.length ≤ k) (ho : tk l k = (r, true)) (hL : L ++ chs l k = chs l 0) (hU : CRow W (.slice a (L.length + 1) cap) (L ++ [r]) w) :
    CRel W l (.slice a (L.length + 1) cap) (.int .i64 (r.t : Int)) w := by
  have h1 : k < r.t ∧ r.t ≤ k + 4 ∧ (k < l.length → r.t ≤ l.length) := by
    have := tk_t l k
    rw [ho] at this
    exact this
  refine ⟨r.t, L ++ [r], a, L.length + 1, cap, rfl, h1.2.2 hk, by simp; omega, rfl, by simp, ?_, hU⟩
  rw [← hL, chs_in hk ho, List.append_assoc]
  rfl
theorem crel_out {W : World} {l : List UInt8} {k : Nat} {L : List Rn} {w : World} {a : Option Addr} {cap : Nat} {r : Rn} (hk : k < l.length) (hLk : L.length ≤ k) (ho : tk l k = (r, false)) (hL : L ++ chs l k = chs l 0) (hU : CRow W (.slice a L.length cap) L w) :
    CRel W l (.slice a L.length cap) (.int .i64 (r.t : Int)) w := by
  have h1 : k < r.t ∧ r.t ≤ k + 4 ∧ (k < l.length → r.t ≤ l.length) := by
    have := tk_t l k
    rw [ho] at this
    exact this
  exact ⟨r.t, L, a, L.length, cap, rfl, h1.2.2 hk, by omega, rfl, rfl, by rw [← hL, chs_out hk ho], hU⟩

theorem Up.over {W w w' : World} {e : TypeId} {size : Nat} {v : Value} {n : Nat} {xs : List Value} (h : Up W e size v n xs w) (b : Below w.heap.size w w') : Up W e size v n xs w' := by
  have hg : w.grownBy w' none := ⟨b.os, b.tape, b.output, b.size, fun k hk _ => b.block k hk⟩
  exact ⟨World.ownsRow.kept h.1 hg (by cases v.ownBlock <;> simp), h.2.trans (b.mono h.2.size)⟩

theorem empty_no {s : ByteArray} (h : 0 < s.size) : s.toList.isEmpty = false := by
  rw [ByteArray.toList_eq]
  have := list_ne h
  cases hq : s.data.toList with
  | nil => exact absurd hq this
  | cons a r => rfl
theorem empty_yes {s : ByteArray} (h : ¬ 0 < s.size) : s.toList.isEmpty = true := by
  rw [ByteArray.toList_eq, list_nil h]
  rfl

theorem heap_cells {w : World} {b : Nat} {x y z : Value} {T : TypeId} (h : w.heap[b]? = some (.cells #[x, y, z] T (0, 0))) : w.cell? ⟨b, 2, none⟩ = some z := by
  rw [Lib.cell_of_heap h]
  rfl

end Go.Proofs.Ytobplffailbkbaa
