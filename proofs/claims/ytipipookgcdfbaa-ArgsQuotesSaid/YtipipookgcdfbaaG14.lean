/-
  Texts of the proof, put together: LxAt, LxAwake, PartsL, OrderL.
-/
import Derived.Test.YtipipookgcdfbaaG13
import Derived.Test.YtipipookgcdfbaaG01

/-
  Reading lines that were answered.
-/
namespace Go.Proofs.Ytipipookgcdfbaa
open Go.RowKit

/-- A token lies there. -/
def TokAt (F : ByteArray) (t : Tk) (g j : Nat) (w : World) : Prop :=
  w.cell? ⟨g, j, none⟩ = some (.int .i64 (t.k : Int)) ∧ w.cell? ⟨g, j + 1, none⟩ = some (.string ⟨t.x.toArray⟩) ∧ w.cell? ⟨g, j + 2, none⟩ = some (.bool t.sp) ∧ w.cell? ⟨g, j + 3, none⟩ = some (.string F) ∧
  w.cell? ⟨g, j + 4, none⟩ = some (.int .i64 (t.f : Int)) ∧ w.cell? ⟨g, j + 5, none⟩ = some (.int .i64 (t.t : Int)) ∧ w.cell? ⟨g, j + 6, none⟩ = some (.bool false) ∧ w.cell? ⟨g, j + 7, none⟩ = some (.slice none 0 0)

/-- A row of tokens, as it is read. -/
def ToksAt (F : ByteArray) (T : List Tk) (v : Value) (w : World) : Prop :=
  ∃ a cap, v = .slice a T.length cap ∧ T.length ≤ cap ∧ cap ≤ maxLen ∧ ∀ k t, T[k]? = some t → ∃ g, a = some ⟨g, 0, none⟩ ∧ g < w.heap.size ∧ TokAt F t g (k * 8) w

theorem toks_at {B : Nat} {F : ByteArray} {T : List Tk} {v : Value} {w : World} (h : w.ownsRow B 50 8 v T.length (tcells F T)) : ToksAt F T v w := by
  obtain ⟨a, cap, hv, h1, h2, h3⟩ := row_form h
  refine ⟨a, cap, hv, h1, h2, fun k t ht => ?_⟩
  have hg := fun j (hj : j < 8) => flat_get (f := tcell F) (n := 8) (fun _ => rfl) T k t ht j hj
  obtain ⟨g, hga, hlt, -⟩ := h3 (k * 8 + 0) _ ((hg 0 (by omega)).trans rfl)
  have hc : ∀ j u, j < 8 → (tcell F t)[j]? = some u → w.cell? ⟨g, k * 8 + j, none⟩ = some u := by
    intro j u hj hu
    obtain ⟨g', hga', -, e⟩ := h3 (k * 8 + j) u ((hg j hj).trans hu)
    rw [hga] at hga'
    simp only [Option.some.injEq, Addr.mk.injEq, and_true] at hga'
    rw [hga']
    exact e
  exact ⟨g, hga, hlt, hc 0 _ (by omega) rfl, hc 1 _ (by omega) rfl, hc 2 _ (by omega) rfl, hc 3 _ (by omega) rfl, hc 4 _ (by omega) rfl, hc 5 _ (by omega) rfl, hc 6 _ (by omega) rfl, hc 7 _ (by omega) rfl⟩

/-- Lines, as they are read. -/
def LinesAt (F : ByteArray) (lines : List Ln) (v : Value) (w : World) : Prop :=
  ∃ a cap, v = .slice a lines.length cap ∧ lines.length ≤ cap ∧ cap ≤ maxLen ∧ ∀ i ln, lines[i]? = some ln → ∃ g tv, a = some ⟨g, 0, none⟩ ∧ g < w.heap.size ∧
    w.cell? ⟨g, i * 4, none⟩ = some tv ∧ w.cell? ⟨g, i * 4 + 1, none⟩ = some (.int .i64 (ln.f : Int)) ∧ w.cell? ⟨g, i * 4 + 2, none⟩ = some (.int .i64 (ln.t : Int)) ∧ w.cell? ⟨g, i * 4 + 3, none⟩ = some (.bool ln.o) ∧ ToksAt F ln.toks tv w

theorem LRow.at {W : World} {F : ByteArray} {T : TypeId} {v : Value} {lines : List Ln} {w : World} (h : LRow W F T v lines w) : LinesAt F lines v w := by
  obtain ⟨P, hP, h1, h2⟩ := h
  obtain ⟨a, cap, hv, c1, c2, h3⟩ := row_form h1.1
  have hl : P.length = lines.length := by rw [← hP, List.length_map]
  refine ⟨a, cap, by rw [← hl]; exact hv, by omega, c2, fun i ln hi => ?_⟩
  rw [← hP, List.getElem?_map, Option.map_eq_some_iff] at hi
  obtain ⟨p, hp, rfl⟩ := hi
  have hg := fun j (hj : j < 4) => flat_get (f := lcell) (n := 4) (fun _ => rfl) P i p hp j hj
  obtain ⟨g, hga, hlt, e0⟩ := h3 (i * 4 + 0) _ ((hg 0 (by omega)).trans rfl)
  have hc : ∀ j u, j < 4 → (lcell p)[j]? = some u → w.cell? ⟨g, i * 4 + j, none⟩ = some u := by
    intro j u hj hu
    obtain ⟨g', hga', -, e⟩ := h3 (i * 4 + j) u ((hg j hj).trans hu)
    rw [hga] at hga'
    simp only [Option.some.injEq, Addr.mk.injEq, and_true] at hga'
    rw [hga']
    exact e
  exact ⟨g, p.1, hga, hlt, hc 0 _ (by omega) rfl, hc 1 _ (by omega) rfl, hc 2 _ (by omega) rfl, hc 3 _ (by omega) rfl, toks_at (h2 p (List.mem_of_getElem? hp)).1⟩

/-- Diagnostics, as they are read. -/
def DiagsAt (F : ByteArray) (D : List Dg) (v : Value) (w : World) : Prop :=
  ∃ a cap, v = .slice a D.length cap ∧ D.length ≤ cap ∧ cap ≤ maxLen ∧ ∀ i d, D[i]? = some d → ∃ g, a = some ⟨g, 0, none⟩ ∧ g < w.heap.size ∧
    w.cell? ⟨g, i * 4, none⟩ = some (.int .i64 (d.c : Int)) ∧ w.cell? ⟨g, i * 4 + 1, none⟩ = some (.string F) ∧ w.cell? ⟨g, i * 4 + 2, none⟩ = some (.int .i64 (d.f : Int)) ∧ w.cell? ⟨g, i * 4 + 3, none⟩ = some (.int .i64 (d.t : Int))
theorem DRow.at {W : World} {F : ByteArray} {v : Value} {D : List Dg} {w : World} (h : DRow W F v D w) : DiagsAt F D v w := by
  obtain ⟨a, cap, hv, c1, c2, h3⟩ := row_form h.1
  refine ⟨a, cap, hv, c1, c2, fun i d hi => ?_⟩
  have hg := fun j (hj : j < 4) => flat_get (f := dcell F) (n := 4) (fun _ => rfl) D i d hi j hj
  obtain ⟨g, hga, hlt, e0⟩ := h3 (i * 4 + 0) _ ((hg 0 (by omega)).trans rfl)
  have hc : ∀ j u, j < 4 → (dcell F d)[j]? = some u → w.cell? ⟨g, i * 4 + j, none⟩ = some u := by
    intro j u hj hu
    obtain ⟨g', hga', -, e⟩ := h3 (i * 4 + j) u ((hg j hj).trans hu)
    rw [hga] at hga'
    simp only [Option.some.injEq, Addr.mk.injEq, and_true] at hga'
    rw [hga']
    exact e
  exact ⟨g, hga, hlt, hc 0 _ (by omega) rfl, hc 1 _ (by omega) rfl, hc 2 _ (by omega) rfl, hc 3 _ (by omega) rfl⟩

def awR1 : Acc := ⟨6, false, [], [⟨[⟨1, [97], false, 0, 1⟩, ⟨5, [43, 43], false, 1, 3⟩, ⟨5, [43], false, 3, 4⟩, ⟨1, [98], false, 4, 5⟩], 0, 6, false⟩], []⟩
theorem aw_one : linesA (charsL (⟨#[97, 43, 43, 43, 98, 10]⟩ : ByteArray).data.toList) 6 = awR1 := by rfl
def awR2 : Acc := ⟨4, false, [], [⟨[], 0, 4, true⟩], [⟨1, 0, 2⟩]⟩
theorem aw_two : linesA (charsL (⟨#[47, 42, 32, 120]⟩ : ByteArray).data.toList) 4 = awR2 := by rfl
theorem aw_lsh : oneL (⟨#[60, 60, 61]⟩ : ByteArray).data.toList = some 5 := by rfl
theorem aw_ab : oneL (⟨#[97, 32, 98]⟩ : ByteArray).data.toList = none := by rfl

end Go.Proofs.Ytipipookgcdfbaa

/-
  awake of the law: what the document fixes.
-/
namespace Go.Proofs.Ytipipookgcdfbaa
open Go.RowKit

def Aw3 (v : Value) (W : World) (e : Ending) (w : World) : Prop := e = .returned v ∧ Below W.heap.size W w
theorem aw_one1 (W : World) : Calls Try.prog 33 #[.string ⟨#[60, 60, 61]⟩] W (Aw3 (.tuple #[.agg #[.int .i64 5, .string ⟨#[60, 60, 61]⟩, .bool false, .string ⟨#[]⟩, .int .i64 0, .int .i64 0, .bool false, .slice none 0 0], .bool true]) W) := by
  refine (one_any ⟨#[60, 60, 61]⟩ W (by decide)).mono ?_
  rintro e w ⟨h1, h2⟩
  rw [aw_lsh] at h1
  exact ⟨h1, h2⟩
theorem aw_one2 (W : World) : Calls Try.prog 33 #[.string ⟨#[97, 32, 98]⟩] W (Aw3 (.tuple #[.agg #[.int .i64 0, .string ⟨#[]⟩, .bool false, .string ⟨#[]⟩, .int .i64 0, .int .i64 0, .bool false, .slice none 0 0], .bool false]) W) := by
  refine (one_any ⟨#[97, 32, 98]⟩ W (by decide)).mono ?_
  rintro e w ⟨h1, h2⟩
  rw [aw_ab] at h1
  exact ⟨h1, h2⟩

def AwakePost (W : World) (e : Ending) (w' : World) : Prop := e = .returned (.bool true) ∧ Below W.heap.size W w'

theorem bcell {W w1 : World} (hb : Below W.heap.size W w1) {b o : Nat} {v : Value} (h : W.cell? ⟨b, o, none⟩ = some v) (hlt : b < W.heap.size) : w1.cell? ⟨b, o, none⟩ = some v := (hb.cell (p := ⟨b, o, none⟩) hlt).trans h

theorem bcell_al {W w1 : World} {o : Obj} (hb : Below (W.alloc o).heap.size (W.alloc o) w1) {b k : Nat} {v : Value} (h : W.cell? ⟨b, k, none⟩ = some v) (hlt : b < W.heap.size) : w1.cell? ⟨b, k, none⟩ = some v := by
  rw [hb.cell (p := ⟨b, k, none⟩) (by simp; omega)]
  exact (World.cell?_alloc_lt W o ⟨b, k, none⟩ hlt).trans h
theorem bcell_new {W w1 : World} {cs : Array Value} {T : TypeId} (hb : Below (W.alloc (.cells cs T)).heap.size (W.alloc (.cells cs T)) w1) {k : Nat} {v : Value} (h : cs[k]? = some v) : w1.cell? ⟨W.heap.size, k, none⟩ = some v := by
  rw [hb.cell (p := ⟨W.heap.size, k, none⟩) (by simp), Lib.cell_of_heap (heap_alloc_new W (.cells cs T))]
  exact h

end Go.Proofs.Ytipipookgcdfbaa

/-
  Two pieces of a text, over lists: what stands in them is what stands in the whole, unless it was cut within what belongs together.
-/
namespace Go.Proofs.Ytipipookgcdfbaa

/-- The first piece ends with nothing that may begin a trigraph or a splice. -/
def Whole (a : List UInt8) : Prop :=
  (0 < a.length → a.getD (a.length - 1) 0 ≠ 63 ∧ a.getD (a.length - 1) 0 ≠ 92) ∧ (2 < a.length → ¬ (a.getD (a.length - 3) 0 = 63 ∧ a.getD (a.length - 2) 0 = 63 ∧ a.getD (a.length - 1) 0 = 47))

theorem get_left {a b : List UInt8} {i : Nat} (h : i < a.length) : (a ++ b).getD i 0 = a.getD i 0 := by
  simp only [List.getD]
  rw [List.getElem?_append_left h]
theorem get_right (a b : List UInt8) (j : Nat) : (a ++ b).getD (a.length + j) 0 = b.getD j 0 := by
  simp only [List.getD]
  rw [List.getElem?_append_right (by omega)]
  congr 2
  omega

theorem triAt_left {a b : List UInt8} (hw : Whole a) {i : Nat} (hi : i < a.length) : triAt (a ++ b) i = triAt a i := by
  by_cases h2 : i + 2 < a.length
  · unfold triAt
    rw [get_left hi, get_left (i := i + 1) (by omega), get_left (i := i + 2) (by omega), List.length_append]
    by_cases h : a.getD i 0 = 63 ∧ a.getD (i + 1) 0 = 63
    · rw [if_pos ⟨by omega, h⟩, if_pos ⟨h2, h⟩]
    · rw [if_neg fun h1 => h h1.2, if_neg fun h1 => h h1.2]
  · have e1 : triAt a i = none := by
      unfold triAt
      rw [if_neg fun h1 => h2 h1.1]
    rw [e1]
    have hl := (hw.1 (by omega)).1
    by_cases h1 : i + 1 < a.length
    · apply triAt_not2
      rw [get_left h1, show i + 1 = a.length - 1 from by omega]
      exact hl
    · apply triAt_not
      rw [get_left hi, show i = a.length - 1 from by omega]
      exact hl

theorem one_left {a b : List UInt8} (hw : Whole a) {i : Nat} (hi : i < a.length) : one (a ++ b) i = one a i := by
  unfold one
  rw [triAt_left hw hi, get_left hi]

theorem spl_left {a b : List UInt8} (hw : Whole a) {i : Nat} (hi : i < a.length) : spl (a ++ b) (one a i) = spl a (one a i) := by
  have ht := one_t a i
  by_cases h : (one a i).t < a.length
  · unfold spl
    rw [get_left h, List.length_append]
    rw [decide_eq_true h, decide_eq_true (show (one a i).t < a.length + b.length from by omega)]
  · have hc : (one a i).c ≠ 92 := by
      cases htr : triAt a i with
      | none =>
        have e : one a i = ⟨a.getD i 0, i, i + 1⟩ := by unfold one; rw [htr]
        rw [e] at h ⊢
        simp only at h
        have := (hw.1 (by omega)).2
        rw [show a.length - 1 = i from by omega] at this
        exact this
      | some d =>
        have e : one a i = ⟨d, i, i + 3⟩ := by unfold one; rw [htr]
        have hs := triAt_some htr
        rw [e] at h ⊢
        simp only at h
        have h3 := hw.2 (by omega)
        rw [show a.length - 3 = i from by omega, show a.length - 2 = i + 1 from by omega, show a.length - 1 = i + 2 from by omega] at h3
        intro hd
        have hd' : d = 92 := hd
        apply h3
        refine ⟨hs.2.1, hs.2.2.1, ?_⟩
        have h4 := hs.2.2.2
        rw [hd'] at h4
        generalize a.getD (i + 2) 0 = x at h4
        unfold tri at h4
        repeat' (split at h4)
        all_goals (first | assumption | (exact absurd h4 (by decide)) | cases h4)
    unfold spl
    rw [decide_eq_false hc]
    rfl

theorem tk_left {a b : List UInt8} (hw : Whole a) {i : Nat} (hi : i < a.length) : tk (a ++ b) i = tk a i := by
  unfold tk
  rw [one_left hw hi, spl_left hw hi]

theorem chs_left {a b : List UInt8} (hw : Whole a) : ∀ (n i : Nat), a.length - i ≤ n → i ≤ a.length → chs (a ++ b) i = chs a i ++ chs (a ++ b) a.length
  | 0, i, h, hi => by
    have e : i = a.length := by omega
    rw [e, chs_end (l := a) (Nat.le_refl _)]
    rfl
  | n + 1, i, h, hi => by
    by_cases hlt : i < a.length
    · have ht := tk_t a i
      rw [chs_step (l := a ++ b) (by rw [List.length_append]; omega), chs_step hlt, tk_left hw hlt, chs_left hw n (tk a i).1.t (by omega) (ht.2.2 hlt), List.append_assoc]
    · have e : i = a.length := by omega
      rw [e, chs_end (l := a) (Nat.le_refl _)]
      rfl

def sh (n : Nat) (r : Rn) : Rn := ⟨r.c, n + r.f, n + r.t⟩

theorem triAt_right (a b : List UInt8) (j : Nat) : triAt (a ++ b) (a.length + j) = triAt b j := by
  unfold triAt
  rw [get_right, Nat.add_assoc, Nat.add_assoc, get_right, get_right, List.length_append]
  by_cases h : j + 2 < b.length ∧ b.getD j 0 = 63 ∧ b.getD (j + 1) 0 = 63
  · rw [if_pos h, if_pos ⟨by omega, h.2⟩]
  · rw [if_neg h, if_neg]
    rintro ⟨h1, h2⟩
    exact h ⟨by omega, h2⟩

theorem one_right (a b : List UInt8) (j : Nat) : one (a ++ b) (a.length + j) = sh a.length (one b j) := by
  unfold one
  rw [triAt_right, get_right]
  split <;> rfl

theorem spl_right (a b : List UInt8) (r : Rn) : spl (a ++ b) (sh a.length r) = spl b r := by
  unfold spl sh
  simp only
  rw [get_right, List.length_append]
  congr 2
  simp

theorem tk_right (a b : List UInt8) (j : Nat) : tk (a ++ b) (a.length + j) = (sh a.length (tk b j).1, (tk b j).2) := by
  unfold tk
  rw [one_right, spl_right]
  split <;> rfl

theorem chs_right (a b : List UInt8) : ∀ (n j : Nat), b.length - j ≤ n → chs (a ++ b) (a.length + j) = (chs b j).map (sh a.length)
  | 0, j, h => by
    rw [chs_end (l := b) (by omega), chs_end (by rw [List.length_append]; omega)]
    rfl
  | n + 1, j, h => by
    by_cases hlt : j < b.length
    · have ht := tk_t b j
      rw [chs_step (by rw [List.length_append]; omega), chs_step hlt, tk_right, List.map_append]
      show _ ++ chs (a ++ b) (a.length + (tk b j).1.t) = _
      rw [chs_right a b n (tk b j).1.t (by omega)]
      split <;> rfl
    · rw [chs_end (l := b) (by omega), chs_end (by rw [List.length_append]; omega)]
      rfl

theorem chs_append {a b : List UInt8} (hw : Whole a) : chs (a ++ b) 0 = chs a 0 ++ (chs b 0).map (sh a.length) := by
  rw [chs_left hw a.length 0 (by omega) (by omega)]
  have := chs_right a b b.length 0 (by omega)
  rw [Nat.add_zero] at this
  rw [this]

theorem filter_all {L : List Rn} {p : Rn → Bool} (h : ∀ r ∈ L, p r = true) : L.filter p = L := List.filter_eq_self.2 h
theorem filter_none {L : List Rn} {p : Rn → Bool} (h : ∀ r ∈ L, p r = false) : L.filter p = [] := List.filter_eq_nil_iff.2 fun r hr => by rw [h r hr]; simp

theorem backL_whole (l : List UInt8) (b : Int) (hb : (l.length : Int) ≤ b) : backL l 0 b = (chs l 0).map Rn.c := by
  unfold backL bk
  rw [filter_all]
  intro r hr
  have := chs_mem l _ 0 (Nat.le_refl _) r hr
  unfold within
  simp
  omega

theorem map_sh (n : Nat) (L : List Rn) : (L.map (sh n)).map Rn.c = L.map Rn.c := by
  rw [List.map_map]
  rfl

theorem back_parts {a b : List UInt8} (hw : Whole a) : backL (a ++ b) 0 ((a.length : Int) + b.length) = backL a 0 a.length ++ backL b 0 b.length := by
  rw [backL_whole (a ++ b) ((a.length : Int) + b.length) (by rw [List.length_append]; omega), backL_whole a a.length (Int.le_refl _), backL_whole b b.length (Int.le_refl _), chs_append hw, List.map_append, map_sh]

theorem back_halves {a b : List UInt8} (hw : Whole a) : backL (a ++ b) 0 a.length ++ backL (a ++ b) a.length ((a.length : Int) + b.length) = backL (a ++ b) 0 ((a.length : Int) + b.length) := by
  rw [backL_whole (a ++ b) ((a.length : Int) + b.length) (by rw [List.length_append]; omega)]
  unfold backL bk
  rw [chs_append hw, List.filter_append, List.filter_append, List.map_append, List.map_append, List.map_append, map_sh]
  have h1 : (chs a 0).filter (within 0 a.length) = chs a 0 := filter_all fun r hr => by
    have := chs_mem a _ 0 (Nat.le_refl _) r hr
    unfold within
    simp
    omega
  have h2 : ((chs b 0).map (sh a.length)).filter (within 0 a.length) = [] := filter_none fun r hr => by
    obtain ⟨q, hq, rfl⟩ := List.mem_map.1 hr
    have := chs_mem b _ 0 (Nat.le_refl _) q hq
    unfold within sh
    simp
    omega
  have h3 : (chs a 0).filter (within a.length ((a.length : Int) + b.length)) = [] := filter_none fun r hr => by
    have := chs_mem a _ 0 (Nat.le_refl _) r hr
    unfold within
    simp
    omega
  have h4 : ((chs b 0).map (sh a.length)).filter (within a.length ((a.length : Int) + b.length)) = (chs b 0).map (sh a.length) := filter_all fun r hr => by
    obtain ⟨q, hq, rfl⟩ := List.mem_map.1 hr
    have := chs_mem b _ 0 (Nat.le_refl _) q hq
    unfold within sh
    simp
    omega
  rw [h1, h2, h3, h4, map_sh]
  simp

end Go.Proofs.Ytipipookgcdfbaa

/-
  Characters stand in order; a text without questions and backslashes is itself; over lists.
-/
namespace Go.Proofs.Ytipipookgcdfbaa

def Ord (n : Nat) : Nat → List Rn → Prop
  | _, [] => True
  | a, r :: q => a ≤ r.f ∧ r.f ≤ r.t ∧ r.t ≤ n ∧ r.t ≤ r.f + 3 ∧ Ord n r.t q

theorem Ord.low {n : Nat} {a b : Nat} (h : a ≤ b) : ∀ {L : List Rn}, Ord n b L → Ord n a L
  | [], _ => trivial
  | _ :: _, hL => ⟨Nat.le_trans h hL.1, hL.2⟩

theorem chs_ord (l : List UInt8) : ∀ (n i : Nat), l.length - i ≤ n → Ord l.length i (chs l i)
  | 0, i, h => by
    rw [chs_end (by omega)]
    trivial
  | n + 1, i, h => by
    by_cases hi : i < l.length
    · have ht := tk_t l i
      have hn := chs_ord l n (tk l i).1.t (by omega)
      rw [chs_step hi]
      cases hs : (tk l i).2 with
      | false => exact Ord.low (by omega) hn
      | true =>
        have h2 := tk_stands hs
        have h3 := one_t l i
        rw [if_pos rfl]
        refine ⟨by rw [tk_f]; exact Nat.le_refl _, by rw [tk_f]; omega, ht.2.2 hi, ?_, hn⟩
        rw [tk_f, h2]
        exact h3.2.1
    · rw [chs_end (by omega)]
      trivial

theorem Ord.snoc {n c : Nat} : ∀ {L : List Rn} {a : Nat}, Ord n a L → a ≤ n → Ord n a (L ++ [⟨UInt8.ofNat c, n, n⟩])
  | [], a, _, ha => ⟨ha, Nat.le_refl _, Nat.le_refl _, by simp, trivial⟩
  | _ :: _, _, h, _ => ⟨h.1, h.2.1, h.2.2.1, h.2.2.2.1, Ord.snoc h.2.2.2.2 h.2.2.1⟩

theorem charsL_ord (l : List UInt8) : Ord l.length 0 (charsL l) := by
  have h := chs_ord l _ 0 (Nat.le_refl _)
  unfold charsL withNl
  split
  · trivial
  · split
    · exact h
    · exact Ord.snoc (c := 10) h (Nat.zero_le _)

theorem Ord.step {n a k : Nat} {L : List Rn} {r : Rn} (h : Ord n a (L.drop k)) (hr : L[k]? = some r) : a ≤ r.f ∧ r.f ≤ r.t ∧ r.t ≤ n ∧ r.t ≤ r.f + 3 ∧ Ord n r.t (L.drop (k + 1)) := by
  obtain ⟨hk, rfl⟩ := List.getElem?_eq_some_iff.1 hr
  rw [List.drop_eq_getElem_cons hk] at h
  exact h

/-- No question and no backslash among the first k. -/
def plB (l : List UInt8) (k : Nat) : Bool := (l.take k).all fun c => decide (c ≠ 63) && decide (c ≠ 92)
theorem plB_zero (l : List UInt8) : plB l 0 = true := rfl
theorem plB_step {l : List UInt8} {k : Nat} (h : k < l.length) : plB l (k + 1) = (plB l k && (decide (l.getD k 0 ≠ 63) && decide (l.getD k 0 ≠ 92))) := by
  unfold plB
  rw [List.take_succ_eq_append_getElem h, List.all_append]
  simp [List.getD, List.getElem?_eq_getElem h]

theorem plB_get {l : List UInt8} (h : plB l l.length = true) {i : Nat} (hi : i < l.length) : l.getD i 0 ≠ 63 ∧ l.getD i 0 ≠ 92 := by
  unfold plB at h
  rw [List.take_length, List.all_eq_true] at h
  have := h _ (List.getElem_mem hi)
  simp only [Bool.and_eq_true, decide_eq_true_eq] at this
  simpa [List.getD, List.getElem?_eq_getElem hi] using this

theorem tk_plain {l : List UInt8} (h : plB l l.length = true) {i : Nat} (hi : i < l.length) : tk l i = (⟨l.getD i 0, i, i + 1⟩, true) :=
  tk_byte (triAt_not (plB_get h hi).1) (plB_get h hi).2

theorem chs_plain {l : List UInt8} (h : plB l l.length = true) : ∀ (n i : Nat), l.length - i ≤ n → i ≤ l.length → chs l i = (l.drop i).zipIdx.map (fun p => (⟨p.1, i + p.2, i + p.2 + 1⟩ : Rn)) 
  | 0, i, hn, hi => by
    rw [chs_end (by omega), List.drop_eq_nil_of_le (by omega)]
    rfl
  | n + 1, i, hn, hi => by
    by_cases hlt : i < l.length
    · rw [chs_step hlt, tk_plain h hlt, chs_plain h n (i + 1) (by omega) hlt, List.drop_eq_getElem_cons hlt]
      rw [if_pos rfl, List.zipIdx_cons, List.map_cons, List.singleton_append]
      congr 1
      · simp [List.getD, List.getElem?_eq_getElem hlt]
      · rw [List.zipIdx_succ, List.map_map]
        apply List.map_congr_left
        rintro ⟨c, j⟩ -
        simp
        omega
    · rw [chs_end (by omega), List.drop_eq_nil_of_le (by omega)]
      rfl

theorem chs_plain_get {l : List UInt8} (h : plB l l.length = true) {k : Nat} (hk : k < l.length) : (chs l 0)[k]? = some ⟨l.getD k 0, k, k + 1⟩ := by
  rw [chs_plain h _ 0 (Nat.le_refl _) (Nat.zero_le _), List.drop_zero, List.getElem?_map, List.getElem?_zipIdx, List.getElem?_eq_getElem hk]
  simp [List.getD, List.getElem?_eq_getElem hk]

theorem chs_plain_map {l : List UInt8} (h : plB l l.length = true) : (chs l 0).map Rn.c = l := by
  rw [chs_plain h _ 0 (Nat.le_refl _) (Nat.zero_le _), List.drop_zero, List.map_map]
  exact List.zipIdx_map_fst 0 l

theorem charsL_plain {l : List UInt8} (h : plB l l.length = true) {k : Nat} (hk : k < l.length) : (charsL l)[k]? = some ⟨l.getD k 0, k, k + 1⟩ := by
  have h1 := chs_plain_get h hk
  unfold charsL withNl
  rw [if_neg (by intro e; rw [e] at hk; simp at hk)]
  split
  · exact h1
  · obtain ⟨hlt, -⟩ := List.getElem?_eq_some_iff.1 h1
    rw [List.getElem?_append_left hlt]
    exact h1

theorem back_plain {l : List UInt8} (h : plB l l.length = true) : backL l 0 l.length = l := by
  rw [backL_whole l _ (Int.le_refl _), chs_plain_map h]

theorem charsL_count (l : List UInt8) : (charsL l).length ≤ l.length + 1 ∧ (l ≠ [] → 0 < (charsL l).length) := by
  have h := chs_len l _ 0 (Nat.le_refl _)
  unfold charsL withNl
  split
  · rename_i h0
    exact ⟨by simp, fun h1 => absurd h0 h1⟩
  · split
    · rename_i h1
      refine ⟨by omega, fun _ => ?_⟩
      cases hc : chs l 0 with
      | nil => rw [hc] at h1; cases h1
      | cons a q => simp
    · exact ⟨by simp; omega, fun _ => by simp⟩

theorem charsL_last {l : List UInt8} {m : Nat} {r : Rn} (hm : (charsL l).length = m + 1) (hr : (charsL l)[m]? = some r) : r.c = 10 := by
  have h : (charsL l).getLast? = some r := by rw [List.getLast?_eq_getElem?, hm]; exact hr
  unfold charsL at h
  split at h
  · cases h
  · unfold withNl at h
    split at h
    · rename_i h1
      unfold endsNl at h1
      rw [h] at h1
      simpa using h1
    · simp at h
      rw [← h]

end Go.Proofs.Ytipipookgcdfbaa
